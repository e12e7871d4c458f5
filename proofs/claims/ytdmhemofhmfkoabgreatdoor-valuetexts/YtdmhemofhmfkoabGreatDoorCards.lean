/-
  DERIVED. GIVEN WITH THE SEED: THE CARDS: each row of YtdmhemofhmfkoabGreatDoorRows.lean that lists a variable, with what it lists TIED to the program's text (the seventh form; the later family's looks); each row that meets fmt, with fmt's text TOLD by the authors' own Lean function (tested against real Go, not proved from fmt's source: count such statements apart). THE CARD IS WHAT COUNTS. Prove the row's statement (the work); the ties are given (YtdmhemofhmfkoabGreatDoorTie.lean); close each card by the builder's one call (the guide's Derived/Test/ToyasCard.lean, 'card_holds'). Laid BY PROGRAM, IN A SANDBOX (cutbox-door.mjs). By AI agents, Wed Nov 11 2026. No macro, syntax, notation, axiom, sorry.
-/
import Derived.Test.YtdmhemofhmfkoabGreatDoorRows
import GoSem.ClaimSeven
namespace Go.Proofs.YtdmhemofhmfkoabGreatDoor
namespace Rows

/-- THE TIED CARD OF 'eddylaw2.ValueWhole'. -/
def valueWholeCard : Claim7 := { stood := { row := valueWholeRow, standIns := [], harness := (true, "ddae6fb4fd95829a5898cc2b67c043126f010b65dd1a49de12f04b7782763849"), looks := true }, kinds := [], alts := [], laidByText := true, laidKinds := [.data, .data, .data, .data, .sentinel, .sentinel, .pinned], laidTests := true, laidLooks := .later }
def ValueWholeCardSaid : Prop := Claim7.holds Tryz.pinned (.plain (OpenSpec.ofChange valueWholeSpec)) valueWholeCard

/-- THE TIED CARD OF 'eddylaw2.ValueFresh'. -/
def valueFreshCard : Claim7 := { stood := { row := valueFreshRow, standIns := [], harness := (true, "ddae6fb4fd95829a5898cc2b67c043126f010b65dd1a49de12f04b7782763849"), looks := true }, kinds := [], alts := [], laidByText := true, laidKinds := [.data, .data, .data, .data, .sentinel, .sentinel, .pinned], laidTests := true, laidLooks := .later }
def ValueFreshCardSaid : Prop := Claim7.holds Tryz.pinned (.plain (OpenSpec.ofChange valueFreshSpec)) valueFreshCard

/-- THE TIED CARD OF 'eddylaw2.ValueTexts'. -/
def valueTextsCard : Claim7 := { stood := { row := valueTextsRow, standIns := [], harness := (true, "ddae6fb4fd95829a5898cc2b67c043126f010b65dd1a49de12f04b7782763849"), looks := true }, kinds := [], alts := [], laidByText := true, laidKinds := [.data, .data, .data, .data, .sentinel, .sentinel, .pinned], laidTests := true, laidLooks := .later }
def ValueTextsCardSaid : Prop := Claim7.holds Tryz.pinned (.plain (OpenSpec.ofChange valueTextsSpec)) valueTextsCard

/-- THE SECOND FORM's CARD OF 'eddylaw2.ValueWhole'. -/
def valueWholeUptoCard : Claim7 := { stood := { row := valueWholeUptoRow, standIns := [], harness := (true, "ddae6fb4fd95829a5898cc2b67c043126f010b65dd1a49de12f04b7782763849"), looks := true }, kinds := [], alts := [], laidByText := true, laidKinds := [.data, .data, .data, .data, .sentinel, .sentinel, .pinned], laidTests := true, laidLooks := .later }
def ValueWholeUptoCardSaid : Prop := Claim7.holds Tryz.pinned (.plain (OpenSpec.upto valueWholeSpec)) valueWholeUptoCard

/-- THE SECOND FORM's CARD OF 'eddylaw2.ValueFresh'. -/
def valueFreshUptoCard : Claim7 := { stood := { row := valueFreshUptoRow, standIns := [], harness := (true, "ddae6fb4fd95829a5898cc2b67c043126f010b65dd1a49de12f04b7782763849"), looks := true }, kinds := [], alts := [], laidByText := true, laidKinds := [.data, .data, .data, .data, .sentinel, .sentinel, .pinned], laidTests := true, laidLooks := .later }
def ValueFreshUptoCardSaid : Prop := Claim7.holds Tryz.pinned (.plain (OpenSpec.upto valueFreshSpec)) valueFreshUptoCard

/-- THE SECOND FORM's CARD OF 'eddylaw2.ValueTexts'. -/
def valueTextsUptoCard : Claim7 := { stood := { row := valueTextsUptoRow, standIns := [], harness := (true, "ddae6fb4fd95829a5898cc2b67c043126f010b65dd1a49de12f04b7782763849"), looks := true }, kinds := [], alts := [], laidByText := true, laidKinds := [.data, .data, .data, .data, .sentinel, .sentinel, .pinned], laidTests := true, laidLooks := .later }
def ValueTextsUptoCardSaid : Prop := Claim7.holds Tryz.pinned (.plain (OpenSpec.upto valueTextsSpec)) valueTextsUptoCard
end Rows
end Go.Proofs.YtdmhemofhmfkoabGreatDoor
