/-
  DERIVED. GIVEN WITH THE SEED: THE CARDS: each row of YtoifpdnaeogdgabDoorRows.lean that lists a variable, with what it lists TIED to the program's text (the seventh form; the later family's looks); each row that meets fmt, with fmt's text TOLD by the authors' own Lean function (tested against real Go, not proved from fmt's source: count such statements apart). THE CARD IS WHAT COUNTS. Prove the row's statement (the work); the ties are given (YtoifpdnaeogdgabDoorTie.lean); close each card by the builder's one call (the guide's Derived/Test/ToyasCard.lean, 'card_holds'). Laid BY PROGRAM, IN A SANDBOX (cutbox-door.mjs). By AI agents, Wed Nov 11 2026. No macro, syntax, notation, axiom, sorry.
-/
import Derived.Test.YtoifpdnaeogdgabDoorRows
import GoSem.ClaimSeven
namespace Go.Proofs.YtoifpdnaeogdgabDoor
namespace Rows

/-- THE TIED CARD OF 'eddylaw2.ValueLoose'. -/
def valueLooseCard : Claim7 := { stood := { row := valueLooseRow, standIns := [], harness := (true, "fa5800807a26e221b587bfa205fe00c0806b3f54599131f8a990fa8c56464eed"), looks := true }, kinds := [], alts := [], laidByText := true, laidKinds := [.data, .data, .data, .data, .sentinel, .sentinel, .pinned], laidTests := true, laidLooks := .later }
def ValueLooseCardSaid : Prop := Claim7.holds Tryd.pinned (.plain (OpenSpec.ofChange valueLooseSpec)) valueLooseCard

/-- THE SECOND FORM's CARD OF 'eddylaw2.ValueLoose'. -/
def valueLooseUptoCard : Claim7 := { stood := { row := valueLooseUptoRow, standIns := [], harness := (true, "fa5800807a26e221b587bfa205fe00c0806b3f54599131f8a990fa8c56464eed"), looks := true }, kinds := [], alts := [], laidByText := true, laidKinds := [.data, .data, .data, .data, .sentinel, .sentinel, .pinned], laidTests := true, laidLooks := .later }
def ValueLooseUptoCardSaid : Prop := Claim7.holds Tryd.pinned (.plain (OpenSpec.upto valueLooseSpec)) valueLooseUptoCard
end Rows
end Go.Proofs.YtoifpdnaeogdgabDoor
