/-
  DERIVED. GIVEN WITH THE SEED: THE CARDS: each row of YtoifpdnaeogdgaaDoorRows.lean that lists a variable, with what it lists TIED to the program's text (the seventh form; the later family's looks); each row that meets fmt, with fmt's text TOLD by the authors' own Lean function (tested against real Go, not proved from fmt's source: count such statements apart). THE CARD IS WHAT COUNTS. Prove the row's statement (the work); the ties are given (YtoifpdnaeogdgaaDoorTie.lean); close each card by the builder's one call (the guide's Derived/Test/ToyasCard.lean, 'card_holds'). Laid BY PROGRAM, IN A SANDBOX (cutbox-door.mjs). By AI agents, Wed Nov 11 2026. No macro, syntax, notation, axiom, sorry.
-/
import Derived.Test.YtoifpdnaeogdgaaDoorRows
import GoSem.ClaimSeven
namespace Go.Proofs.YtoifpdnaeogdgaaDoor
namespace Rows

/-- THE TIED CARD OF 'eddylaw2.ValueOrder'. -/
def valueOrderCard : Claim7 := { stood := { row := valueOrderRow, standIns := [], harness := (true, "f69ff164088c683a7d9259b44b99f99a07ef0b353013f9f7b9693e20b5a96d35"), looks := true }, kinds := [], alts := [], laidByText := true, laidKinds := [.data, .data, .data, .data, .pinned], laidTests := true, laidLooks := .later }
def ValueOrderCardSaid : Prop := Claim7.holds Tryd.pinned (.plain (OpenSpec.ofChange valueOrderSpec)) valueOrderCard

/-- THE TIED CARD OF 'eddylaw2.ValueCanon'. -/
def valueCanonCard : Claim7 := { stood := { row := valueCanonRow, standIns := [], harness := (true, "f69ff164088c683a7d9259b44b99f99a07ef0b353013f9f7b9693e20b5a96d35"), looks := true }, kinds := [], alts := [], laidByText := true, laidKinds := [.data, .data, .data, .data, .sentinel, .sentinel, .pinned], laidTests := true, laidLooks := .later }
def ValueCanonCardSaid : Prop := Claim7.holds Tryd.pinned (.plain (OpenSpec.ofChange valueCanonSpec)) valueCanonCard

/-- THE SECOND FORM's CARD OF 'eddylaw2.ValueOrder'. -/
def valueOrderUptoCard : Claim7 := { stood := { row := valueOrderUptoRow, standIns := [], harness := (true, "f69ff164088c683a7d9259b44b99f99a07ef0b353013f9f7b9693e20b5a96d35"), looks := true }, kinds := [], alts := [], laidByText := true, laidKinds := [.data, .data, .data, .data, .pinned], laidTests := true, laidLooks := .later }
def ValueOrderUptoCardSaid : Prop := Claim7.holds Tryd.pinned (.plain (OpenSpec.upto valueOrderSpec)) valueOrderUptoCard

/-- THE SECOND FORM's CARD OF 'eddylaw2.ValueCanon'. -/
def valueCanonUptoCard : Claim7 := { stood := { row := valueCanonUptoRow, standIns := [], harness := (true, "f69ff164088c683a7d9259b44b99f99a07ef0b353013f9f7b9693e20b5a96d35"), looks := true }, kinds := [], alts := [], laidByText := true, laidKinds := [.data, .data, .data, .data, .sentinel, .sentinel, .pinned], laidTests := true, laidLooks := .later }
def ValueCanonUptoCardSaid : Prop := Claim7.holds Tryd.pinned (.plain (OpenSpec.upto valueCanonSpec)) valueCanonUptoCard
end Rows
end Go.Proofs.YtoifpdnaeogdgaaDoor
