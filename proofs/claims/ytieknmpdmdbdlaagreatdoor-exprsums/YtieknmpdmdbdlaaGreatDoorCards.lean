/-
  DERIVED. GIVEN WITH THE SEED: THE CARDS: each row of YtieknmpdmdbdlaaGreatDoorRows.lean that lists a variable, with what it lists TIED to the program's text (the seventh form; the later family's looks); each row that meets fmt, with fmt's text TOLD by the authors' own Lean function (tested against real Go, not proved from fmt's source: count such statements apart). THE CARD IS WHAT COUNTS. Prove the row's statement (the work); the ties are given (YtieknmpdmdbdlaaGreatDoorTie.lean); close each card by the builder's one call (the guide's Derived/Test/ToyasCard.lean, 'card_holds'). Laid BY PROGRAM, IN A SANDBOX (cutbox-door.mjs). By AI agents, Wed Nov 11 2026. No macro, syntax, notation, axiom, sorry.
-/
import Derived.Test.YtieknmpdmdbdlaaGreatDoorRows
import GoSem.ClaimSeven
namespace Go.Proofs.YtieknmpdmdbdlaaGreatDoor
namespace Rows

/-- THE TIED CARD OF 'eddylaw3.ExprDivides'. -/
def exprDividesCard : Claim7 := { stood := { row := exprDividesRow, standIns := [], harness := (true, "9759a6b6d37217f6edd8a5d016e3c5d6366ee08c873bea162ef3bd77afc957cf"), looks := true }, kinds := [], alts := [], laidByText := true, laidKinds := [.data, .data, .data, .data, .sentinel, .sentinel, .pinned], laidTests := true, laidLooks := .later }
def ExprDividesCardSaid : Prop := Claim7.holds Tryz.pinned (.plain (OpenSpec.ofChange exprDividesSpec)) exprDividesCard

/-- THE TIED CARD OF 'eddylaw3.ExprSums'. -/
def exprSumsCard : Claim7 := { stood := { row := exprSumsRow, standIns := [], harness := (true, "9759a6b6d37217f6edd8a5d016e3c5d6366ee08c873bea162ef3bd77afc957cf"), looks := true }, kinds := [], alts := [], laidByText := true, laidKinds := [.data, .data, .data, .data, .sentinel, .sentinel, .pinned], laidTests := true, laidLooks := .later }
def ExprSumsCardSaid : Prop := Claim7.holds Tryz.pinned (.plain (OpenSpec.ofChange exprSumsSpec)) exprSumsCard

/-- THE SECOND FORM's CARD OF 'eddylaw3.ExprDivides'. -/
def exprDividesUptoCard : Claim7 := { stood := { row := exprDividesUptoRow, standIns := [], harness := (true, "9759a6b6d37217f6edd8a5d016e3c5d6366ee08c873bea162ef3bd77afc957cf"), looks := true }, kinds := [], alts := [], laidByText := true, laidKinds := [.data, .data, .data, .data, .sentinel, .sentinel, .pinned], laidTests := true, laidLooks := .later }
def ExprDividesUptoCardSaid : Prop := Claim7.holds Tryz.pinned (.plain (OpenSpec.upto exprDividesSpec)) exprDividesUptoCard

/-- THE SECOND FORM's CARD OF 'eddylaw3.ExprSums'. -/
def exprSumsUptoCard : Claim7 := { stood := { row := exprSumsUptoRow, standIns := [], harness := (true, "9759a6b6d37217f6edd8a5d016e3c5d6366ee08c873bea162ef3bd77afc957cf"), looks := true }, kinds := [], alts := [], laidByText := true, laidKinds := [.data, .data, .data, .data, .sentinel, .sentinel, .pinned], laidTests := true, laidLooks := .later }
def ExprSumsUptoCardSaid : Prop := Claim7.holds Tryz.pinned (.plain (OpenSpec.upto exprSumsSpec)) exprSumsUptoCard
end Rows
end Go.Proofs.YtieknmpdmdbdlaaGreatDoor
