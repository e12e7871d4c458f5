/-
  DERIVED. GIVEN WITH THE SEED: THE CARDS: each row of YtjkfihngkfphfaaDoorRows.lean that lists a variable, with what it lists TIED to the program's text (the seventh form; the later family's looks); each row that meets fmt, with fmt's text TOLD by the authors' own Lean function (tested against real Go, not proved from fmt's source: count such statements apart). THE CARD IS WHAT COUNTS. Prove the row's statement (the work); the ties are given (YtjkfihngkfphfaaDoorTie.lean); close each card by the builder's one call (the guide's Derived/Test/ToyasCard.lean, 'card_holds'). Laid BY PROGRAM, IN A SANDBOX (cutbox-door.mjs). By AI agents, Wed Nov 11 2026. No macro, syntax, notation, axiom, sorry.
-/
import Derived.Test.YtjkfihngkfphfaaDoorRows
import GoSem.ClaimSeven
namespace Go.Proofs.YtjkfihngkfphfaaDoor
namespace Rows

/-- THE TIED CARD OF 'eddylaw10.DiskNews'. -/
def diskNewsCard : Claim7 := { stood := { row := diskNewsRow, standIns := [], harness := (true, "5967e14b1c0b8a78ce935efcc6c1ab72f70e5f0bf76eccdf0d0c61e1ae25db63"), looks := false }, kinds := [], alts := [], laidByText := true, laidKinds := [.data, .pinned], laidTests := true, laidLooks := .later }
def DiskNewsCardSaid : Prop := Claim7.holds Tryd.pinned (.plain (OpenSpec.ofChange diskNewsSpec)) diskNewsCard

/-- THE SECOND FORM's CARD OF 'eddylaw10.DiskNews'. -/
def diskNewsUptoCard : Claim7 := { stood := { row := diskNewsUptoRow, standIns := [], harness := (true, "5967e14b1c0b8a78ce935efcc6c1ab72f70e5f0bf76eccdf0d0c61e1ae25db63"), looks := false }, kinds := [], alts := [], laidByText := true, laidKinds := [.data, .pinned], laidTests := true, laidLooks := .later }
def DiskNewsUptoCardSaid : Prop := Claim7.holds Tryd.pinned (.plain (OpenSpec.upto diskNewsSpec)) diskNewsUptoCard
end Rows
end Go.Proofs.YtjkfihngkfphfaaDoor
