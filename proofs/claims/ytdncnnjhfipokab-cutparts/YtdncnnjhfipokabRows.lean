/-
  NARROWER THAN 'FOR EVERY INPUT', by the rows' own cells (each row's printed sentence says how): CutMarks: loops · CutTooks: loops · CutParts: loops · CutPlays: loops.
  DERIVED. THE GIVEN ROWS OF THIS SEAT. 4 by the template 'for every input the law returns true; each argument reads behind the call as it read before'; 0 by the template 'total and deterministic' (their statements: YtdncnnjhfipokabTotals.lean).
  GIVEN WITH THE SEED: the statements are not yours to turn. If you find one false, say at which input.
  Laid BY PROGRAM, IN A SANDBOX (cutbox-rows.mjs): the forced cells as the released guide's own fill.sh prints them over the translation 0d6b6dd7789a7dee… (all of the seat's roots in one cut). By AI agents, Wed Nov 11 2026. No macro, syntax, notation, axiom, sorry.
-/
import Derived.Test.YtdncnnjhfipokabChecked
import GoSem.Claim
import GoSem.ClaimJoined
import GoSem.ClaimMapViews
import Derived.JoinedTies
import Derived.KernelRfl
namespace Go.Proofs.Ytdncnnjhfipokab
/- THE CELL 'sum', in the pinned program and in every row, IS THE sha256 OF THE DUMP (.gsa) THAT YtdncnnjhfipokabProg.lean LOADS. Nothing in Lean hashes anything: it is a label: what it is worth is what the hold of that sum in a sandbox is worth. -/
noncomputable def Try.pinned : Pinned := { name := "ytdncnnjhfipokab", sum := "0d6b6dd7789a7deecdcebf84d68dff43d72cad0d41fee425b84648b680669905", checked := Try.checked }
namespace Rows
def none {H : Type} : Left H := { results := [], args := [] }

/-- 'eddylaw13.CutMarks': WHATEVER THE INPUT: true; the input reads as it did. -/
def cutMarksSpec : ChangeSpec := { name := "cutMarks", fn := fun _ => fun
  | [d1, d2, d3, d4] => { results := [.lit (.bool true)], args := [d1, d2, d3, d4] }
  | _ => none }
def cutMarksRow : OpenClaim := { program := "ytdncnnjhfipokab", sum := "0d6b6dd7789a7deecdcebf84d68dff43d72cad0d41fee425b84648b680669905", func := "eddy/eddylaw13.CutMarks", spec := "cutMarks", unfollowed := true, recurses := true, loops := true, apart := false }
def CutMarksSaid : Prop := cutMarksRow.holds Try.pinned (OpenSpec.ofChange cutMarksSpec)

/-- ITS FALSE NEIGHBOUR: 'it returns false'. Refute it at one input. -/
def cutMarksWrong : ChangeSpec := { name := "cutMarks", fn := fun _ => fun
  | [d1, d2, d3, d4] => { results := [.lit (.bool false)], args := [d1, d2, d3, d4] }
  | _ => none }
def CutMarksWrongFalsely : Prop := cutMarksRow.holds Try.pinned (OpenSpec.ofChange cutMarksWrong)

/-- 'eddylaw13.CutTooks': WHATEVER THE INPUT: true; the input reads as it did. -/
def cutTooksSpec : ChangeSpec := { name := "cutTooks", fn := fun _ => fun
  | [d1, d2, d3, d4] => { results := [.lit (.bool true)], args := [d1, d2, d3, d4] }
  | _ => none }
def cutTooksRow : OpenClaim := { program := "ytdncnnjhfipokab", sum := "0d6b6dd7789a7deecdcebf84d68dff43d72cad0d41fee425b84648b680669905", func := "eddy/eddylaw13.CutTooks", spec := "cutTooks", unfollowed := true, recurses := true, loops := true, apart := false }
def CutTooksSaid : Prop := cutTooksRow.holds Try.pinned (OpenSpec.ofChange cutTooksSpec)

/-- ITS FALSE NEIGHBOUR: 'it returns false'. Refute it at one input. -/
def cutTooksWrong : ChangeSpec := { name := "cutTooks", fn := fun _ => fun
  | [d1, d2, d3, d4] => { results := [.lit (.bool false)], args := [d1, d2, d3, d4] }
  | _ => none }
def CutTooksWrongFalsely : Prop := cutTooksRow.holds Try.pinned (OpenSpec.ofChange cutTooksWrong)

/-- 'eddylaw13.CutParts': WHATEVER THE INPUT: true; the input reads as it did. -/
def cutPartsSpec : ChangeSpec := { name := "cutParts", fn := fun _ => fun
  | [d1, d2, d3, d4] => { results := [.lit (.bool true)], args := [d1, d2, d3, d4] }
  | _ => none }
def cutPartsRow : OpenClaim := { program := "ytdncnnjhfipokab", sum := "0d6b6dd7789a7deecdcebf84d68dff43d72cad0d41fee425b84648b680669905", func := "eddy/eddylaw13.CutParts", spec := "cutParts", unfollowed := true, recurses := true, loops := true, apart := false }
def CutPartsSaid : Prop := cutPartsRow.holds Try.pinned (OpenSpec.ofChange cutPartsSpec)

/-- ITS FALSE NEIGHBOUR: 'it returns false'. Refute it at one input. -/
def cutPartsWrong : ChangeSpec := { name := "cutParts", fn := fun _ => fun
  | [d1, d2, d3, d4] => { results := [.lit (.bool false)], args := [d1, d2, d3, d4] }
  | _ => none }
def CutPartsWrongFalsely : Prop := cutPartsRow.holds Try.pinned (OpenSpec.ofChange cutPartsWrong)

/-- 'eddylaw13.CutPlays': WHATEVER THE INPUT: true; the input reads as it did. -/
def cutPlaysSpec : ChangeSpec := { name := "cutPlays", fn := fun _ => fun
  | [d1, d2, d3, d4] => { results := [.lit (.bool true)], args := [d1, d2, d3, d4] }
  | _ => none }
def cutPlaysRow : OpenClaim := { program := "ytdncnnjhfipokab", sum := "0d6b6dd7789a7deecdcebf84d68dff43d72cad0d41fee425b84648b680669905", func := "eddy/eddylaw13.CutPlays", spec := "cutPlays", unfollowed := true, recurses := true, loops := true, apart := false }
def CutPlaysSaid : Prop := cutPlaysRow.holds Try.pinned (OpenSpec.ofChange cutPlaysSpec)

/-- ITS FALSE NEIGHBOUR: 'it returns false'. Refute it at one input. -/
def cutPlaysWrong : ChangeSpec := { name := "cutPlays", fn := fun _ => fun
  | [d1, d2, d3, d4] => { results := [.lit (.bool false)], args := [d1, d2, d3, d4] }
  | _ => none }
def CutPlaysWrongFalsely : Prop := cutPlaysRow.holds Try.pinned (OpenSpec.ofChange cutPlaysWrong)

/- THE SECOND FORM. 'bulk': how many values and letters a reading holds, each counted each time it is reached (what is shared counts as often as it is met; a slice's spare places count too). A statement '..UptoSaid' is the law's where the arguments, and the package variables that the reading takes, are together of bulk at most 1048576: NARROWER than '..Said'. Prove '..Said' where nothing that the law and all that it calls make is longer than what came in: it says more and counts as full. Else prove '..UptoSaid'. A law counts once. -/
mutual
def uptoBulk {H : Type} : DataW H → Nat
  | .lit (.string bytes) => bytes.length + 1
  | .lit _ => 1
  | .nil => 1
  | .ptr d => uptoBulk d + 1
  | .slice elems spare => uptoBulkAll elems + uptoBulkAll spare + 1
  | .agg parts => uptoBulkAll parts + 1
  | .iface _ d => uptoBulk d + 1
  | .map entries => uptoBulkEntries entries + 1
  | .held _ => 1
def uptoBulkAll {H : Type} : List (DataW H) → Nat
  | [] => 0
  | d :: r => uptoBulk d + uptoBulkAll r
def uptoBulkEntries {H : Type} : List (Lit × DataW H) → Nat
  | [] => 0
  | x :: r => uptoBulkEntry x + uptoBulkEntries r
def uptoBulkEntry {H : Type} : Lit × DataW H → Nat
  | (.string bytes, d) => bytes.length + uptoBulk d + 1
  | (_, d) => uptoBulk d + 1
 end
def uptoSmall : (H : Type) → List (DataW H) → Bool := fun _ ds => decide (uptoBulkAll ds ≤ 1048576)
def OpenSpec.upto (s : _root_.Go.ChangeSpec) : _root_.Go.OpenSpec := { _root_.Go.OpenSpec.ofChange s with cond := some uptoSmall }

/-- 'eddylaw13.CutMarks', WHERE WHAT IT READS IS OF BULK AT MOST 1048576: true; the input reads as it did. -/
def cutMarksUptoRow : OpenClaim := { program := "ytdncnnjhfipokab", sum := "0d6b6dd7789a7deecdcebf84d68dff43d72cad0d41fee425b84648b680669905", func := "eddy/eddylaw13.CutMarks", spec := "cutMarks", unfollowed := true, recurses := true, loops := true, apart := false, narrowed := true }
def CutMarksUptoSaid : Prop := cutMarksUptoRow.holds Try.pinned (OpenSpec.upto cutMarksSpec)

/-- 'eddylaw13.CutTooks', WHERE WHAT IT READS IS OF BULK AT MOST 1048576: true; the input reads as it did. -/
def cutTooksUptoRow : OpenClaim := { program := "ytdncnnjhfipokab", sum := "0d6b6dd7789a7deecdcebf84d68dff43d72cad0d41fee425b84648b680669905", func := "eddy/eddylaw13.CutTooks", spec := "cutTooks", unfollowed := true, recurses := true, loops := true, apart := false, narrowed := true }
def CutTooksUptoSaid : Prop := cutTooksUptoRow.holds Try.pinned (OpenSpec.upto cutTooksSpec)

/-- 'eddylaw13.CutParts', WHERE WHAT IT READS IS OF BULK AT MOST 1048576: true; the input reads as it did. -/
def cutPartsUptoRow : OpenClaim := { program := "ytdncnnjhfipokab", sum := "0d6b6dd7789a7deecdcebf84d68dff43d72cad0d41fee425b84648b680669905", func := "eddy/eddylaw13.CutParts", spec := "cutParts", unfollowed := true, recurses := true, loops := true, apart := false, narrowed := true }
def CutPartsUptoSaid : Prop := cutPartsUptoRow.holds Try.pinned (OpenSpec.upto cutPartsSpec)

/-- 'eddylaw13.CutPlays', WHERE WHAT IT READS IS OF BULK AT MOST 1048576: true; the input reads as it did. -/
def cutPlaysUptoRow : OpenClaim := { program := "ytdncnnjhfipokab", sum := "0d6b6dd7789a7deecdcebf84d68dff43d72cad0d41fee425b84648b680669905", func := "eddy/eddylaw13.CutPlays", spec := "cutPlays", unfollowed := true, recurses := true, loops := true, apart := false, narrowed := true }
def CutPlaysUptoSaid : Prop := cutPlaysUptoRow.holds Try.pinned (OpenSpec.upto cutPlaysSpec)

end Rows
end Go.Proofs.Ytdncnnjhfipokab
