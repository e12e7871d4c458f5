/-
  NARROWER THAN 'FOR EVERY INPUT', by the rows' own cells (each row's printed sentence says how): WireKinds: loops · WireRound: loops · WireUnlike: loops · WireCut: loops.
  DERIVED. THE GIVEN ROWS OF THIS SEAT. 5 by the template 'for every input the law returns true; each argument reads behind the call as it read before'; 0 by the template 'total and deterministic' (their statements: YtfonicphdejdlaaGreatTotals.lean).
  GIVEN WITH THE SEED: the statements are not yours to turn. If you find one false, say at which input.
  Laid BY PROGRAM, IN A SANDBOX (cutbox-rows.mjs): the forced cells as the released guide's own fill.sh prints them over the translation 005f7f606ce18979… (all of the seat's roots in one cut). By AI agents, Wed Nov 11 2026. No macro, syntax, notation, axiom, sorry.
-/
import Derived.Test.YtfonicphdejdlaaGreatChecked
import GoSem.Claim
import GoSem.ClaimJoined
import GoSem.ClaimMapViews
import Derived.JoinedTies
import Derived.KernelRfl
namespace Go.Proofs.YtfonicphdejdlaaGreat
/- THE CELL 'sum', in the pinned program and in every row, IS THE sha256 OF THE DUMP (.gsa) THAT YtfonicphdejdlaaGreatProg.lean LOADS. Nothing in Lean hashes anything: it is a label: what it is worth is what the hold of that sum in a sandbox is worth. -/
noncomputable def Tryz.pinned : Pinned := { name := "ytfonicphdejdlaagreat", sum := "005f7f606ce1897938964dcbdd81ca591f67f95f83104b508fc4620c015d4fac", checked := Tryz.checked }
namespace Rows
def none {H : Type} : Left H := { results := [], args := [] }

/-- 'eddylaw4.WireKinds': WHATEVER THE INPUT: true; the input reads as it did. -/
def wireKindsSpec : ChangeSpec := { name := "wireKinds", fn := fun _ => fun
  | [d] => { results := [.lit (.bool true)], args := [d] }
  | _ => none }
def wireKindsRow : OpenClaim := { program := "ytfonicphdejdlaagreat", sum := "005f7f606ce1897938964dcbdd81ca591f67f95f83104b508fc4620c015d4fac", func := "eddy/eddylaw4.WireKinds", spec := "wireKinds", unfollowed := true, recurses := true, loops := true, apart := false }
def WireKindsSaid : Prop := wireKindsRow.holds Tryz.pinned (OpenSpec.ofChange wireKindsSpec)

/-- ITS FALSE NEIGHBOUR: 'it returns false'. Refute it at one input. -/
def wireKindsWrong : ChangeSpec := { name := "wireKinds", fn := fun _ => fun
  | [d] => { results := [.lit (.bool false)], args := [d] }
  | _ => none }
def WireKindsWrongFalsely : Prop := wireKindsRow.holds Tryz.pinned (OpenSpec.ofChange wireKindsWrong)

/-- 'eddylaw4.WireOne': WHATEVER THE INPUT: true; the input reads as it did. -/
def wireOneSpec : ChangeSpec := { name := "wireOne", fn := fun _ => fun
  | [d1, d2] => { results := [.lit (.bool true)], args := [d1, d2] }
  | _ => none }
def wireOneRow : OpenClaim := { program := "ytfonicphdejdlaagreat", sum := "005f7f606ce1897938964dcbdd81ca591f67f95f83104b508fc4620c015d4fac", func := "eddy/eddylaw4.WireOne", spec := "wireOne", unfollowed := true, recurses := true, apart := false }
def WireOneSaid : Prop := wireOneRow.holds Tryz.pinned (OpenSpec.ofChange wireOneSpec)

/-- ITS FALSE NEIGHBOUR: 'it returns false'. Refute it at one input. -/
def wireOneWrong : ChangeSpec := { name := "wireOne", fn := fun _ => fun
  | [d1, d2] => { results := [.lit (.bool false)], args := [d1, d2] }
  | _ => none }
def WireOneWrongFalsely : Prop := wireOneRow.holds Tryz.pinned (OpenSpec.ofChange wireOneWrong)

/-- 'eddylaw4.WireRound': WHATEVER THE INPUT: true; the input reads as it did. -/
def wireRoundSpec : ChangeSpec := { name := "wireRound", fn := fun _ => fun
  | [d] => { results := [.lit (.bool true)], args := [d] }
  | _ => none }
def wireRoundRow : OpenClaim := { program := "ytfonicphdejdlaagreat", sum := "005f7f606ce1897938964dcbdd81ca591f67f95f83104b508fc4620c015d4fac", func := "eddy/eddylaw4.WireRound", spec := "wireRound", unfollowed := true, recurses := true, loops := true, apart := false }
def WireRoundSaid : Prop := wireRoundRow.holds Tryz.pinned (OpenSpec.ofChange wireRoundSpec)

/-- ITS FALSE NEIGHBOUR: 'it returns false'. Refute it at one input. -/
def wireRoundWrong : ChangeSpec := { name := "wireRound", fn := fun _ => fun
  | [d] => { results := [.lit (.bool false)], args := [d] }
  | _ => none }
def WireRoundWrongFalsely : Prop := wireRoundRow.holds Tryz.pinned (OpenSpec.ofChange wireRoundWrong)

/-- 'eddylaw4.WireUnlike': WHATEVER THE INPUT: true; the input reads as it did. -/
def wireUnlikeSpec : ChangeSpec := { name := "wireUnlike", fn := fun _ => fun
  | [d1, d2] => { results := [.lit (.bool true)], args := [d1, d2] }
  | _ => none }
def wireUnlikeRow : OpenClaim := { program := "ytfonicphdejdlaagreat", sum := "005f7f606ce1897938964dcbdd81ca591f67f95f83104b508fc4620c015d4fac", func := "eddy/eddylaw4.WireUnlike", spec := "wireUnlike", unfollowed := true, recurses := true, loops := true, apart := false }
def WireUnlikeSaid : Prop := wireUnlikeRow.holds Tryz.pinned (OpenSpec.ofChange wireUnlikeSpec)

/-- ITS FALSE NEIGHBOUR: 'it returns false'. Refute it at one input. -/
def wireUnlikeWrong : ChangeSpec := { name := "wireUnlike", fn := fun _ => fun
  | [d1, d2] => { results := [.lit (.bool false)], args := [d1, d2] }
  | _ => none }
def WireUnlikeWrongFalsely : Prop := wireUnlikeRow.holds Tryz.pinned (OpenSpec.ofChange wireUnlikeWrong)

/-- 'eddylaw4.WireCut': WHATEVER THE INPUT: true; the input reads as it did. -/
def wireCutSpec : ChangeSpec := { name := "wireCut", fn := fun _ => fun
  | [d1, d2, d3] => { results := [.lit (.bool true)], args := [d1, d2, d3] }
  | _ => none }
def wireCutRow : OpenClaim := { program := "ytfonicphdejdlaagreat", sum := "005f7f606ce1897938964dcbdd81ca591f67f95f83104b508fc4620c015d4fac", func := "eddy/eddylaw4.WireCut", spec := "wireCut", unfollowed := true, recurses := true, loops := true, apart := false }
def WireCutSaid : Prop := wireCutRow.holds Tryz.pinned (OpenSpec.ofChange wireCutSpec)

/-- ITS FALSE NEIGHBOUR: 'it returns false'. Refute it at one input. -/
def wireCutWrong : ChangeSpec := { name := "wireCut", fn := fun _ => fun
  | [d1, d2, d3] => { results := [.lit (.bool false)], args := [d1, d2, d3] }
  | _ => none }
def WireCutWrongFalsely : Prop := wireCutRow.holds Tryz.pinned (OpenSpec.ofChange wireCutWrong)

/- THE SECOND FORM. 'bulk': how many values and letters a reading holds, each counted each time it is reached (what is shared counts as often as it is met; a slice's spare places count too). A statement '..UptoSaid' is the law's where the arguments, and the package variables that the reading takes, are together of bulk at most 1048576: NARROWER than '..Said'. Prove '..Said' where nothing that the law and all that it calls make is longer than what came in: it says more and counts as full. Else prove '..UptoSaid'. A law counts once. -/
mutual
def uptoBulk {H : Type} : DataW H → Nat
  | .lit (.string bytes) => bytes.length + 1
  | .lit _ => 1
  | .nil => 1
  | .ptr d => uptoBulk d + 1
  | .slice elems spare => uptoBulkAll elems + uptoBulkAll spare + 1
  | .agg parts => uptoBulkAll parts + 1
  | .iface _ d => uptoBulk d + 1
  | .map entries => uptoBulkEntries entries + 1
  | .held _ => 1
def uptoBulkAll {H : Type} : List (DataW H) → Nat
  | [] => 0
  | d :: r => uptoBulk d + uptoBulkAll r
def uptoBulkEntries {H : Type} : List (Lit × DataW H) → Nat
  | [] => 0
  | x :: r => uptoBulkEntry x + uptoBulkEntries r
def uptoBulkEntry {H : Type} : Lit × DataW H → Nat
  | (.string bytes, d) => bytes.length + uptoBulk d + 1
  | (_, d) => uptoBulk d + 1
 end
def uptoSmall : (H : Type) → List (DataW H) → Bool := fun _ ds => decide (uptoBulkAll ds ≤ 1048576)
def OpenSpec.upto (s : _root_.Go.ChangeSpec) : _root_.Go.OpenSpec := { _root_.Go.OpenSpec.ofChange s with cond := some uptoSmall }

/-- 'eddylaw4.WireKinds', WHERE WHAT IT READS IS OF BULK AT MOST 1048576: true; the input reads as it did. -/
def wireKindsUptoRow : OpenClaim := { program := "ytfonicphdejdlaagreat", sum := "005f7f606ce1897938964dcbdd81ca591f67f95f83104b508fc4620c015d4fac", func := "eddy/eddylaw4.WireKinds", spec := "wireKinds", unfollowed := true, recurses := true, loops := true, apart := false, narrowed := true }
def WireKindsUptoSaid : Prop := wireKindsUptoRow.holds Tryz.pinned (OpenSpec.upto wireKindsSpec)

/-- 'eddylaw4.WireOne', WHERE WHAT IT READS IS OF BULK AT MOST 1048576: true; the input reads as it did. -/
def wireOneUptoRow : OpenClaim := { program := "ytfonicphdejdlaagreat", sum := "005f7f606ce1897938964dcbdd81ca591f67f95f83104b508fc4620c015d4fac", func := "eddy/eddylaw4.WireOne", spec := "wireOne", unfollowed := true, recurses := true, apart := false, narrowed := true }
def WireOneUptoSaid : Prop := wireOneUptoRow.holds Tryz.pinned (OpenSpec.upto wireOneSpec)

/-- 'eddylaw4.WireRound', WHERE WHAT IT READS IS OF BULK AT MOST 1048576: true; the input reads as it did. -/
def wireRoundUptoRow : OpenClaim := { program := "ytfonicphdejdlaagreat", sum := "005f7f606ce1897938964dcbdd81ca591f67f95f83104b508fc4620c015d4fac", func := "eddy/eddylaw4.WireRound", spec := "wireRound", unfollowed := true, recurses := true, loops := true, apart := false, narrowed := true }
def WireRoundUptoSaid : Prop := wireRoundUptoRow.holds Tryz.pinned (OpenSpec.upto wireRoundSpec)

/-- 'eddylaw4.WireUnlike', WHERE WHAT IT READS IS OF BULK AT MOST 1048576: true; the input reads as it did. -/
def wireUnlikeUptoRow : OpenClaim := { program := "ytfonicphdejdlaagreat", sum := "005f7f606ce1897938964dcbdd81ca591f67f95f83104b508fc4620c015d4fac", func := "eddy/eddylaw4.WireUnlike", spec := "wireUnlike", unfollowed := true, recurses := true, loops := true, apart := false, narrowed := true }
def WireUnlikeUptoSaid : Prop := wireUnlikeUptoRow.holds Tryz.pinned (OpenSpec.upto wireUnlikeSpec)

/-- 'eddylaw4.WireCut', WHERE WHAT IT READS IS OF BULK AT MOST 1048576: true; the input reads as it did. -/
def wireCutUptoRow : OpenClaim := { program := "ytfonicphdejdlaagreat", sum := "005f7f606ce1897938964dcbdd81ca591f67f95f83104b508fc4620c015d4fac", func := "eddy/eddylaw4.WireCut", spec := "wireCut", unfollowed := true, recurses := true, loops := true, apart := false, narrowed := true }
def WireCutUptoSaid : Prop := wireCutUptoRow.holds Tryz.pinned (OpenSpec.upto wireCutSpec)

end Rows
end Go.Proofs.YtfonicphdejdlaaGreat
