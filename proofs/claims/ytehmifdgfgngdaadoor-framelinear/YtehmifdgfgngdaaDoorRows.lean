/-
  NARROWER THAN 'FOR EVERY INPUT', by the rows' own cells (each row's printed sentence says how): FrameLinear: laid · FrameSums: laid · FrameFlip: laid · FrameWalk: laid · FrameBurst: laid · FrameBack: laid.
  DERIVED. THE GIVEN ROWS OF THIS SEAT. 6 by the template 'for every input the law returns true; each argument reads behind the call as it read before'; 0 by the template 'total and deterministic' (their statements: YtehmifdgfgngdaaDoorTotals.lean).
  GIVEN WITH THE SEED: the statements are not yours to turn. If you find one false, say at which input.
  Laid BY PROGRAM, IN A SANDBOX (cutbox-rows.mjs): the forced cells as the released guide's own fill.sh prints them over the translation 1c3f294861ebc816… (all of the seat's roots in one cut). By AI agents, Wed Nov 11 2026. No macro, syntax, notation, axiom, sorry.
-/
import Derived.Test.YtehmifdgfgngdaaDoorChecked
import GoSem.Claim
import GoSem.ClaimJoined
import GoSem.ClaimMapViews
import Derived.JoinedTies
import Derived.KernelRfl
namespace Go.Proofs.YtehmifdgfgngdaaDoor
/- THE CELL 'sum', in the pinned program and in every row, IS THE sha256 OF THE DUMP (.gsa) THAT YtehmifdgfgngdaaDoorProg.lean LOADS. Nothing in Lean hashes anything: it is a label: what it is worth is what the hold of that sum in a sandbox is worth. -/
noncomputable def Tryd.pinned : Pinned := { name := "ytehmifdgfgngdaadoor", sum := "1c3f294861ebc816dfc49477143cc0d92c527beebda52f191855613f0cbd701f", checked := Tryd.checked }
namespace Rows
def none {H : Type} : Left H := { results := [], args := [] }

/- WHAT THE LISTED PACKAGE-LEVEL VARIABLES READ AS WHEN THE CALL BEGINS. Each datum BY PROGRAM (the guide's laid-datum.mjs) off the statement by which the dump's own 'gosem.cut.vars' lays the variable. In a bare row this is a premise. The card (YtehmifdgfgngdaaDoorCards.lean) ties it to the program's text. -/
def laid_eddy_frame_halves {H : Type} : DataW H := .agg [.lit (.int .u32 0), .lit (.int .u32 498536548), .lit (.int .u32 997073096), .lit (.int .u32 651767980), .lit (.int .u32 1994146192), .lit (.int .u32 1802195444), .lit (.int .u32 1303535960), .lit (.int .u32 1342533948), .lit (.int .u32 3988292384), .lit (.int .u32 4027552580), .lit (.int .u32 3604390888), .lit (.int .u32 3412177804), .lit (.int .u32 2607071920), .lit (.int .u32 2262029012), .lit (.int .u32 2685067896), .lit (.int .u32 3183342108)]

/-- 'eddylaw1.FrameLinear': WHATEVER THE INPUT: true; the input reads as it did. -/
def frameLinearSpec : ChangeSpec := { name := "frameLinear", fn := fun _ => fun
  | [d1, d2] => { results := [.lit (.bool true)], args := [d1, d2] }
  | _ => none }
def frameLinearRow : OpenClaim := { program := "ytehmifdgfgngdaadoor", sum := "1c3f294861ebc816dfc49477143cc0d92c527beebda52f191855613f0cbd701f", func := "eddy/eddylaw1.FrameLinear", spec := "frameLinear", named := ["eddy/frame.halves"], apart := false, laid := [("eddy/frame.halves", laid_eddy_frame_halves)] }
def FrameLinearSaid : Prop := frameLinearRow.holds Tryd.pinned (OpenSpec.ofChange frameLinearSpec)

/-- ITS FALSE NEIGHBOUR: 'it returns false'. Refute it at one input. -/
def frameLinearWrong : ChangeSpec := { name := "frameLinear", fn := fun _ => fun
  | [d1, d2] => { results := [.lit (.bool false)], args := [d1, d2] }
  | _ => none }
def FrameLinearWrongFalsely : Prop := frameLinearRow.holds Tryd.pinned (OpenSpec.ofChange frameLinearWrong)

/-- 'eddylaw1.FrameSums': WHATEVER THE INPUT: true; the input reads as it did. -/
def frameSumsSpec : ChangeSpec := { name := "frameSums", fn := fun _ => fun
  | [d1, d2, d3] => { results := [.lit (.bool true)], args := [d1, d2, d3] }
  | _ => none }
def frameSumsRow : OpenClaim := { program := "ytehmifdgfgngdaadoor", sum := "1c3f294861ebc816dfc49477143cc0d92c527beebda52f191855613f0cbd701f", func := "eddy/eddylaw1.FrameSums", spec := "frameSums", named := ["eddy/frame.halves"], apart := false, laid := [("eddy/frame.halves", laid_eddy_frame_halves)] }
def FrameSumsSaid : Prop := frameSumsRow.holds Tryd.pinned (OpenSpec.ofChange frameSumsSpec)

/-- ITS FALSE NEIGHBOUR: 'it returns false'. Refute it at one input. -/
def frameSumsWrong : ChangeSpec := { name := "frameSums", fn := fun _ => fun
  | [d1, d2, d3] => { results := [.lit (.bool false)], args := [d1, d2, d3] }
  | _ => none }
def FrameSumsWrongFalsely : Prop := frameSumsRow.holds Tryd.pinned (OpenSpec.ofChange frameSumsWrong)

/-- 'eddylaw1.FrameFlip': WHATEVER THE INPUT: true; the input reads as it did. -/
def frameFlipSpec : ChangeSpec := { name := "frameFlip", fn := fun _ => fun
  | [d1, d2] => { results := [.lit (.bool true)], args := [d1, d2] }
  | _ => none }
def frameFlipRow : OpenClaim := { program := "ytehmifdgfgngdaadoor", sum := "1c3f294861ebc816dfc49477143cc0d92c527beebda52f191855613f0cbd701f", func := "eddy/eddylaw1.FrameFlip", spec := "frameFlip", named := ["eddy/frame.halves"], apart := false, laid := [("eddy/frame.halves", laid_eddy_frame_halves)] }
def FrameFlipSaid : Prop := frameFlipRow.holds Tryd.pinned (OpenSpec.ofChange frameFlipSpec)

/-- ITS FALSE NEIGHBOUR: 'it returns false'. Refute it at one input. -/
def frameFlipWrong : ChangeSpec := { name := "frameFlip", fn := fun _ => fun
  | [d1, d2] => { results := [.lit (.bool false)], args := [d1, d2] }
  | _ => none }
def FrameFlipWrongFalsely : Prop := frameFlipRow.holds Tryd.pinned (OpenSpec.ofChange frameFlipWrong)

/-- 'eddylaw1.FrameWalk': WHATEVER THE INPUT: true; the input reads as it did. -/
def frameWalkSpec : ChangeSpec := { name := "frameWalk", fn := fun _ => fun
  | [d] => { results := [.lit (.bool true)], args := [d] }
  | _ => none }
def frameWalkRow : OpenClaim := { program := "ytehmifdgfgngdaadoor", sum := "1c3f294861ebc816dfc49477143cc0d92c527beebda52f191855613f0cbd701f", func := "eddy/eddylaw1.FrameWalk", spec := "frameWalk", named := ["eddy/frame.halves"], apart := false, laid := [("eddy/frame.halves", laid_eddy_frame_halves)] }
def FrameWalkSaid : Prop := frameWalkRow.holds Tryd.pinned (OpenSpec.ofChange frameWalkSpec)

/-- ITS FALSE NEIGHBOUR: 'it returns false'. Refute it at one input. -/
def frameWalkWrong : ChangeSpec := { name := "frameWalk", fn := fun _ => fun
  | [d] => { results := [.lit (.bool false)], args := [d] }
  | _ => none }
def FrameWalkWrongFalsely : Prop := frameWalkRow.holds Tryd.pinned (OpenSpec.ofChange frameWalkWrong)

/-- 'eddylaw1.FrameBurst': WHATEVER THE INPUT: true; the input reads as it did. -/
def frameBurstSpec : ChangeSpec := { name := "frameBurst", fn := fun _ => fun
  | [d1, d2, d3] => { results := [.lit (.bool true)], args := [d1, d2, d3] }
  | _ => none }
def frameBurstRow : OpenClaim := { program := "ytehmifdgfgngdaadoor", sum := "1c3f294861ebc816dfc49477143cc0d92c527beebda52f191855613f0cbd701f", func := "eddy/eddylaw1.FrameBurst", spec := "frameBurst", named := ["eddy/frame.halves"], apart := false, laid := [("eddy/frame.halves", laid_eddy_frame_halves)] }
def FrameBurstSaid : Prop := frameBurstRow.holds Tryd.pinned (OpenSpec.ofChange frameBurstSpec)

/-- ITS FALSE NEIGHBOUR: 'it returns false'. Refute it at one input. -/
def frameBurstWrong : ChangeSpec := { name := "frameBurst", fn := fun _ => fun
  | [d1, d2, d3] => { results := [.lit (.bool false)], args := [d1, d2, d3] }
  | _ => none }
def FrameBurstWrongFalsely : Prop := frameBurstRow.holds Tryd.pinned (OpenSpec.ofChange frameBurstWrong)

/-- 'eddylaw1.FrameBack': WHATEVER THE INPUT: true; the input reads as it did. -/
def frameBackSpec : ChangeSpec := { name := "frameBack", fn := fun _ => fun
  | [d1, d2] => { results := [.lit (.bool true)], args := [d1, d2] }
  | _ => none }
def frameBackRow : OpenClaim := { program := "ytehmifdgfgngdaadoor", sum := "1c3f294861ebc816dfc49477143cc0d92c527beebda52f191855613f0cbd701f", func := "eddy/eddylaw1.FrameBack", spec := "frameBack", named := ["eddy/frame.halves"], apart := false, laid := [("eddy/frame.halves", laid_eddy_frame_halves)] }
def FrameBackSaid : Prop := frameBackRow.holds Tryd.pinned (OpenSpec.ofChange frameBackSpec)

/-- ITS FALSE NEIGHBOUR: 'it returns false'. Refute it at one input. -/
def frameBackWrong : ChangeSpec := { name := "frameBack", fn := fun _ => fun
  | [d1, d2] => { results := [.lit (.bool false)], args := [d1, d2] }
  | _ => none }
def FrameBackWrongFalsely : Prop := frameBackRow.holds Tryd.pinned (OpenSpec.ofChange frameBackWrong)

/- THE SECOND FORM. 'bulk': how many values and letters a reading holds, each counted each time it is reached (what is shared counts as often as it is met; a slice's spare places count too). A statement '..UptoSaid' is the law's where the arguments, and the package variables that the reading takes, are together of bulk at most 1048576: NARROWER than '..Said'. Prove '..Said' where nothing that the law and all that it calls make is longer than what came in: it says more and counts as full. Else prove '..UptoSaid'. A law counts once. -/
mutual
def uptoBulk {H : Type} : DataW H → Nat
  | .lit (.string bytes) => bytes.length + 1
  | .lit _ => 1
  | .nil => 1
  | .ptr d => uptoBulk d + 1
  | .slice elems spare => uptoBulkAll elems + uptoBulkAll spare + 1
  | .agg parts => uptoBulkAll parts + 1
  | .iface _ d => uptoBulk d + 1
  | .map entries => uptoBulkEntries entries + 1
  | .held _ => 1
def uptoBulkAll {H : Type} : List (DataW H) → Nat
  | [] => 0
  | d :: r => uptoBulk d + uptoBulkAll r
def uptoBulkEntries {H : Type} : List (Lit × DataW H) → Nat
  | [] => 0
  | x :: r => uptoBulkEntry x + uptoBulkEntries r
def uptoBulkEntry {H : Type} : Lit × DataW H → Nat
  | (.string bytes, d) => bytes.length + uptoBulk d + 1
  | (_, d) => uptoBulk d + 1
 end
def uptoSmall : (H : Type) → List (DataW H) → Bool := fun _ ds => decide (uptoBulkAll ds ≤ 1048576)
def OpenSpec.upto (s : _root_.Go.ChangeSpec) : _root_.Go.OpenSpec := { _root_.Go.OpenSpec.ofChange s with cond := some uptoSmall }

/-- 'eddylaw1.FrameLinear', WHERE WHAT IT READS IS OF BULK AT MOST 1048576: true; the input reads as it did. -/
def frameLinearUptoRow : OpenClaim := { program := "ytehmifdgfgngdaadoor", sum := "1c3f294861ebc816dfc49477143cc0d92c527beebda52f191855613f0cbd701f", func := "eddy/eddylaw1.FrameLinear", spec := "frameLinear", named := ["eddy/frame.halves"], apart := false, laid := [("eddy/frame.halves", laid_eddy_frame_halves)], narrowed := true }
def FrameLinearUptoSaid : Prop := frameLinearUptoRow.holds Tryd.pinned (OpenSpec.upto frameLinearSpec)

/-- 'eddylaw1.FrameSums', WHERE WHAT IT READS IS OF BULK AT MOST 1048576: true; the input reads as it did. -/
def frameSumsUptoRow : OpenClaim := { program := "ytehmifdgfgngdaadoor", sum := "1c3f294861ebc816dfc49477143cc0d92c527beebda52f191855613f0cbd701f", func := "eddy/eddylaw1.FrameSums", spec := "frameSums", named := ["eddy/frame.halves"], apart := false, laid := [("eddy/frame.halves", laid_eddy_frame_halves)], narrowed := true }
def FrameSumsUptoSaid : Prop := frameSumsUptoRow.holds Tryd.pinned (OpenSpec.upto frameSumsSpec)

/-- 'eddylaw1.FrameFlip', WHERE WHAT IT READS IS OF BULK AT MOST 1048576: true; the input reads as it did. -/
def frameFlipUptoRow : OpenClaim := { program := "ytehmifdgfgngdaadoor", sum := "1c3f294861ebc816dfc49477143cc0d92c527beebda52f191855613f0cbd701f", func := "eddy/eddylaw1.FrameFlip", spec := "frameFlip", named := ["eddy/frame.halves"], apart := false, laid := [("eddy/frame.halves", laid_eddy_frame_halves)], narrowed := true }
def FrameFlipUptoSaid : Prop := frameFlipUptoRow.holds Tryd.pinned (OpenSpec.upto frameFlipSpec)

/-- 'eddylaw1.FrameWalk', WHERE WHAT IT READS IS OF BULK AT MOST 1048576: true; the input reads as it did. -/
def frameWalkUptoRow : OpenClaim := { program := "ytehmifdgfgngdaadoor", sum := "1c3f294861ebc816dfc49477143cc0d92c527beebda52f191855613f0cbd701f", func := "eddy/eddylaw1.FrameWalk", spec := "frameWalk", named := ["eddy/frame.halves"], apart := false, laid := [("eddy/frame.halves", laid_eddy_frame_halves)], narrowed := true }
def FrameWalkUptoSaid : Prop := frameWalkUptoRow.holds Tryd.pinned (OpenSpec.upto frameWalkSpec)

/-- 'eddylaw1.FrameBurst', WHERE WHAT IT READS IS OF BULK AT MOST 1048576: true; the input reads as it did. -/
def frameBurstUptoRow : OpenClaim := { program := "ytehmifdgfgngdaadoor", sum := "1c3f294861ebc816dfc49477143cc0d92c527beebda52f191855613f0cbd701f", func := "eddy/eddylaw1.FrameBurst", spec := "frameBurst", named := ["eddy/frame.halves"], apart := false, laid := [("eddy/frame.halves", laid_eddy_frame_halves)], narrowed := true }
def FrameBurstUptoSaid : Prop := frameBurstUptoRow.holds Tryd.pinned (OpenSpec.upto frameBurstSpec)

/-- 'eddylaw1.FrameBack', WHERE WHAT IT READS IS OF BULK AT MOST 1048576: true; the input reads as it did. -/
def frameBackUptoRow : OpenClaim := { program := "ytehmifdgfgngdaadoor", sum := "1c3f294861ebc816dfc49477143cc0d92c527beebda52f191855613f0cbd701f", func := "eddy/eddylaw1.FrameBack", spec := "frameBack", named := ["eddy/frame.halves"], apart := false, laid := [("eddy/frame.halves", laid_eddy_frame_halves)], narrowed := true }
def FrameBackUptoSaid : Prop := frameBackUptoRow.holds Tryd.pinned (OpenSpec.upto frameBackSpec)

end Rows
end Go.Proofs.YtehmifdgfgngdaaDoor
