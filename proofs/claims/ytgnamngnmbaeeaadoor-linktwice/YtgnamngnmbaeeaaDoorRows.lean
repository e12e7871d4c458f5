/-
  NARROWER THAN 'FOR EVERY INPUT', by the rows' own cells (each row's printed sentence says how): LinkOrder: laid · LinkAll: laid · LinkCalm: laid · LinkTwice: laid.
  DERIVED. THE GIVEN ROWS OF THIS SEAT. 4 by the template 'for every input the law returns true; each argument reads behind the call as it read before'; 0 by the template 'total and deterministic' (their statements: YtgnamngnmbaeeaaDoorTotals.lean).
  GIVEN WITH THE SEED: the statements are not yours to turn. If you find one false, say at which input.
  Laid BY PROGRAM, IN A SANDBOX (cutbox-rows.mjs): the forced cells as the released guide's own fill.sh prints them over the translation d1ba4a690fae4bea… (all of the seat's roots in one cut). By AI agents, Wed Nov 11 2026. No macro, syntax, notation, axiom, sorry.
-/
import Derived.Test.YtgnamngnmbaeeaaDoorChecked
import GoSem.Claim
import GoSem.ClaimJoined
import GoSem.ClaimMapViews
import Derived.JoinedTies
import Derived.KernelRfl
namespace Go.Proofs.YtgnamngnmbaeeaaDoor
/- THE CELL 'sum', in the pinned program and in every row, IS THE sha256 OF THE DUMP (.gsa) THAT YtgnamngnmbaeeaaDoorProg.lean LOADS. Nothing in Lean hashes anything: it is a label: what it is worth is what the hold of that sum in a sandbox is worth. -/
noncomputable def Tryd.pinned : Pinned := { name := "ytgnamngnmbaeeaadoor", sum := "d1ba4a690fae4bea57c1a9b89a817c73000a2617c93d17a803e4fcc267852b4b", checked := Tryd.checked }
namespace Rows
def none {H : Type} : Left H := { results := [], args := [] }

/- WHAT THE LISTED PACKAGE-LEVEL VARIABLES READ AS WHEN THE CALL BEGINS. Each datum BY PROGRAM (the guide's laid-datum.mjs) off the statement by which the dump's own 'gosem.cut.vars' lays the variable. In a bare row this is a premise. The card (YtgnamngnmbaeeaaDoorCards.lean) ties it to the program's text. -/
def laid_eddy_frame_halves {H : Type} : DataW H := .agg [.lit (.int .u32 0), .lit (.int .u32 498536548), .lit (.int .u32 997073096), .lit (.int .u32 651767980), .lit (.int .u32 1994146192), .lit (.int .u32 1802195444), .lit (.int .u32 1303535960), .lit (.int .u32 1342533948), .lit (.int .u32 3988292384), .lit (.int .u32 4027552580), .lit (.int .u32 3604390888), .lit (.int .u32 3412177804), .lit (.int .u32 2607071920), .lit (.int .u32 2262029012), .lit (.int .u32 2685067896), .lit (.int .u32 3183342108)]

/-- 'eddylaw21.LinkOrder': WHATEVER THE INPUT: true; the input reads as it did. -/
def linkOrderSpec : ChangeSpec := { name := "linkOrder", fn := fun _ => fun
  | [d1, d2, d3, d4] => { results := [.lit (.bool true)], args := [d1, d2, d3, d4] }
  | _ => none }
def linkOrderRow : OpenClaim := { program := "ytgnamngnmbaeeaadoor", sum := "d1ba4a690fae4bea57c1a9b89a817c73000a2617c93d17a803e4fcc267852b4b", func := "eddy/eddylaw21.LinkOrder", spec := "linkOrder", named := ["eddy/frame.halves"], apart := false, laid := [("eddy/frame.halves", laid_eddy_frame_halves)] }
def LinkOrderSaid : Prop := linkOrderRow.holds Tryd.pinned (OpenSpec.ofChange linkOrderSpec)

/-- ITS FALSE NEIGHBOUR: 'it returns false'. Refute it at one input. -/
def linkOrderWrong : ChangeSpec := { name := "linkOrder", fn := fun _ => fun
  | [d1, d2, d3, d4] => { results := [.lit (.bool false)], args := [d1, d2, d3, d4] }
  | _ => none }
def LinkOrderWrongFalsely : Prop := linkOrderRow.holds Tryd.pinned (OpenSpec.ofChange linkOrderWrong)

/-- 'eddylaw21.LinkAll': WHATEVER THE INPUT: true; the input reads as it did. -/
def linkAllSpec : ChangeSpec := { name := "linkAll", fn := fun _ => fun
  | [d1, d2, d3, d4, d5, d6, d7] => { results := [.lit (.bool true)], args := [d1, d2, d3, d4, d5, d6, d7] }
  | _ => none }
def linkAllRow : OpenClaim := { program := "ytgnamngnmbaeeaadoor", sum := "d1ba4a690fae4bea57c1a9b89a817c73000a2617c93d17a803e4fcc267852b4b", func := "eddy/eddylaw21.LinkAll", spec := "linkAll", recurses := true, named := ["eddy/frame.halves"], apart := false, laid := [("eddy/frame.halves", laid_eddy_frame_halves)] }
def LinkAllSaid : Prop := linkAllRow.holds Tryd.pinned (OpenSpec.ofChange linkAllSpec)

/-- ITS FALSE NEIGHBOUR: 'it returns false'. Refute it at one input. -/
def linkAllWrong : ChangeSpec := { name := "linkAll", fn := fun _ => fun
  | [d1, d2, d3, d4, d5, d6, d7] => { results := [.lit (.bool false)], args := [d1, d2, d3, d4, d5, d6, d7] }
  | _ => none }
def LinkAllWrongFalsely : Prop := linkAllRow.holds Tryd.pinned (OpenSpec.ofChange linkAllWrong)

/-- 'eddylaw21.LinkCalm': WHATEVER THE INPUT: true; the input reads as it did. -/
def linkCalmSpec : ChangeSpec := { name := "linkCalm", fn := fun _ => fun
  | [d1, d2, d3, d4, d5] => { results := [.lit (.bool true)], args := [d1, d2, d3, d4, d5] }
  | _ => none }
def linkCalmRow : OpenClaim := { program := "ytgnamngnmbaeeaadoor", sum := "d1ba4a690fae4bea57c1a9b89a817c73000a2617c93d17a803e4fcc267852b4b", func := "eddy/eddylaw21.LinkCalm", spec := "linkCalm", named := ["eddy/frame.halves"], apart := false, laid := [("eddy/frame.halves", laid_eddy_frame_halves)] }
def LinkCalmSaid : Prop := linkCalmRow.holds Tryd.pinned (OpenSpec.ofChange linkCalmSpec)

/-- ITS FALSE NEIGHBOUR: 'it returns false'. Refute it at one input. -/
def linkCalmWrong : ChangeSpec := { name := "linkCalm", fn := fun _ => fun
  | [d1, d2, d3, d4, d5] => { results := [.lit (.bool false)], args := [d1, d2, d3, d4, d5] }
  | _ => none }
def LinkCalmWrongFalsely : Prop := linkCalmRow.holds Tryd.pinned (OpenSpec.ofChange linkCalmWrong)

/-- 'eddylaw21.LinkTwice': WHATEVER THE INPUT: true; the input reads as it did. -/
def linkTwiceSpec : ChangeSpec := { name := "linkTwice", fn := fun _ => fun
  | [d1, d2, d3, d4] => { results := [.lit (.bool true)], args := [d1, d2, d3, d4] }
  | _ => none }
def linkTwiceRow : OpenClaim := { program := "ytgnamngnmbaeeaadoor", sum := "d1ba4a690fae4bea57c1a9b89a817c73000a2617c93d17a803e4fcc267852b4b", func := "eddy/eddylaw21.LinkTwice", spec := "linkTwice", named := ["eddy/frame.halves"], apart := false, laid := [("eddy/frame.halves", laid_eddy_frame_halves)] }
def LinkTwiceSaid : Prop := linkTwiceRow.holds Tryd.pinned (OpenSpec.ofChange linkTwiceSpec)

/-- ITS FALSE NEIGHBOUR: 'it returns false'. Refute it at one input. -/
def linkTwiceWrong : ChangeSpec := { name := "linkTwice", fn := fun _ => fun
  | [d1, d2, d3, d4] => { results := [.lit (.bool false)], args := [d1, d2, d3, d4] }
  | _ => none }
def LinkTwiceWrongFalsely : Prop := linkTwiceRow.holds Tryd.pinned (OpenSpec.ofChange linkTwiceWrong)

/- THE SECOND FORM. 'bulk': how many values and letters a reading holds, each counted each time it is reached (what is shared counts as often as it is met; a slice's spare places count too). A statement '..UptoSaid' is the law's where the arguments, and the package variables that the reading takes, are together of bulk at most 1048576: NARROWER than '..Said'. Prove '..Said' where nothing that the law and all that it calls make is longer than what came in: it says more and counts as full. Else prove '..UptoSaid'. A law counts once. -/
mutual
def uptoBulk {H : Type} : DataW H → Nat
  | .lit (.string bytes) => bytes.length + 1
  | .lit _ => 1
  | .nil => 1
  | .ptr d => uptoBulk d + 1
  | .slice elems spare => uptoBulkAll elems + uptoBulkAll spare + 1
  | .agg parts => uptoBulkAll parts + 1
  | .iface _ d => uptoBulk d + 1
  | .map entries => uptoBulkEntries entries + 1
  | .held _ => 1
def uptoBulkAll {H : Type} : List (DataW H) → Nat
  | [] => 0
  | d :: r => uptoBulk d + uptoBulkAll r
def uptoBulkEntries {H : Type} : List (Lit × DataW H) → Nat
  | [] => 0
  | x :: r => uptoBulkEntry x + uptoBulkEntries r
def uptoBulkEntry {H : Type} : Lit × DataW H → Nat
  | (.string bytes, d) => bytes.length + uptoBulk d + 1
  | (_, d) => uptoBulk d + 1
 end
def uptoSmall : (H : Type) → List (DataW H) → Bool := fun _ ds => decide (uptoBulkAll ds ≤ 1048576)
def OpenSpec.upto (s : _root_.Go.ChangeSpec) : _root_.Go.OpenSpec := { _root_.Go.OpenSpec.ofChange s with cond := some uptoSmall }

/-- 'eddylaw21.LinkOrder', WHERE WHAT IT READS IS OF BULK AT MOST 1048576: true; the input reads as it did. -/
def linkOrderUptoRow : OpenClaim := { program := "ytgnamngnmbaeeaadoor", sum := "d1ba4a690fae4bea57c1a9b89a817c73000a2617c93d17a803e4fcc267852b4b", func := "eddy/eddylaw21.LinkOrder", spec := "linkOrder", named := ["eddy/frame.halves"], apart := false, laid := [("eddy/frame.halves", laid_eddy_frame_halves)], narrowed := true }
def LinkOrderUptoSaid : Prop := linkOrderUptoRow.holds Tryd.pinned (OpenSpec.upto linkOrderSpec)

/-- 'eddylaw21.LinkAll', WHERE WHAT IT READS IS OF BULK AT MOST 1048576: true; the input reads as it did. -/
def linkAllUptoRow : OpenClaim := { program := "ytgnamngnmbaeeaadoor", sum := "d1ba4a690fae4bea57c1a9b89a817c73000a2617c93d17a803e4fcc267852b4b", func := "eddy/eddylaw21.LinkAll", spec := "linkAll", recurses := true, named := ["eddy/frame.halves"], apart := false, laid := [("eddy/frame.halves", laid_eddy_frame_halves)], narrowed := true }
def LinkAllUptoSaid : Prop := linkAllUptoRow.holds Tryd.pinned (OpenSpec.upto linkAllSpec)

/-- 'eddylaw21.LinkCalm', WHERE WHAT IT READS IS OF BULK AT MOST 1048576: true; the input reads as it did. -/
def linkCalmUptoRow : OpenClaim := { program := "ytgnamngnmbaeeaadoor", sum := "d1ba4a690fae4bea57c1a9b89a817c73000a2617c93d17a803e4fcc267852b4b", func := "eddy/eddylaw21.LinkCalm", spec := "linkCalm", named := ["eddy/frame.halves"], apart := false, laid := [("eddy/frame.halves", laid_eddy_frame_halves)], narrowed := true }
def LinkCalmUptoSaid : Prop := linkCalmUptoRow.holds Tryd.pinned (OpenSpec.upto linkCalmSpec)

/-- 'eddylaw21.LinkTwice', WHERE WHAT IT READS IS OF BULK AT MOST 1048576: true; the input reads as it did. -/
def linkTwiceUptoRow : OpenClaim := { program := "ytgnamngnmbaeeaadoor", sum := "d1ba4a690fae4bea57c1a9b89a817c73000a2617c93d17a803e4fcc267852b4b", func := "eddy/eddylaw21.LinkTwice", spec := "linkTwice", named := ["eddy/frame.halves"], apart := false, laid := [("eddy/frame.halves", laid_eddy_frame_halves)], narrowed := true }
def LinkTwiceUptoSaid : Prop := linkTwiceUptoRow.holds Tryd.pinned (OpenSpec.upto linkTwiceSpec)

end Rows
end Go.Proofs.YtgnamngnmbaeeaaDoor
