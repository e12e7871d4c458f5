import Derived.Test.YtpknlbibijheaabDlE
import Derived.RangeFuncNested
import Derived.RangeFuncBound
import Derived.RangeFuncCalls
import Derived.Shelf.Abstract
import Derived.Shelf.RegionOpen
import Derived.WalkKit
import Derived.OwnWalkIn
import Derived.TacticsInMore
import Derived.LoopNIn
import Derived.LoopIn
import Derived.Laws.EntriesVeiled
namespace Go.Proofs.Ytpknlbibijheaab
open Go.RowKit
set_option maxRecDepth 8000
attribute [local go_sem] Oper.semAt_some
/-- what the loop's body is handed -/
def encSC (x : Ev ByteArray VT) : Array Value := #[.string x.key, .agg #[.string x.a, .string x.b.text, .slice x.b.p x.b.n x.b.c, .bool x.inA, .bool x.inB]]
/-- how long the list in a block is -/
def lenSC (w : World) (b : Nat) : Nat := match w.cell? ⟨b, 0, none⟩ with
  | some (.slice _ n _) => n
  | _ => 0
theorem lenSC_of {w : World} {b : Nat} {p : Option Addr} {n c : Nat} {v : Value} {t : TypeId} (h : Box w b #[.slice p n c, v] t) : lenSC w b = n := by
  unfold lenSC
  rw [h.cell]
  rfl
end Go.Proofs.Ytpknlbibijheaab

namespace Go.Proofs.Ytpknlbibijheaab
open Go.RowKit
set_option maxRecDepth 8000
attribute [local go_sem] Oper.semAt_some
/-- what the loop's body is handed -/
def encCS (x : Ev VT ByteArray) : Array Value := #[.string x.key, .agg #[.string x.a.text, .slice x.a.p x.a.n x.a.c, .string x.b, .bool x.inA, .bool x.inB]]
/-- how long the list in a block is -/
def lenCS (w : World) (b : Nat) : Nat := match w.cell? ⟨b, 0, none⟩ with
  | some (.slice _ n _) => n
  | _ => 0
theorem lenCS_of {w : World} {b : Nat} {p : Option Addr} {n c : Nat} {v : Value} {t : TypeId} (h : Box w b #[.slice p n c, v] t) : lenCS w b = n := by
  unfold lenCS
  rw [h.cell]
  rfl
end Go.Proofs.Ytpknlbibijheaab

namespace Go.Proofs.Ytpknlbibijheaab
open Go.RowKit
set_option maxRecDepth 8000
attribute [local go_sem] Oper.semAt_some
/-- what the loop's body is handed -/
def encSS (x : Ev ByteArray ByteArray) : Array Value := #[.string x.key, .agg #[.string x.a, .string x.b, .bool x.inA, .bool x.inB]]
/-- how long the list in a block is -/
def lenSS (w : World) (b : Nat) : Nat := match w.cell? ⟨b, 0, none⟩ with
  | some (.slice _ n _) => n
  | _ => 0
theorem lenSS_of {w : World} {b : Nat} {p : Option Addr} {n c : Nat} {v : Value} {t : TypeId} (h : Box w b #[.slice p n c, v] t) : lenSS w b = n := by
  unfold lenSS
  rw [h.cell]
  rfl
end Go.Proofs.Ytpknlbibijheaab
