import Derived.Test.YtdpfgflofjiheaaPack3
import Derived.Test.YtdpfgflofjiheaaPack4
import Derived.Laws.EntriesVeiled
import Derived.Deep.DeepCutAuto
import Derived.Deep.RegionHeld
namespace Go.Proofs.Ytdpfgflofjiheaa
open Go.RowKit
set_option maxRecDepth 8000

/-- an entry of a trail -/
structure TR where
  kind : Int
  task : Int
  port : Int
  id : Int
/-- an event -/
structure EV where
  task : Int
  port : Int
def TR.ev (t : TR) : EV := ⟨t.task, t.port⟩
def TR.cells (t : TR) : List Value := [.int .i64 t.kind, .int .i64 t.task, .int .i64 t.port, .int .i64 t.id]
def EV.cells (t : EV) : List Value := [.int .i64 t.task, .int .i64 t.port]
theorem TR.ext_ {a b : TR} (h1 : a.kind = b.kind) (h2 : a.task = b.task) (h3 : a.port = b.port) (h4 : a.id = b.id) : a = b := by cases a; cases b; simp_all
theorem EV.ext_ {a b : EV} (h1 : a.task = b.task) (h2 : a.port = b.port) : a = b := by cases a; cases b; simp_all
def elTr : El TR where
  ty := 37
  size := 4
  cells := TR.cells
  len := fun _ => rfl
  one := fun x u hu => by
    simp only [TR.cells, List.mem_cons, List.not_mem_nil, or_false] at hu
    rcases hu with rfl | rfl | rfl | rfl <;> rfl
  In := fun _ _ _ => True
  kept := fun _ _ _ => trivial
  mono := fun _ _ => trivial
def elEv : El EV where
  ty := 39
  size := 2
  cells := EV.cells
  len := fun _ => rfl
  one := fun x u hu => by
    simp only [EV.cells, List.mem_cons, List.not_mem_nil, or_false] at hu
    rcases hu with rfl | rfl <;> rfl
  In := fun _ _ _ => True
  kept := fun _ _ _ => trivial
  mono := fun _ _ => trivial

theorem below2 (w : World) (a b : Obj) : Below w.heap.size w ((w.alloc a).alloc b) := ((Below.refl _ _).alloc (Nat.le_refl _) _).alloc (by simp) _
/-- eventOf: the event that an entry tells -/
theorem eventOf_any (k t p i : Int) (w : World) : Calls Try.prog 38 #[.agg #[.int .i64 k, .int .i64 t, .int .i64 p, .int .i64 i]] w fun e w' =>
    e = .returned (.agg #[.int .i64 t, .int .i64 p]) ∧ Below w.heap.size w w' := by
  go_enter Try.func38, Try.ntmps38
  go_wp2
  exact bodyPost_ret (v := .agg #[.int .i64 t, .int .i64 p]) (by simp [results, Try.results38, go_sem]) rfl ⟨rfl, below2 _ _ _⟩
theorem stepOf_any (t p : Int) (w : World) : Calls Try.prog 45 #[.agg #[.int .i64 t, .int .i64 p]] w fun e w' =>
    e = .returned (.agg #[.int .i64 1, .int .i64 t, .int .i64 p, .int .i64 0]) ∧ Below w.heap.size w w' := by
  go_enter Try.func45, Try.ntmps45
  go_wp2
  exact bodyPost_ret (v := .agg #[.int .i64 1, .int .i64 t, .int .i64 p, .int .i64 0]) (by simp [results, Try.results45, go_sem]) rfl ⟨rfl, below2 _ _ _⟩
theorem step_callG {ops : Array Oper} {o : Oper} {a : Act} {w : World} {K : Act → World → Prop} {Q : Exit → Act → World → Prop} {E : Prop}
    (hw : Region.wanted o (yielded ops a.tmps) = true) (f : Nat) (xs : Array Operand) (ts : Array TypeId) (hop : o.op = Op.call { callee := Callee.value (Operand.func f), args := xs, argTypes := ts })
    (F : Func) (hF : Try.prog.funcs[f]? = some F) (hN : (F.name == "runtime.NumGoroutine") = false) (hB : F.body.isNone = false) (vs : Array Value) (hvl : xs.toList.map a.eval = vs.toList) (R : Ending → World → Prop) (hC : Calls Try.prog f vs w R) (hK : ∀ e w', R e w' → ∃ v, e = .returned v ∧ K (a.put o.dst v) w') :
    if Region.wanted o (yielded ops a.tmps) = true then Oper.wp Try.prog o a w K Q else E := by
  rw [if_pos hw]
  have hvs : xs.map a.eval = vs := by
    obtain ⟨xl⟩ := xs
    obtain ⟨vl⟩ := vs
    simp only at hvl
    rw [List.map_toArray, hvl]
  have hrun : (execOp a.eval o).run Try.prog w = .ok (.enter f vs) w := by
    have h1 : ¬ F.name = "runtime.NumGoroutine" := by simpa using hN
    have h2 : ¬ F.body = none := by intro h; rw [h] at hB; cases hB
    simp [execOp, hop, resolve, invoke, hvs, Deferred.ofValue, Act.eval, callFunc, Result.andThen, go_sem, hF, h1, h2]
  unfold Oper.wp
  rw [hrun, Oper.upon_enter]
  refine hC.mono fun e w' h => ?_
  obtain ⟨v, rfl, hk⟩ := hK e w' h
  exact hk
end Go.Proofs.Ytdpfgflofjiheaa

namespace Go.Proofs.Ytdpfgflofjiheaa
open Go.RowKit
set_option maxRecDepth 8000
/-- an entry that can be -/
def Can (n : Int) (t : TR) : Prop := 0 ≤ t.task ∧ t.task < n ∧ 0 ≤ t.port ∧ t.port ≤ 3 ∧ 0 ≤ t.id ∧ 1 ≤ t.kind ∧ t.kind ≤ 11 ∧ (t.kind ≤ 2 ∨ t.port = 0) ∧ (¬ t.kind = 1 ∨ t.id = 0) ∧ (t.kind ≤ 1 ∨ 9 ≤ t.kind ∨ (1 ≤ t.id ∧ t.id ≤ 9999)) ∧ (t.kind ≤ 4 ∨ 9 ≤ t.kind ∨ t.task = 0) ∧ (¬ t.kind = 10 ∨ (t.id = 0 ∧ t.task = 0)) ∧ (¬ t.kind = 11 ∨ (t.id ≤ 9999 ∧ t.task = 0))
def CanQ (n : Int) (t : TR) (w : World) (e : Ending) (w' : World) : Prop := ∃ b : Bool, e = .returned (.bool b) ∧ (b = true ↔ Can n t) ∧ Below w.heap.size w w'
theorem below1 (w : World) (a : Obj) : Below w.heap.size w (w.alloc a) := (Below.refl _ _).alloc (Nat.le_refl _) _
end Go.Proofs.Ytdpfgflofjiheaa
