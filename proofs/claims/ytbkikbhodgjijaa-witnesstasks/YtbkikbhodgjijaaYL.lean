import Derived.RangeFuncNested
import Derived.RangeFuncBox
import Derived.RangeFuncBound
import Derived.RangeFuncCalls
import Derived.RangeFuncLeaves
import Derived.Shelf.Abstract
import Derived.Shelf.RegionOpen
import Derived.WalkKit
import Derived.OwnWalkIn
import Derived.TacticsInMore
import Derived.LoopNIn
import Derived.LoopIn
import Derived.Test.YtbkikbhodgjijaaYG
namespace Go.Proofs.Ytbkikbhodgjijaa
open Go.RowKit Go.Shelf
set_option maxRecDepth 8000
attribute [local go_sem] Oper.semAt_some
/-- what has come when k rounds are over: the last k places, from the last on -/
def backs (n : Nat) : Nat → List (Fin n)
  | 0 => []
  | k + 1 => if h : n - 1 - k < n then backs n k ++ [⟨n - 1 - k, h⟩] else backs n k
theorem backs_succ {n k : Nat} (h : k < n) : backs n (k + 1) = backs n k ++ [⟨n - 1 - k, by omega⟩] := by
  rw [backs, dif_pos (by omega)]
theorem backs_len {n : Nat} : ∀ {k : Nat}, k ≤ n → (backs n k).length = k := by
  intro k
  induction k with
  | zero => intro _; rfl
  | succ k ih => intro h; rw [backs_succ h, List.length_append, ih (by omega)]; rfl
theorem backs_mem {n : Nat} {x : Fin n} : ∀ {k : Nat}, k ≤ n → (x ∈ backs n k ↔ n - k ≤ x.val) := by
  intro k
  induction k with
  | zero => intro _; simp [backs]
  | succ k ih =>
    intro h
    rw [backs_succ h, List.mem_append, ih (by omega)]
    simp only [List.mem_singleton]
    constructor
    · rintro (h1 | rfl)
      · omega
      · show n - (k + 1) ≤ n - 1 - k
        omega
    · intro h1
      by_cases h2 : n - k ≤ x.val
      · exact .inl h2
      · exact .inr (Fin.ext (by show x.val = n - 1 - k; omega))
def trV (t : TR) : Value := .agg #[.int .i64 t.kind, .int .i64 t.task, .int .i64 t.port, .int .i64 t.id]
set_option maxHeartbeats 4000000 in
/-- slices.Backward's closure -/
theorem back1_in (n : Nat) (F : Fence) (h50 : F.fn 50) (hro : F.round = none) (hn : 1 ≤ n) (l Bs n₀ : Nat) (L : LT TR) (hnn : L.n ≤ 140737488355328) (J Jx : List (Fin L.n) → World → Prop)
    (hY : ∀ pre x W, J pre W → pre.length < L.n → YieldAt F (n - 1) Try.prog l #[.int .i64 (x.val : Int), trV (L.item x.val)] W fun e W' =>
      (e = .returned (.bool true) ∧ J (pre ++ [x]) W' ∧ Below n₀ W W') ∨ (e = .returned (.bool false) ∧ Jx (pre ++ [x]) W'))
    (W : World) (hBs : W.cell? ⟨Bs, 0, none⟩ = some (.slice L.p L.n L.c)) (hB0 : Bs < n₀) (hL : LT.In elTr W (fun b => b < n₀) L) (h0 : J [] W) :
    CallsIn F n Try.prog 50 #[.func (.yield l) #[] #[], .pointer (some ⟨Bs, 0, none⟩)] W fun e W' => (∃ v, e = .returned v) ∧
      ((∃ ys, ys = backs L.n L.n ∧ J ys W') ∨ (∃ pre, (∃ k, k ≤ L.n ∧ pre = backs L.n k) ∧ Jx pre W')) := by
  have H := hid hL
  clear hL
  refine callsIn_of_wp Try.func50 rfl h50 ?_ hro
  simp only [Try.ntmps50, List.size_toArray, List.length_cons, List.length_nil, Nat.reduceAdd, Nat.reduceSub, Array.replicate_succ, Array.replicate_zero, List.push_toArray, List.append_toArray, List.nil_append, List.cons_append]
  gi_wp2
  gi_loopw [3] (fun i wr => ∃ k : Nat, k ≤ L.n ∧ i = .int .i64 ((L.n : Int) - 1 - (k : Int)) ∧ J (backs L.n k) wr ∧ Below n₀ W wr)
    (fun i _ => ((intOf i) + 1).toNat)
  case atStart => exact ⟨0, Nat.zero_le _, by go_num, h0, Below.refl _ _⟩
  case round =>
    obtain ⟨k, hk, rfl, hJs, hnx⟩ := hrel
    have hBs' := (hnx.cell (p := ⟨Bs, 0, none⟩) hB0).trans hBs
    by_cases hlt : k < L.n
    · obtain ⟨j, hj⟩ : ∃ j : Nat, j = L.n - 1 - k := ⟨_, rfl⟩
      have hjn : j < L.n := by omega
      have hjn' : (j : Int) < (L.n : Int) := by omega
      have e1 : (L.n : Int) - 1 - (k : Int) = (j : Int) := by omega
      rw [e1]
      obtain ⟨b1, o1, hp, hS, hl1, ha⟩ := H.out.tr (by omega)
      obtain ⟨a0, a1, a2, a3⟩ := ha j hjn
      rw [hp] at hBs'
      have c0 := (hnx.cell (p := ⟨b1, o1 + j * 4, none⟩) hS).trans a0
      have c1 := (hnx.cell (p := ⟨b1, o1 + j * 4 + 1, none⟩) hS).trans a1
      have c2 := (hnx.cell (p := ⟨b1, o1 + j * 4 + 2, none⟩) hS).trans a2
      have c3 := (hnx.cell (p := ⟨b1, o1 + j * 4 + 3, none⟩) hS).trans a3
      have HJ : Hid (backs L.n (k + 1) = backs L.n k ++ [⟨j, hjn⟩]) := by
        show _ = _
        rw [backs_succ hlt]
        simp only [hj]
      obtain ⟨fn, tmps, assign, body, hy, hR⟩ := hY _ ⟨j, hjn⟩ wr hJs (by rw [backs_len hk]; exact hlt)
      dsimp only [trV] at hy
      have HE1 := hid e1
      have HJd := hid hj
      clear e1 hj ha hp a0 a1 a2 a3
      gi_wp2
      refine hR.mono ?_
      rintro e W3 (⟨rfl, hJ3, hk3⟩ | ⟨rfl, hJx3⟩)
      · gi_wp2
        go_roundw
        case rel => exact ⟨k + 1, by omega, by have := HE1.out; have := HJd.out; go_num; try omega, by rw [HJ.out]; exact hJ3, hnx.trans hk3⟩
        case measure => simp [intOf]
      · gi_wp2
        refine bodyPost_ret (results_none rfl _ _ _) rfl ?_
        exact ⟨⟨_, rfl⟩, .inr ⟨_, ⟨k + 1, by omega, HJ.out.symm⟩, hJx3⟩⟩
    · obtain rfl : k = L.n := by omega
      have e1 : (L.n : Int) - 1 - (L.n : Int) = -1 := by omega
      rw [e1]
      gi_wp2
      go_end0
      exact ⟨⟨_, rfl⟩, .inl ⟨_, rfl, hJs⟩⟩
/-- slices.Backward -/
theorem back_in (F : Fence) (n : Nat) (h : F.fn 43) (hro : F.round = none) (p : Option Addr) (m c : Nat) (w : World) :
    CallsIn F n Try.prog 43 #[.slice p m c] w fun e w' => e = .returned (.func (.func 50) #[] #[.pointer (some ⟨w.heap.size, 0, none⟩)]) ∧ w' = w.alloc (.cells #[.slice p m c] 22) := by
  refine callsIn_of_wp Try.func43 rfl h ?_ hro
  simp only [Try.ntmps43, List.size_toArray, List.length_cons, List.length_nil, Nat.reduceAdd, Nat.reduceSub, Array.replicate_succ, Array.replicate_zero, List.push_toArray, List.append_toArray, List.nil_append, List.cons_append]
  gi_wp2
  go_ret
  exact ⟨rfl, rfl⟩
theorem back_stops (F : Fence) (n : Nat) (h50 : F.fn 50) (hro : F.round = none) (hn : 1 ≤ n) (Bs n₀ : Nat) (L : LT TR) (w : World) (hBs : Bs < n₀) (hn₀ : n₀ ≤ w.heap.size)
    (hc : w.cell? ⟨Bs, 0, none⟩ = some (.slice L.p L.n L.c)) (hL : LT.In elTr w (fun b => b < n₀) L) :
    SeqStopsK F n Try.prog 50 #[.pointer (some ⟨Bs, 0, none⟩)] (fun x : Fin L.n => #[Value.int .i64 (x.val : Int), trV (L.item x.val)]) (Below n₀) (fun ys => ys = backs L.n L.n) (fun pre => ∃ k, k ≤ L.n ∧ pre = backs L.n k) L.n w := fun l J Jx W hW _ _ hY h0 => by
  exact back1_in n F h50 hro hn l Bs n₀ L hL.nn J Jx hY W ((hW.cell (p := ⟨Bs, 0, none⟩) (Nat.lt_of_lt_of_le hBs hn₀)).trans hc) hBs (hL.kept hW.size fun b hb _ => hW.block b (Nat.lt_of_lt_of_le hb hn₀)) h0
end Go.Proofs.Ytbkikbhodgjijaa
