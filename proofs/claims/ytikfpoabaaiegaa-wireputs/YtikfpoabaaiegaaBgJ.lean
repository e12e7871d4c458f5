import Derived.Test.YtikfpoabaaiegaaPack37
import Derived.Test.YtikfpoabaaiegaaPack38
import Derived.Test.YtikfpoabaaiegaaRkF
namespace Go.Proofs.Ytikfpoabaaiegaa
open Go.RowKit
set_option maxRecDepth 8000
def lgN (l : LT (LT RT)) (n : Nat) : List Int := (List.range n).flatMap fun j => recsN (l.item j)
def lgK (l : LT (LT RT)) (n : Nat) : List ByteArray := (List.range n).flatMap fun j => rowK (l.item j) (l.item j).n
def lgV (l : LT (LT RT)) (n : Nat) : List VT := (List.range n).flatMap fun j => rowV (l.item j) (l.item j).n
theorem lgN_succ (l : LT (LT RT)) (n : Nat) : lgN l (n + 1) = lgN l n ++ recsN (l.item n) := by simp [lgN, List.range_succ]
theorem lgK_succ (l : LT (LT RT)) (n : Nat) : lgK l (n + 1) = lgK l n ++ rowK (l.item n) (l.item n).n := by simp [lgK, List.range_succ]
theorem lgV_succ (l : LT (LT RT)) (n : Nat) : lgV l (n + 1) = lgV l n ++ rowV (l.item n) (l.item n).n := by simp [lgV, List.range_succ]
theorem recsN_len {l : LT RT} (h : VRs l) : (recsN l).length ≤ 1025 := by
  have h1 := rowN_len l l.n (fun j hj => (h.each j hj).n)
  have := h.n
  simp [recsN]
  omega
theorem lgN_len (l : LT (LT RT)) : ∀ n, (∀ j, j < n → VRs (l.item j)) → (lgN l n).length ≤ 1025 * n := by
  intro n
  induction n with
  | zero => intro _; simp [lgN]
  | succ n ih =>
    intro h
    rw [lgN_succ, List.length_append]
    have := ih fun j hj => h j (by omega)
    have := recsN_len (h n (by omega))
    omega
theorem lgK_len (l : LT (LT RT)) : ∀ n, (∀ j, j < n → VRs (l.item j)) → (lgK l n).length ≤ 256 * n := by
  intro n
  induction n with
  | zero => intro _; simp [lgK]
  | succ n ih =>
    intro h
    rw [lgK_succ, List.length_append]
    have := ih fun j hj => h j (by omega)
    have := (h n (by omega)).n
    simp [rowK]
    omega
theorem lgV_len (l : LT (LT RT)) : ∀ n, (∀ j, j < n → VRs (l.item j)) → (lgV l n).length ≤ 256 * n := by
  intro n
  induction n with
  | zero => intro _; simp [lgV]
  | succ n ih =>
    intro h
    rw [lgV_succ, List.length_append]
    have := ih fun j hj => h j (by omega)
    have := (h n (by omega)).n
    simp [rowV]
    omega
theorem celN_len (f : Nat → VT) (n : Nat) : (celN f n).length = n := by simp [celN]
theorem celK_len (f : Nat → VT) (n : Nat) : (celK f n).length = n := by simp [celK]
theorem rowV_in {w : World} {S : Nat → Prop} {l : LT RT} (h : LT.In elRec w S l) : ∀ x ∈ rowV l l.n, VT.In w S x := by
  intro x hx
  simp [rowV] at hx
  obtain ⟨j, hj, rfl⟩ := hx
  exact (show RT.In w S (l.item j) from h.each j hj).v
theorem lgV_in {w : World} {S : Nat → Prop} {l : LT (LT RT)} (h : LT.In elRecs w S l) : ∀ x ∈ lgV l l.n, VT.In w S x := by
  intro x hx
  simp only [lgV, List.mem_flatMap, List.mem_range] at hx
  obtain ⟨j, hj, hx⟩ := hx
  exact rowV_in (show LT.In elRec w S (l.item j) from h.each j hj) x hx
theorem segB_len {w : World} {S : Nat → Prop} {g : GT} (h : GT.In w S g) (hg : VG g) : (segB g).length ≤ 100000000 := by
  have a1 := grpB_len 9 g.id (by have := hg.id; omega)
  have a2 := grpB_len 9 g.task (by have := hg.task; omega)
  have a3 := grpB_len 9 g.base (by have := hg.base; omega)
  have a4 := logs_len h.logs hg.logs
  have a5 := recsB_len h.pend hg.pend
  unfold segB
  by_cases h0 : g.base = 0
  · have a6 := stateB_len (ST.toLT h.st.i h.st.nil) (hg.st h0)
    simp [h0] at a3 ⊢
    omega
  · have a6 := deltaB_len h.d (hg.d h0)
    simp [h0, wordB]
    omega
end Go.Proofs.Ytikfpoabaaiegaa
