import Derived.Test.YtbkikbhodgjijaaYQ
import Derived.Test.YtbkikbhodgjijaaYK
import Derived.Test.YtbkikbhodgjijaaYO
namespace Go.Proofs.Ytbkikbhodgjijaa
open Go.RowKit
set_option maxRecDepth 8000
/-- how many copies of a task stand among d entries -/
def cpN (f : Nat → TR) (a : Nat) (i : Int) (k : Nat) : Nat → Nat
  | 0 => 0
  | d + 1 => cpN f a i k d + (if (f (a + d)).kind = 3 ∧ (f (a + d)).id = i ∧ (f (a + d)).task = (k : Int) then 1 else 0)
theorem cpN_yes {f : Nat → TR} {a : Nat} {i : Int} {k d : Nat} (h : (f (a + d)).cp i (k : Int)) : cpN f a i k (d + 1) = cpN f a i k d + 1 := by unfold TR.cp at h; rw [cpN, if_pos h]
theorem cpN_no {f : Nat → TR} {a : Nat} {i : Int} {k d : Nat} (h : ¬ (f (a + d)).cp i (k : Int)) : cpN f a i k (d + 1) = cpN f a i k d := by unfold TR.cp at h; rw [cpN, if_neg h]; rfl
theorem cpN_le {f : Nat → TR} {a : Nat} {i : Int} {k d : Nat} : cpN f a i k d ≤ d := by
  induction d with
  | zero => exact Nat.le_refl _
  | succ d ih => rw [cpN]; split <;> omega
theorem cpN_mono {f : Nat → TR} {a : Nat} {i : Int} {k d d' : Nat} (h : d ≤ d') : cpN f a i k d ≤ cpN f a i k d' := by
  induction h with
  | refl => exact Nat.le_refl _
  | step _ ih => rw [cpN]; omega
theorem cpN_zero {f : Nat → TR} {a : Nat} {i : Int} {k : Nat} : ∀ {d : Nat}, cpN f a i k d = 0 ↔ ∀ q, a ≤ q → q < a + d → ¬ (f q).cp i (k : Int) := by
  intro d
  induction d with
  | zero => exact ⟨fun _ q h1 h2 => by omega, fun _ => rfl⟩
  | succ d ih =>
    by_cases h : (f (a + d)).cp i (k : Int)
    · rw [cpN_yes h]
      exact ⟨fun h1 => by omega, fun h1 => (h1 (a + d) (by omega) (by omega) h).elim⟩
    · rw [cpN_no h, ih]
      refine ⟨fun h1 q h2 h3 => ?_, fun h1 q h2 h3 => h1 q h2 (by omega)⟩
      by_cases hq : q = a + d
      · subst hq; exact h
      · exact h1 q h2 (by omega)
theorem cpN_one {f : Nat → TR} {a : Nat} {i : Int} {k : Nat} : ∀ {d : Nat}, cpN f a i k d = 1 ↔ ∃ m, OneCp f a (a + d) i (k : Int) m := by
  intro d
  induction d with
  | zero => exact ⟨fun h => (by cases h), fun ⟨m, h1, h2, _⟩ => by omega⟩
  | succ d ih =>
    by_cases h : (f (a + d)).cp i (k : Int)
    · rw [cpN_yes h]
      constructor
      · intro h1
        have h2 := cpN_zero.1 (show cpN f a i k d = 0 by omega)
        refine ⟨a + d, by omega, by omega, h, fun q h3 h4 h5 => ?_⟩
        by_cases hq : q = a + d
        · exact hq
        · exact (h2 q h3 (by omega) h5).elim
      · rintro ⟨m, h1, h2, h3, h4⟩
        have e := h4 (a + d) (by omega) (by omega) h
        have : cpN f a i k d = 0 := cpN_zero.2 fun q h5 h6 h7 => by have := h4 q h5 (by omega) h7; omega
        omega
    · rw [cpN_no h, ih]
      constructor
      · rintro ⟨m, h1, h2, h3, h4⟩
        refine ⟨m, h1, by omega, h3, fun q h5 h6 h7 => ?_⟩
        by_cases hq : q = a + d
        · subst hq; exact (h h7).elim
        · exact h4 q h5 (by omega) h7
      · rintro ⟨m, h1, h2, h3, h4⟩
        have hm : m ≠ a + d := fun e => by subst e; exact h h3
        exact ⟨m, h1, by omega, h3, fun q h5 h6 h7 => h4 q h5 (by omega) h7⟩
/-- no copy of its task yet -/
def befC (f : Nat → TR) (a : Nat) (i : Int) (first : Bool) (q : Nat) : Bool := decide (cpN f a i (f q).task.toNat (q - a) = 0) == first
theorem befC_befP {f : Nat → TR} {a b : Nat} {n i : Int} {m : Nat → Nat} {first : Bool} (hc : ∀ q, a ≤ q → q < b → Can n (f q)) (h : ∀ k : Nat, k < n.toNat → OneCp f a b i (k : Int) (m k)) : evsF f (befC f a i first) a (b - a) = evsF f (befP f m first) a (b - a) := by
  refine evsF_congr fun q h1 h2 h3 => ?_
  have hq := hc q h1 (by omega)
  have hk : (f q).task.toNat < n.toNat := by have := hq.1; have := hq.2.1; omega
  obtain ⟨g1, g2, g3, g4⟩ := h _ hk
  unfold befC befP
  have e : (cpN f a i (f q).task.toNat (q - a) = 0) ↔ q < m (f q).task.toNat := by
    rw [cpN_zero]
    constructor
    · intro h4
      rcases Nat.lt_trichotomy q (m (f q).task.toNat) with h5 | h5 | h5
      · exact h5
      · rw [← h5] at g3
        have := g3.1
        omega
      · exact (h4 _ g1 (by omega) g3).elim
    · intro h4 r h5 h6 h7
      have := g4 r h5 (by omega) h7
      omega
  by_cases hz : q < m (f q).task.toNat
  · rw [decide_eq_true (e.2 hz), decide_eq_true hz]
  · rw [decide_eq_false (fun h => hz (e.1 h)), decide_eq_false hz]
/-- what read answers -/
def ReadQ (l : LT TR) (S : Nat → Prop) (i : Int) (g T : Nat) (w : World) (e : Ending) (w' : World) : Prop := But (fun k => k = g) w w' ∧ Raw w' g T ∧
  ((NoLife l.item l.n i ∧ e = .returned (.tuple #[.agg #[.int .i64 0, .slice none 0 0, .slice none 0 0, .slice none 0 0, .slice none 0 0], .int .i64 180])) ∨
   (∃ a b, LifeAt l.item l.n i a b ∧ ¬ AllCp l.item a b i T ∧ e = .returned (.tuple #[.agg #[.int .i64 0, .slice none 0 0, .slice none 0 0, .slice none 0 0, .slice none 0 0], .int .i64 181])) ∨
   ∃ (a b : Nat) (m : Nat → Nat) (pa pe : Option Addr) (ca ce : Nat) (v1 v2 : Value), LifeAt l.item l.n i a b ∧ (∀ k : Nat, k < T → OneCp l.item a b i (k : Int) (m k)) ∧ e = .returned (.tuple #[.agg #[.int .i64 (beganOf l.item a), .slice pa (a - 1) ca, .slice pe (b - a) ce, v1, v2], .int .i64 0]) ∧ LT.In elTr w' S ⟨pa, a - 1, ca, l.item⟩ ∧ LT.In elTr w' S ⟨pe, b - a, ce, fun j => l.item (a + j)⟩ ∧ EvRow w.heap.size w' v1 (evsF l.item (befP l.item m true) a (b - a)) ∧ EvRow w.heap.size w' v2 (evsF l.item (befP l.item m false) a (b - a)) ∧ ∀ x, v1.ownBlock = some x → v2.ownBlock ≠ some x)
end Go.Proofs.Ytbkikbhodgjijaa
