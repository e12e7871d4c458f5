import Derived.Test.YtbkikbhodgjijaaYK
import Derived.Test.YtbkikbhodgjijaaYM
namespace Go.Proofs.Ytbkikbhodgjijaa
open Go.RowKit
set_option maxRecDepth 8000
/-- what a line is, from the place where the last life begins: the events so far, the error, all events -/
inductive Back (f : Nat → TR) (T : Nat) : Nat → List EV → Int → List EV → Prop
  | stop {fr acc} : ¬ 0 < beganOf f fr → Back f T fr acc 0 acc
  | none {fr acc} : 0 < beganOf f fr → NoLife f (fr - 1) (beganOf f fr) → Back f T fr acc 180 []
  | bad {fr acc a b} : 0 < beganOf f fr → LifeAt f (fr - 1) (beganOf f fr) a b → ¬ AllCp f a b (beganOf f fr) T → Back f T fr acc 181 []
  | go {fr acc a b m e r} : 0 < beganOf f fr → LifeAt f (fr - 1) (beganOf f fr) a b → (∀ k : Nat, k < T → OneCp f a b (beganOf f fr) (k : Int) (m k)) → Back f T a (evsF f (befP f m true) a (b - a) ++ acc) e r → Back f T fr acc e r
theorem Back.uniq {f : Nat → TR} {T N fr : Nat} {acc r : List EV} {e : Int} (hc : ∀ q, q < N → Can (T : Int) (f q)) (h : Back f T fr acc e r) : fr ≤ N → ∀ {e' : Int} {r' : List EV}, Back f T fr acc e' r' → e = e' ∧ r = r' := by
  induction h with
  | stop h0 =>
    intro hN e' r' g
    cases g with
    | stop => exact ⟨rfl, rfl⟩
    | none g0 => exact (h0 g0).elim
    | bad g0 => exact (h0 g0).elim
    | go g0 => exact (h0 g0).elim
  | none h0 h1 =>
    intro hN e' r' g
    cases g with
    | stop g0 => exact (g0 h0).elim
    | none => exact ⟨rfl, rfl⟩
    | bad g0 g1 => exact (g1.not h1).elim
    | go g0 g1 => exact (g1.not h1).elim
  | bad h0 h1 h2 =>
    intro hN e' r' g
    cases g with
    | stop g0 => exact (g0 h0).elim
    | none g0 g1 => exact (h1.not g1).elim
    | bad => exact ⟨rfl, rfl⟩
    | go g0 g1 g2 =>
      obtain ⟨rfl, rfl⟩ := h1.uniq g1
      exact (h2 fun k hk => ⟨_, g2 k hk⟩).elim
  | go h0 h1 h2 h3 ih =>
    intro hN e' r' g
    cases g with
    | stop g0 => exact (g0 h0).elim
    | none g0 g1 => exact (h1.not g1).elim
    | bad g0 g1 g2 =>
      obtain ⟨rfl, rfl⟩ := h1.uniq g1
      exact (g2 fun k hk => ⟨_, h2 k hk⟩).elim
    | go g0 g1 g2 g3 =>
      obtain ⟨rfl, rfl⟩ := h1.uniq g1
      have hb := h1.bn
      have hab := h1.ab
      rw [← evs_same (n := (T : Int)) hc (by omega) (by rw [Int.toNat_natCast]; exact h2) (by rw [Int.toNat_natCast]; exact g2)] at g3
      exact ih (by omega) g3
theorem Back.len {f : Nat → TR} {T fr : Nat} {acc r : List EV} {e : Int} (h : Back f T fr acc e r) : r.length ≤ acc.length + fr := by
  induction h with
  | stop => omega
  | none => exact Nat.zero_le _
  | bad => exact Nat.zero_le _
  | @go fr acc a b m e r h0 h1 h2 h3 ih =>
    have hb := h1.bn
    have hab := h1.ab
    have := evsF_len f (befP f m true) a (b - a)
    rw [List.length_append] at ih
    omega
theorem Cuts.uniq {f : Nat → TR} {n a a' : Nat} (h : Cuts f n a) (g : Cuts f n a') : a = a' := by
  obtain ⟨h1, h2, h3⟩ := h
  obtain ⟨g1, g2, g3⟩ := g
  rcases Nat.lt_trichotomy a a' with h | h | h
  · rcases g2 with g2 | g2
    · omega
    · exact (h3 (a' - 1) (by omega) (by omega) g2).elim
  · exact h
  · rcases h2 with h2 | h2
    · omega
    · exact (g3 (a - 1) (by omega) (by omega) h2).elim
theorem Cuts.start (f : Nat → TR) : Cuts f 0 0 := ⟨Nat.le_refl _, .inl rfl, fun q h1 h2 => by omega⟩
theorem Cuts.hit {f : Nat → TR} {k : Nat} (hk : (f k).kind = 11) : Cuts f (k + 1) (k + 1) := ⟨Nat.le_refl _, .inr hk, fun q h1 h2 => by omega⟩
theorem Cuts.miss {f : Nat → TR} {k a : Nat} (h : Cuts f k a) (hk : (f k).kind ≠ 11) : Cuts f (k + 1) a := by
  obtain ⟨h1, h2, h3⟩ := h
  refine ⟨by omega, h2, fun q g1 g2 => ?_⟩
  by_cases e : q = k
  · subst e; exact hk
  · exact h3 q g1 (by omega)
/-- what Line answers -/
def LineS (l : LT TR) (n : Int) (err : Int) (xs : List EV) : Prop :=
  (¬ CanL n l ∧ err = 181 ∧ xs = []) ∨ (CanL n l ∧ ∃ a, Cuts l.item l.n a ∧ Back l.item n.toNat a (evsF l.item (fun _ => true) a (l.n - a)) err xs)
theorem LineS.uniq {l : LT TR} {n e e' : Int} {xs xs' : List EV} (h : LineS l n e xs) (g : LineS l n e' xs') : e = e' ∧ xs = xs' := by
  rcases h with ⟨c, rfl, rfl⟩ | ⟨c, a, h1, h2⟩ <;> rcases g with ⟨c', rfl, rfl⟩ | ⟨c', a', g1, g2⟩
  · exact ⟨rfl, rfl⟩
  · exact (c c').elim
  · exact (c' c).elim
  · obtain rfl := h1.uniq g1
    have hn : ((n.toNat : Nat) : Int) = n := by have := c.1; omega
    exact Back.uniq (N := l.n) (by rw [hn]; exact c.2.2) h2 h1.1 g2
theorem LineS.len {l : LT TR} {n e : Int} {xs : List EV} (h : LineS l n e xs) : xs.length ≤ l.n := by
  rcases h with ⟨_, _, rfl⟩ | ⟨_, a, h1, h2⟩
  · exact Nat.zero_le _
  · have := h2.len
    have := evsF_len l.item (fun _ => true) a (l.n - a)
    have := h1.1
    omega
/-- events in a row of its own, with an error -/
def LineQ (l : LT TR) (n : Int) (w : World) (e : Ending) (w' : World) : Prop := ∃ (v : Value) (err : Int) (xs : List EV), LineS l n err xs ∧ e = .returned (.tuple #[v, .int .i64 err]) ∧ EvRow w.heap.size w' v xs ∧ Below w.heap.size w w'
end Go.Proofs.Ytbkikbhodgjijaa
