import Derived.Test.YtpknlbibijheaabDmH
namespace Go.Proofs.Ytpknlbibijheaab
open Go.RowKit
set_option maxRecDepth 8000
theorem LT.In.src {α : Type} {E : El α} {w : World} {S : Nat → Prop} {l : LT α} (h : LT.In E w S l) : Src w l.p l.n l.c E.size ((List.range l.n).flatMap fun j => E.cells (l.item j)) := by
  cases hp : l.p with
  | none =>
    obtain ⟨h1, h2⟩ := h.nil hp
    rw [h1, h2]
    exact .inl ⟨rfl, rfl, rfl, rfl⟩
  | some ad =>
    refine .inr ⟨ad, rfl, range_flat_len E l.item l.n, fun j u hu => ?_⟩
    have hj : j < l.n * E.size := by
      rcases Nat.lt_or_ge j (l.n * E.size) with h1 | h1
      · exact h1
      · rw [List.getElem?_eq_none (by rw [range_flat_len]; exact h1)] at hu; cases hu
    have hs : 0 < E.size := by
      rcases Nat.eq_zero_or_pos E.size with h1 | h1
      · rw [h1] at hj; omega
      · exact h1
    have hq : j / E.size < l.n := Nat.div_lt_of_lt_mul (by rw [Nat.mul_comm]; exact hj)
    have hr : j % E.size < E.size := Nat.mod_lt _ hs
    have e : j / E.size * E.size + j % E.size = j := by rw [Nat.mul_comm]; exact Nat.div_add_mod j E.size
    obtain ⟨b, o, e1, _, _, ha⟩ := h.at_ (Nat.lt_of_le_of_lt (Nat.zero_le _) hq)
    rw [hp] at e1
    cases e1
    rw [← e, range_flat_get E l.item l.n _ _ hq hr] at hu
    have := ha _ hq _ u hu
    rw [Nat.add_assoc, e] at this
    rw [Go.WideShapes.add_plain]
    exact this

end Go.Proofs.Ytpknlbibijheaab
