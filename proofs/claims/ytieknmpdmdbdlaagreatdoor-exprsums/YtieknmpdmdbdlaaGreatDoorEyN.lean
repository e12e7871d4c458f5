import Derived.Test.YtieknmpdmdbdlaaGreatDoorEyM
import Derived.Test.YtieknmpdmdbdlaaGreatDoorEyA
namespace Go.Proofs.YtieknmpdmdbdlaaGreatDoor
open Go.RowKit
set_option maxRecDepth 8000

theorem ok_plus (a b : Int) (ha : I64 a) (hb : I64 b) : (decide (wrap64 (a + b) < a) == decide (b < 0)) = !decide ((0 < b ∧ 9223372036854775807 - b < a) ∨ (b < 0 ∧ a < -9223372036854775808 - b)) := by
  obtain ⟨a1, a2⟩ := ha
  obtain ⟨b1, b2⟩ := hb
  have hw : wrap64 (a + b) = a + b ∨ wrap64 (a + b) = a + b - 18446744073709551616 ∨ wrap64 (a + b) = a + b + 18446744073709551616 := by unfold wrap64; omega
  have hr : -9223372036854775808 ≤ wrap64 (a + b) ∧ wrap64 (a + b) ≤ 9223372036854775807 := by unfold wrap64; omega
  generalize wrap64 (a + b) = n at *
  by_cases h : (0 < b ∧ 9223372036854775807 - b < a) ∨ (b < 0 ∧ a < -9223372036854775808 - b)
  · rw [decide_eq_true h]
    by_cases h1 : n < a <;> by_cases h2 : b < 0 <;> simp [h1, h2] <;> omega
  · rw [decide_eq_false h]
    by_cases h1 : n < a <;> by_cases h2 : b < 0 <;> simp [h1, h2] <;> omega
theorem ok_minus (a b : Int) (ha : I64 a) (hb : I64 b) : (decide (a < wrap64 (a - b)) == decide (b < 0)) = !decide ((b < 0 ∧ 9223372036854775807 + b < a) ∨ (0 < b ∧ a < -9223372036854775808 + b)) := by
  obtain ⟨a1, a2⟩ := ha
  obtain ⟨b1, b2⟩ := hb
  have hw : wrap64 (a - b) = a - b ∨ wrap64 (a - b) = a - b - 18446744073709551616 ∨ wrap64 (a - b) = a - b + 18446744073709551616 := by unfold wrap64; omega
  have hr : -9223372036854775808 ≤ wrap64 (a - b) ∧ wrap64 (a - b) ≤ 9223372036854775807 := by unfold wrap64; omega
  generalize wrap64 (a - b) = n at *
  by_cases h : (b < 0 ∧ 9223372036854775807 + b < a) ∨ (0 < b ∧ a < -9223372036854775808 + b)
  · rw [decide_eq_true h]
    by_cases h1 : a < n <;> by_cases h2 : b < 0 <;> simp [h1, h2] <;> omega
  · rw [decide_eq_false h]
    by_cases h1 : a < n <;> by_cases h2 : b < 0 <;> simp [h1, h2] <;> omega
theorem ok_opp (a : Int) (ha : I64 a) : (decide (0 < wrap64 (0 - a)) == decide (a < 0)) = !(a == -9223372036854775808) := by
  obtain ⟨a1, a2⟩ := ha
  by_cases hm : a = -9223372036854775808
  · subst hm; kernel_rfl
  · have hw : wrap64 (0 - a) = -a := by unfold wrap64; omega
    rw [hw, show (a == -9223372036854775808) = false by simpa using hm]
    by_cases h1 : a < 0
    · rw [decide_eq_true h1, decide_eq_true (show 0 < -a by omega)]; rfl
    · rw [decide_eq_false h1, decide_eq_false (show ¬ 0 < -a by omega)]; rfl

theorem w64_range (x : Int) : I64 (wrap64 x) := ⟨by unfold wrap64; omega, by unfold wrap64; omega⟩
theorem w64_cong (x : Int) : ∃ q, wrap64 x = x + q * 18446744073709551616 := ⟨-((x + 9223372036854775808) / 18446744073709551616), by unfold wrap64; omega⟩

/-- a product is right just where it is within int64 -/
theorem pro_right (a b : Int) (ha : I64 a) (hb : I64 b) (h0 : ¬ b = 0) : proB a b = decide (I64 (a * b)) := by
  by_cases hI : I64 (a * b)
  · rw [decide_eq_true hI]
    unfold proB
    have h1 : (a * b).tdiv b = a := Int.mul_tdiv_cancel a h0
    have h2 : ¬ (a = -9223372036854775808 ∧ b = -1) := by
      rintro ⟨rfl, rfl⟩
      exact absurd hI.2 (by decide)
    rw [w64 hI, h1, w64 ha, decide_eq_false h2]
    simp
  · rw [decide_eq_false hI]
    unfold proB
    by_cases ho : a = -9223372036854775808 ∧ b = -1
    · rw [decide_eq_true ho]; simp
    · rw [decide_eq_false ho]
      have hN := w64_range (a * b)
      obtain ⟨q, hq⟩ := w64_cong (a * b)
      have hne : ¬ wrap64 ((wrap64 (a * b)).tdiv b) = a := by
        intro he
        obtain ⟨hM, hM0, hM1⟩ := tmod_facts (wrap64 (a * b)) b h0
        have hE := Int.mul_tdiv_add_tmod (wrap64 (a * b)) b
        by_cases hop : wrap64 (a * b) = -9223372036854775808 ∧ b = -1
        · rw [hop.1, hop.2] at he
          have : a = -9223372036854775808 := by rw [← he]; kernel_rfl
          exact ho ⟨this, hop.2⟩
        · obtain ⟨hT, _⟩ := div_facts (wrap64 (a * b)) b hN hb h0 hop
          rw [w64 hT] at he
          rw [he, Int.mul_comm] at hE
          have hz : (wrap64 (a * b)).tmod b = 0 := by
            obtain ⟨hb1, hb2⟩ := hb
            rw [hq] at hE hM ⊢
            generalize (a * b + q * 18446744073709551616).tmod b = m at *
            have : m = q * 18446744073709551616 := by omega
            omega
          rw [hz] at hE
          exact hI (by rw [show a * b = wrap64 (a * b) by omega]; exact hN)
      simp [hne]
end Go.Proofs.YtieknmpdmdbdlaaGreatDoor
