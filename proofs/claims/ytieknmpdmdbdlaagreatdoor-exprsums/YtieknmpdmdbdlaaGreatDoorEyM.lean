import Derived.Test.YtieknmpdmdbdlaaGreatDoorExA
namespace Go.Proofs.YtieknmpdmdbdlaaGreatDoor
open Go.RowKit

theorem w64 {x : Int} (h : I64 x) : wrap64 x = x := by
  obtain ⟨h1, h2⟩ := h
  unfold wrap64
  omega
theorem w64_add (p m : Int) : wrap64 (wrap64 p + m) = wrap64 (p + m) := by
  unfold wrap64
  omega
theorem tdiv_bound (a b : Int) : (a.tdiv b).natAbs ≤ a.natAbs := by
  rw [Int.natAbs_tdiv]
  exact Nat.div_le_self _ _
theorem tdiv_half (a b : Int) (hb : 2 ≤ b.natAbs) : 2 * (a.tdiv b).natAbs ≤ a.natAbs := by
  rw [Int.natAbs_tdiv]
  have h1 : a.natAbs.div b.natAbs ≤ a.natAbs / 2 := Nat.div_le_div_left hb (by omega)
  omega
theorem tdiv_one (a b : Int) (hb : b.natAbs = 1) : (a.tdiv b = a ∨ a.tdiv b = -a) ∧ a.tmod b = 0 := by
  have hb' : b = 1 ∨ b = -1 := by omega
  rcases hb' with rfl | rfl
  · simp
  · constructor
    · right; simp
    · simp
theorem tmod_facts (a b : Int) (hb : ¬ b = 0) : (a.tmod b).natAbs < b.natAbs ∧ (0 ≤ a → 0 ≤ a.tmod b) ∧ (a ≤ 0 → a.tmod b ≤ 0) := by
  refine ⟨?_, fun h => Int.tmod_nonneg _ h, fun h => ?_⟩
  · rw [Int.natAbs_tmod]
    exact Nat.mod_lt _ (by omega)
  · have := Int.tmod_nonneg b (a := -a) (by omega)
    rw [Int.neg_tmod] at this
    omega
/-- what a division comes to -/
theorem div_facts (a b : Int) (ha : I64 a) (hb : I64 b) (h0 : ¬ b = 0) (ho : ¬ (a = -9223372036854775808 ∧ b = -1)) :
    I64 (a.tdiv b) ∧ I64 (quoI a b) ∧ I64 (remI a b) ∧ quoI a b * b + remI a b = a ∧ (remI a b = 0 → a.tmod b = 0 ∧ quoI a b = a.tdiv b) ∧ (¬ remI a b = 0 → 0 < b → 0 ≤ remI a b ∧ remI a b < b) ∧ (¬ remI a b = 0 → b < 0 → remI a b ≤ 0 ∧ b < remI a b) ∧ (quoI a b = a.tdiv b ∨ quoI a b = a.tdiv b - 1) := by
  obtain ⟨ha1, ha2⟩ := ha
  obtain ⟨hb1, hb2⟩ := hb
  have hT := tdiv_bound a b
  obtain ⟨hM, hM0, hM1⟩ := tmod_facts a b h0
  have hE := Int.mul_tdiv_add_tmod a b
  have hTr : I64 (a.tdiv b) := by
    by_cases h1 : b.natAbs = 1
    · obtain ⟨h2 | h2, _⟩ := tdiv_one a b h1
      · rw [h2]; exact ⟨ha1, ha2⟩
      · rw [h2]
        by_cases hm : a = -9223372036854775808
        · have hb' : b = 1 := by omega
          subst hb'
          simp at h2
          omega
        · exact ⟨by omega, by omega⟩
    · have := tdiv_half a b (by omega)
      exact ⟨by omega, by omega⟩
  have hMr : I64 (a.tmod b) := ⟨by omega, by omega⟩
  unfold quoI remI
  by_cases hc : cutB a b = true
  · rw [if_pos hc, if_pos hc, w64 hTr]
    unfold cutB at hc
    simp only [Bool.and_eq_true, Bool.not_eq_true', beq_eq_false_iff_ne, ne_eq, decide_eq_decide] at hc
    obtain ⟨hm0, hs⟩ := hc
    have hb2' : 2 ≤ b.natAbs := by
      rcases Nat.lt_or_ge b.natAbs 2 with h | h
      · exact absurd (tdiv_one a b (by omega)).2 hm0
      · exact h
    have hTh := tdiv_half a b hb2'
    have hI1 : I64 (a.tdiv b - 1) := ⟨by omega, by omega⟩
    have hI2 : I64 (a.tmod b + b) := ⟨by omega, by omega⟩
    rw [w64 hI1, w64 hI2]
    refine ⟨hTr, hI1, hI2, ?_, fun h => ?_, fun _ hp => ?_, fun _ hp => ?_, Or.inr rfl⟩
    · rw [Int.sub_mul, Int.mul_comm (a.tdiv b) b]; omega
    · exfalso; omega
    · omega
    · omega
  · rw [if_neg hc, if_neg hc, w64 hTr]
    unfold cutB at hc
    simp only [Bool.and_eq_true, Bool.not_eq_true', beq_eq_false_iff_ne, ne_eq, decide_eq_decide, not_and, Classical.not_not] at hc
    refine ⟨hTr, hTr, hMr, ?_, fun h => ⟨h, rfl⟩, fun hm hp => ?_, fun hm hp => ?_, Or.inl rfl⟩
    · rw [Int.mul_comm]; omega
    · have := hc hm; omega
    · have := hc hm; omega
end Go.Proofs.YtieknmpdmdbdlaaGreatDoor
