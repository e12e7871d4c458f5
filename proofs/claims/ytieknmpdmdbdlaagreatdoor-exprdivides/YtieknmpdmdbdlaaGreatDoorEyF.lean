import Derived.Test.YtieknmpdmdbdlaaGreatDoorEyE
namespace Go.Proofs.YtieknmpdmdbdlaaGreatDoor
open Go.RowKit
set_option maxRecDepth 8000

theorem divides_walk (a b : Int) (w : World) (ha : I64 a) (hb : I64 b) : Calls Tryz.prog 3 #[.int .i64 a, .int .i64 b] w fun e w' => e = .returned (.bool true) ∧ Below w.heap.size w w' := by
  by_cases h0 : b = 0
  · subst h0
    have h7 := rk_over (-7) 2 ⟨by decide, by decide⟩ ⟨by decide, by decide⟩ (by decide) (by decide)
    rw [show quoI (-7) 2 = -4 by kernel_rfl] at h7
    exact div_zero a w (rk_over_zero a ha) (rk_rest_zero a ha) h7
  by_cases ho : a = -9223372036854775808 ∧ b = -1
  · obtain ⟨rfl, rfl⟩ := ho
    exact div_opp _ _ _ w rk_over_opp (rk_rest _ _ ha hb h0) h0 rfl rfl (by kernel_rfl)
  obtain ⟨hT, hQ, hM, hE, hz, hp, hn, hq⟩ := div_facts a b ha hb h0 ho
  have rQ := rk_over a b ha hb h0 ho
  have rM := rk_rest a b ha hb h0
  have hW : wrap64 (wrap64 (quoI a b * b) + remI a b) = a := by rw [w64_add, hE, w64 ha]
  have hd : wrap64 (a.tdiv b) = a.tdiv b := w64 hT
  generalize quoI a b = q at *
  generalize remI a b = m at *
  by_cases hm : m = 0
  · obtain ⟨ht, hqt⟩ := hz hm
    subst hm
    have hW0 : (wrap64 (wrap64 (q * b)) != a) = false := by
      rw [Int.add_zero] at hW
      rw [hW]
      simp
    have hq' : (q == wrap64 (a.tdiv b)) = true := by rw [hd, hqt]; simp
    by_cases h1 : b = -1
    · have h2 : ¬ a = -9223372036854775808 := fun h => ho ⟨h, h1⟩
      exact div_one a b q 0 w rQ rM h0 (by rw [h1]; rfl) (by simpa using h2) hW0 rfl ht hq'
    · exact div_exact a b q 0 w rQ rM h0 h1 hW0 rfl ht hq'
  · have hW1 : (wrap64 (wrap64 (q * b) + m) != a) = false := by rw [hW]; simp
    have h1 : ¬ b = -1 := by
      intro h
      rcases Int.lt_or_gt_of_ne h0 with h2 | h2
      · have := hn hm h2; omega
      · omega
    rcases Int.lt_or_gt_of_ne h0 with h2 | h2
    · obtain ⟨m1, m2⟩ := hn hm h2
      rcases hq with hq | hq
      · exact div_neg1 a b q m w rQ rM h0 h1 hW1 hm (by omega) h2 (by omega) (by omega) (by rw [hd, hq]; simp)
      · exact div_neg2 a b q m w rQ rM h0 h1 hW1 hm (by omega) h2 (by omega) (by omega) (by rw [hd, hq]; simp; omega) (by rw [hd, ← hq, w64 hQ]; simp)
    · obtain ⟨m1, m2⟩ := hp hm h2
      rcases hq with hq | hq
      · exact div_pos1 a b q m w rQ rM h0 h1 hW1 hm h2 (by omega) (by omega) (by omega) (by rw [hd, hq]; simp)
      · exact div_pos2 a b q m w rQ rM h0 h1 hW1 hm h2 (by omega) (by omega) (by omega) (by rw [hd, hq]; simp; omega) (by rw [hd, ← hq, w64 hQ]; simp)
end Go.Proofs.YtieknmpdmdbdlaaGreatDoor
