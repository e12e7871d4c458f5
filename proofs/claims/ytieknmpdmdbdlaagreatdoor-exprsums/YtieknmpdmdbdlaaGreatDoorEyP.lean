import Derived.Test.YtieknmpdmdbdlaaGreatDoorEyH
import Derived.Test.YtieknmpdmdbdlaaGreatDoorEyO
namespace Go.Proofs.YtieknmpdmdbdlaaGreatDoor
open Go.RowKit
set_option maxRecDepth 8000

theorem rk_plus (a b : Int) (ha : I64 a) (hb : I64 b) : RkO plusT a b (wrap64 (a + b)) (overB a b) := fun w => by
  have h := reckons_any plusT a b _ _ w (fun w => plus_eval a b _ _ ha hb (fun w => tot_any a b w) w)
  rw [ok_plus a b ha hb] at h
  exact h
theorem rk_minus (a b : Int) (ha : I64 a) (hb : I64 b) : RkO minusT a b (wrap64 (a - b)) (underB a b) := fun w => by
  have h := reckons_any minusT a b _ _ w (fun w => minus_eval a b _ _ ha hb (fun w => dif_any a b w) w)
  rw [ok_minus a b ha hb] at h
  exact h
theorem rk_opp (a b : Int) (ha : I64 a) : RkO oppT a b (wrap64 (-a)) (a == -9223372036854775808) := fun w => by
  have h := reckons_any oppT a b _ _ w (fun w => opp_eval a b _ _ ha (fun w => dif_any 0 a w) w)
  rw [ok_opp a ha, Int.zero_sub] at h
  exact h
theorem rk_times (a b n : Int) (ok : Bool) (ha : I64 a) (hb : I64 b) (hr : Recks 220 a b n ok) : Rk4 timesT a b (okK ok) (okI ok n) := fun w =>
  reckons_any timesT a b _ _ w (fun w => times_eval a b _ _ ha hb hr w)

theorem sums_walk (a b : Int) (w : World) (ha : I64 a) (hb : I64 b) : Calls Tryz.prog 4 #[.int .i64 a, .int .i64 b] w fun e w' => e = .returned (.bool true) ∧ Below w.heap.size w w' := by
  have r1 := rk_plus a b ha hb
  have r2 := rk_minus a b ha hb
  have r3 := rk_opp a b ha
  by_cases h0 : b = 0
  · subst h0
    have r4 := rk_times a 0 0 true ha hb (fun w => pro_zero a w)
    exact sums_x a 0 w ha hb r1 r2 r3 1 0 r4 true (by simp) (Or.inl ⟨rfl, rfl, rfl⟩)
  have r4 := rk_times a b _ _ ha hb (fun w => pro_any a b w h0)
  rw [pro_right a b ha hb h0] at r4
  have zb : (b == 0) = false := by simpa using h0
  by_cases h1 : a = 0
  · subst h1
    have hI : I64 (0 * b) := by rw [Int.zero_mul]; exact ⟨by decide, by decide⟩
    rw [decide_eq_true hI] at r4
    rw [show wrap64 (0 * b) = 0 by rw [Int.zero_mul]; kernel_rfl] at r4
    exact sums_x 0 b w ha hb r1 r2 r3 1 0 r4 true (by simp) (Or.inl ⟨rfl, rfl, rfl⟩)
  have za : (a == 0) = false := by simpa using h1
  by_cases hI : I64 (a * b)
  · rw [decide_eq_true hI] at r4
    refine sums_x a b w ha hb r1 r2 r3 1 (wrap64 (a * b)) r4 false (by rw [za, zb]; rfl) (Or.inr (Or.inr ⟨rfl, rfl, rfl, h0, ?_, ?_, ?_⟩))
    · intro hA
      have hA' : a = -1 := by simpa using hA
      have : ¬ b = -9223372036854775808 := by
        rintro rfl
        rw [hA'] at hI
        exact absurd hI.2 (by decide)
      simpa using this
    · intro hB
      have hB' : b = -1 := by simpa using hB
      have : ¬ a = -9223372036854775808 := by
        rintro rfl
        rw [hB'] at hI
        exact absurd hI.2 (by decide)
      simpa using this
    · rw [w64 hI, Int.mul_tdiv_cancel a h0, w64 ha]
  · rw [decide_eq_false hI] at r4
    exact sums_x a b w ha hb r1 r2 r3 0 0 r4 false (by rw [za, zb]; rfl) (Or.inr (Or.inl ⟨rfl, rfl, rfl, fun w => outside_any a b w ha hb h1 h0 hI⟩))
end Go.Proofs.YtieknmpdmdbdlaaGreatDoor
