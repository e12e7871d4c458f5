import Derived.Test.YtieknmpdmdbdlaaGreatDoorEyN
namespace Go.Proofs.YtieknmpdmdbdlaaGreatDoor
open Go.RowKit
set_option maxRecDepth 8000

theorem out_a (a b : Int) (m : Bool) (w : World) (h1 : (a == -9223372036854775808) = true) (h2 : (a != 1) = true) (h3 : (b != 1) = true) : Calls Tryz.prog 8 #[.int .i64 a, .int .i64 b, .bool m] w fun e w' => Below w.heap.size w w' ∧ e = .returned (.bool true) := by
  go_enter Tryz.func8, Tryz.ntmps8
  go_wp2_with fail
  go_ret
  exact ⟨Below.refl _ _, rfl⟩
theorem out_b (a b : Int) (m : Bool) (w : World) (h1 : (a == -9223372036854775808) = false) (h1' : (b == -9223372036854775808) = true) (h2 : (a != 1) = true) (h3 : (b != 1) = true) : Calls Tryz.prog 8 #[.int .i64 a, .int .i64 b, .bool m] w fun e w' => Below w.heap.size w w' ∧ e = .returned (.bool true) := by
  go_enter Tryz.func8, Tryz.ntmps8
  go_wp2_with fail
  go_ret
  exact ⟨Below.refl _ _, rfl⟩
theorem out_pp (a b : Int) (w : World) (h1 : (a == -9223372036854775808) = false) (h1' : (b == -9223372036854775808) = false) (ha : ¬ a < 0) (hb : ¬ b < 0) (h0 : ¬ b = 0) (hx : (9223372036854775807 : Int) / b < a) : Calls Tryz.prog 8 #[.int .i64 a, .int .i64 b, .bool true] w fun e w' => Below w.heap.size w w' ∧ e = .returned (.bool true) := by
  have HX := hid hx
  clear hx
  go_enter Tryz.func8, Tryz.ntmps8
  go_wp2_with fail
  go_ret
  exact ⟨Below.refl _ _, congrArg (fun z => Ending.returned (.bool z)) (decide_eq_true HX.out)⟩
theorem out_nn (a b : Int) (w : World) (h1 : (a == -9223372036854775808) = false) (h1' : (b == -9223372036854775808) = false) (ha : a < 0) (hb : b < 0) (h0 : ¬ wrap64 (-b) = 0) (hx : wrap64 ((9223372036854775807 : Int).tdiv (wrap64 (-b))) < wrap64 (-a)) : Calls Tryz.prog 8 #[.int .i64 a, .int .i64 b, .bool true] w fun e w' => Below w.heap.size w w' ∧ e = .returned (.bool true) := by
  have HX := hid hx
  clear hx
  go_enter Tryz.func8, Tryz.ntmps8
  go_wp2_with fail
  go_ret
  exact ⟨Below.refl _ _, congrArg (fun z => Ending.returned (.bool z)) (decide_eq_true HX.out)⟩
theorem out_np (a b : Int) (w : World) (h1 : (a == -9223372036854775808) = false) (h1' : (b == -9223372036854775808) = false) (ha : a < 0) (hb : ¬ b < 0) (h0 : ¬ b = 0) (hx : wrap64 (-(wrap64 (-a))) < wrap64 (-((9223372036854775808 : Int).tdiv b))) : Calls Tryz.prog 8 #[.int .i64 a, .int .i64 b, .bool false] w fun e w' => Below w.heap.size w w' ∧ e = .returned (.bool true) := by
  have HX := hid hx
  clear hx
  go_enter Tryz.func8, Tryz.ntmps8
  go_wp2_with fail
  go_ret
  exact ⟨Below.refl _ _, congrArg (fun z => Ending.returned (.bool z)) (decide_eq_true HX.out)⟩
theorem out_pn (a b : Int) (w : World) (h1 : (a == -9223372036854775808) = false) (h1' : (b == -9223372036854775808) = false) (ha : ¬ a < 0) (hb : b < 0) (h0 : ¬ wrap64 (-b) = 0) (hx : wrap64 (-a) < wrap64 (-((9223372036854775808 : Int).tdiv (wrap64 (-b))))) : Calls Tryz.prog 8 #[.int .i64 a, .int .i64 b, .bool false] w fun e w' => Below w.heap.size w w' ∧ e = .returned (.bool true) := by
  have HX := hid hx
  clear hx
  go_enter Tryz.func8, Tryz.ntmps8
  go_wp2_with fail
  go_ret
  exact ⟨Below.refl _ _, congrArg (fun z => Ending.returned (.bool z)) (decide_eq_true HX.out)⟩

/-- x times y is above m: x is above m by y -/
theorem above (m x y : Int) (hy : 0 < y) (hm : 0 ≤ m) (h : m < x * y) : m.tdiv y < x := by
  have hE := Int.mul_tdiv_add_tmod m y
  have hr := Int.tmod_nonneg y hm
  rcases Int.lt_or_le (m.tdiv y) x with h1 | h1
  · exact h1
  · exfalso
    have h2 : x * y ≤ m.tdiv y * y := Int.mul_le_mul_of_nonneg_right h1 (by omega)
    rw [Int.mul_comm] at hE
    omega
theorem i64_tdiv (m y : Int) (hm : I64 m) (hy : 0 < y) : I64 (m.tdiv y) := by
  obtain ⟨m1, m2⟩ := hm
  have := tdiv_bound m y
  by_cases h : m < 0
  · have hz : m.tdiv y ≤ 0 := by
      have := Int.tdiv_nonneg (a := -m) (b := y) (by omega) (by omega)
      rw [Int.neg_tdiv] at this
      omega
    exact ⟨by omega, by omega⟩
  · exact ⟨by omega, by omega⟩

theorem i64_ntdiv (y : Int) (hy : 0 < y) : I64 (-((9223372036854775808 : Int).tdiv y)) := by
  have h := i64_tdiv (-9223372036854775808) y ⟨by decide, by decide⟩ hy
  rw [show (-9223372036854775808 : Int) = -(9223372036854775808) from rfl, Int.neg_tdiv] at h
  exact h

theorem outside_any (a b : Int) (w : World) (ha : I64 a) (hb : I64 b) (h0 : ¬ a = 0) (h0' : ¬ b = 0) (hI : ¬ I64 (a * b)) : Calls Tryz.prog 8 #[.int .i64 a, .int .i64 b, .bool (decide (0 < b) == decide (0 < a))] w fun e w' => Below w.heap.size w w' ∧ e = .returned (.bool true) := by
  have n1 : ¬ a = 1 := by rintro rfl; rw [Int.one_mul] at hI; exact hI hb
  have n2 : ¬ b = 1 := by rintro rfl; rw [Int.mul_one] at hI; exact hI ha
  have n1' : (a != 1) = true := by simpa using n1
  have n2' : (b != 1) = true := by simpa using n2
  by_cases hm : a = -9223372036854775808
  · exact out_a a b _ w (by simpa using hm) n1' n2'
  have hm' : (a == -9223372036854775808) = false := by simpa using hm
  by_cases hm2 : b = -9223372036854775808
  · exact out_b a b _ w hm' (by simpa using hm2) n1' n2'
  have hm2' : (b == -9223372036854775808) = false := by simpa using hm2
  obtain ⟨a1, a2⟩ := ha
  obtain ⟨b1, b2⟩ := hb
  have wa : wrap64 (-a) = -a := w64 ⟨by omega, by omega⟩
  have wb : wrap64 (-b) = -b := w64 ⟨by omega, by omega⟩
  have waa : wrap64 (-(-a)) = a := by rw [Int.neg_neg]; exact w64 ⟨by omega, by omega⟩
  by_cases hp : 0 < a
  · by_cases hq : 0 < b
    · rw [decide_eq_true hp, decide_eq_true hq]
      have hpos : 0 < a * b := Int.mul_pos hp hq
      refine out_pp a b w hm' hm2' (by omega) (by omega) h0' ?_
      rw [← Int.tdiv_eq_ediv_of_nonneg (by decide)]
      exact above _ _ _ hq (by decide) (by
        rcases Int.lt_or_le 9223372036854775807 (a * b) with h | h
        · exact h
        · exact absurd ⟨by omega, h⟩ hI)
    · rw [decide_eq_true hp, decide_eq_false hq]
      have hq' : 0 < -b := by omega
      have hneg : 0 < a * (-b) := Int.mul_pos hp hq'
      rw [Int.mul_neg] at hneg
      refine out_pn a b w hm' hm2' (by omega) (by omega) (by rw [wb]; omega) ?_
      rw [wa, wb, w64 (i64_ntdiv _ hq')]
      have := above 9223372036854775808 a (-b) hq' (by decide) (by
        rw [Int.mul_neg]
        rcases Int.lt_or_le (a * b) (-9223372036854775808) with h | h
        · omega
        · exact absurd ⟨h, by omega⟩ hI)
      omega
  · by_cases hq : 0 < b
    · rw [decide_eq_false hp, decide_eq_true hq]
      have hp' : 0 < -a := by omega
      have hneg : 0 < (-a) * b := Int.mul_pos hp' hq
      rw [Int.neg_mul] at hneg
      refine out_np a b w hm' hm2' (by omega) (by omega) h0' ?_
      rw [wa, waa, w64 (i64_ntdiv _ hq)]
      have := above 9223372036854775808 (-a) b hq (by decide) (by
        rw [Int.neg_mul]
        rcases Int.lt_or_le (a * b) (-9223372036854775808) with h | h
        · omega
        · exact absurd ⟨h, by omega⟩ hI)
      omega
    · rw [decide_eq_false hp, decide_eq_false hq]
      have hp' : 0 < -a := by omega
      have hq' : 0 < -b := by omega
      have hpos : 0 < (-a) * (-b) := Int.mul_pos hp' hq'
      rw [Int.neg_mul_neg] at hpos
      refine out_nn a b w hm' hm2' (by omega) (by omega) (by rw [wb]; omega) ?_
      rw [wa, wb, w64 (i64_tdiv _ _ ⟨by decide, by decide⟩ hq')]
      exact above _ _ _ hq' (by decide) (by
        rw [Int.neg_mul_neg]
        rcases Int.lt_or_le 9223372036854775807 (a * b) with h | h
        · exact h
        · exact absurd ⟨by omega, h⟩ hI)
end Go.Proofs.YtieknmpdmdbdlaaGreatDoor
