import Derived.Test.YtikfpoabaaiegaaPack0
namespace Go.Proofs.Ytikfpoabaaiegaa
open Go.RowKit
set_option maxRecDepth 8000

/-- its kind is one, and no field of another kind is set -/
def fitB (k i : Int) (s : ByteArray) (n : Nat) : Bool := decide (0 ≤ k) && decide (k ≤ 3) && (decide (i = 0) || decide (k = 1)) && (s.toList.isEmpty || decide (k = 2)) && (decide (n = 0) || decide (k = 3))

theorem fits_low (k i : Int) (s : ByteArray) (n : Nat) (p : Option Addr) (c : Nat) (w : World) (h : k < 0) :
    Calls Try.prog 151 #[.agg #[.int .i64 k, .int .i64 i, .string s, .slice p n c]] w fun e w' => e = .returned (.bool false) ∧ Below w.heap.size w w' := by
  go_enter Try.func151, Try.ntmps151
  go_wp2
  go_ret
  exact ⟨rfl, (Below.refl _ _).alloc (Nat.le_refl _) _⟩
theorem fits_high (k i : Int) (s : ByteArray) (n : Nat) (p : Option Addr) (c : Nat) (w : World) (h : 3 < k) (h2 : 0 ≤ k) :
    Calls Try.prog 151 #[.agg #[.int .i64 k, .int .i64 i, .string s, .slice p n c]] w fun e w' => e = .returned (.bool false) ∧ Below w.heap.size w w' := by
  go_enter Try.func151, Try.ntmps151
  go_wp2
  go_ret
  exact ⟨rfl, (Below.refl _ _).alloc (Nat.le_refl _) _⟩
set_option maxHeartbeats 2000000 in
theorem fits_0 (i : Int) (s : ByteArray) (n : Nat) (p : Option Addr) (c : Nat) (w : World) :
    Calls Try.prog 151 #[.agg #[.int .i64 0, .int .i64 i, .string s, .slice p n c]] w fun e w' => e = .returned (.bool (fitB 0 i s n)) ∧ Below w.heap.size w w' := by
  by_cases h1 : i = 0
  · subst h1
    cases h2 : s.toList.isEmpty with
    | true =>
      by_cases h3 : n = 0
      · subst h3
        go_enter Try.func151, Try.ntmps151
        go_wp2
        go_ret
        exact ⟨by simp [fitB, h2], (Below.refl _ _).alloc (Nat.le_refl _) _⟩
      · have h5 : ((n : Int) == 0) = false := by rw [beq_eq_false_iff_ne]; omega
        go_enter Try.func151, Try.ntmps151
        go_wp2
        go_ret
        exact ⟨by simp [fitB, h2, h3], (Below.refl _ _).alloc (Nat.le_refl _) _⟩
    | false =>
      go_enter Try.func151, Try.ntmps151
      go_wp2
      go_ret
      exact ⟨by simp [fitB, h2], (Below.refl _ _).alloc (Nat.le_refl _) _⟩
  · have h4 : (i == 0) = false := by rw [beq_eq_false_iff_ne]; omega
    go_enter Try.func151, Try.ntmps151
    go_wp2
    go_ret
    exact ⟨by simp [fitB, h1], (Below.refl _ _).alloc (Nat.le_refl _) _⟩
set_option maxHeartbeats 2000000 in
theorem fits_1 (i : Int) (s : ByteArray) (n : Nat) (p : Option Addr) (c : Nat) (w : World) :
    Calls Try.prog 151 #[.agg #[.int .i64 1, .int .i64 i, .string s, .slice p n c]] w fun e w' => e = .returned (.bool (fitB 1 i s n)) ∧ Below w.heap.size w w' := by
  by_cases h1 : i = 0
  · subst h1
    cases h2 : s.toList.isEmpty with
    | true =>
      by_cases h3 : n = 0
      · subst h3
        go_enter Try.func151, Try.ntmps151
        go_wp2
        go_ret
        exact ⟨by simp [fitB, h2], (Below.refl _ _).alloc (Nat.le_refl _) _⟩
      · have h5 : ((n : Int) == 0) = false := by rw [beq_eq_false_iff_ne]; omega
        go_enter Try.func151, Try.ntmps151
        go_wp2
        go_ret
        exact ⟨by simp [fitB, h2, h3], (Below.refl _ _).alloc (Nat.le_refl _) _⟩
    | false =>
      go_enter Try.func151, Try.ntmps151
      go_wp2
      go_ret
      exact ⟨by simp [fitB, h2], (Below.refl _ _).alloc (Nat.le_refl _) _⟩
  · have h4 : (i == 0) = false := by rw [beq_eq_false_iff_ne]; omega
    cases h2 : s.toList.isEmpty with
    | true =>
      by_cases h3 : n = 0
      · subst h3
        go_enter Try.func151, Try.ntmps151
        go_wp2
        go_ret
        exact ⟨by simp [fitB, h2], (Below.refl _ _).alloc (Nat.le_refl _) _⟩
      · have h5 : ((n : Int) == 0) = false := by rw [beq_eq_false_iff_ne]; omega
        go_enter Try.func151, Try.ntmps151
        go_wp2
        go_ret
        exact ⟨by simp [fitB, h2, h3], (Below.refl _ _).alloc (Nat.le_refl _) _⟩
    | false =>
      go_enter Try.func151, Try.ntmps151
      go_wp2
      go_ret
      exact ⟨by simp [fitB, h2], (Below.refl _ _).alloc (Nat.le_refl _) _⟩
set_option maxHeartbeats 2000000 in
theorem fits_2 (i : Int) (s : ByteArray) (n : Nat) (p : Option Addr) (c : Nat) (w : World) :
    Calls Try.prog 151 #[.agg #[.int .i64 2, .int .i64 i, .string s, .slice p n c]] w fun e w' => e = .returned (.bool (fitB 2 i s n)) ∧ Below w.heap.size w w' := by
  by_cases h1 : i = 0
  · subst h1
    cases h2 : s.toList.isEmpty with
    | true =>
      by_cases h3 : n = 0
      · subst h3
        go_enter Try.func151, Try.ntmps151
        go_wp2
        go_ret
        exact ⟨by simp [fitB], (Below.refl _ _).alloc (Nat.le_refl _) _⟩
      · have h5 : ((n : Int) == 0) = false := by rw [beq_eq_false_iff_ne]; omega
        go_enter Try.func151, Try.ntmps151
        go_wp2
        go_ret
        exact ⟨by simp [fitB, h3], (Below.refl _ _).alloc (Nat.le_refl _) _⟩
    | false =>
      by_cases h3 : n = 0
      · subst h3
        go_enter Try.func151, Try.ntmps151
        go_wp2
        go_ret
        exact ⟨by simp [fitB], (Below.refl _ _).alloc (Nat.le_refl _) _⟩
      · have h5 : ((n : Int) == 0) = false := by rw [beq_eq_false_iff_ne]; omega
        go_enter Try.func151, Try.ntmps151
        go_wp2
        go_ret
        exact ⟨by simp [fitB, h3], (Below.refl _ _).alloc (Nat.le_refl _) _⟩
  · have h4 : (i == 0) = false := by rw [beq_eq_false_iff_ne]; omega
    go_enter Try.func151, Try.ntmps151
    go_wp2
    go_ret
    exact ⟨by simp [fitB, h1], (Below.refl _ _).alloc (Nat.le_refl _) _⟩
set_option maxHeartbeats 2000000 in
theorem fits_3 (i : Int) (s : ByteArray) (n : Nat) (p : Option Addr) (c : Nat) (w : World) :
    Calls Try.prog 151 #[.agg #[.int .i64 3, .int .i64 i, .string s, .slice p n c]] w fun e w' => e = .returned (.bool (fitB 3 i s n)) ∧ Below w.heap.size w w' := by
  by_cases h1 : i = 0
  · subst h1
    cases h2 : s.toList.isEmpty with
    | true =>
      by_cases h3 : n = 0
      · subst h3
        go_enter Try.func151, Try.ntmps151
        go_wp2
        go_ret
        exact ⟨by simp [fitB, h2], (Below.refl _ _).alloc (Nat.le_refl _) _⟩
      · have h5 : ((n : Int) == 0) = false := by rw [beq_eq_false_iff_ne]; omega
        go_enter Try.func151, Try.ntmps151
        go_wp2
        go_ret
        exact ⟨by simp [fitB, h2], (Below.refl _ _).alloc (Nat.le_refl _) _⟩
    | false =>
      go_enter Try.func151, Try.ntmps151
      go_wp2
      go_ret
      exact ⟨by simp [fitB, h2], (Below.refl _ _).alloc (Nat.le_refl _) _⟩
  · have h4 : (i == 0) = false := by rw [beq_eq_false_iff_ne]; omega
    go_enter Try.func151, Try.ntmps151
    go_wp2
    go_ret
    exact ⟨by simp [fitB, h1], (Below.refl _ _).alloc (Nat.le_refl _) _⟩

theorem fits_any (k i : Int) (s : ByteArray) (n : Nat) (p : Option Addr) (c : Nat) (w : World) :
    Calls Try.prog 151 #[.agg #[.int .i64 k, .int .i64 i, .string s, .slice p n c]] w fun e w' => e = .returned (.bool (fitB k i s n)) ∧ Below w.heap.size w w' := by
  by_cases h0 : k < 0
  · rw [show fitB k i s n = false by simp [fitB]; omega]
    exact fits_low k i s n p c w h0
  by_cases h3 : 3 < k
  · rw [show fitB k i s n = false by simp [fitB]; omega]
    exact fits_high k i s n p c w h3 (by omega)
  obtain rfl | rfl | rfl | rfl : k = 0 ∨ k = 1 ∨ k = 2 ∨ k = 3 := by omega
  · exact fits_0 i s n p c w
  · exact fits_1 i s n p c w
  · exact fits_2 i s n p c w
  · exact fits_3 i s n p c w
end Go.Proofs.Ytikfpoabaaiegaa
