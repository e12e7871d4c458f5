import Derived.Test.YtikfpoabaaiegaaPack3
namespace Go.Proofs.Ytikfpoabaaiegaa
open Go.RowKit
set_option maxRecDepth 8000

set_option maxHeartbeats 1000000 in
theorem flat_many (k i : Int) (s : ByteArray) (n : Nat) (p : Option Addr) (c : Nat) (q : Option Addr) (m e d : Nat) (w : World) (hm : 12 ≤ m) :
    Calls Try.prog 131 #[.agg #[.int .i64 k, .int .i64 i, .string s, .slice p n c], .int .i64 d, .slice q m e] w fun r w' => r = .returned (.tuple #[.slice q m e, .int .i64 22]) ∧ Below w.heap.size w w' := by
  have hm' : (12 : Int) ≤ (m : Int) := by omega
  go_enter Try.func131, Try.ntmps131
  go_wp2_with fail
  go_ret2
  exact ⟨rfl, (Below.refl _ _).alloc (Nat.le_refl _) _⟩
set_option maxHeartbeats 1000000 in
theorem flat_lowi (k : Int) (i : Int) (s : ByteArray) (n : Nat) (p : Option Addr) (c : Nat) (q : Option Addr) (m e d : Nat) (w : World) (_hm : ¬ (12 : Int) ≤ (m : Int)) (_hk : k < 0) (_hk1 : ¬ k = 1) (_hk2 : ¬ k = 2) (_hk3 : ¬ k = 3) (_hi : ¬ i = 0) :
    Calls Try.prog 131 #[.agg #[.int .i64 k, .int .i64 i, .string s, .slice p n c], .int .i64 d, .slice q m e] w fun r w' => r = .returned (.tuple #[.slice q m e, .int .i64 20]) ∧ Below w.heap.size w w' := by
  go_enter Try.func131, Try.ntmps131
  go_wp2_with fail
  go_ret2
  exact ⟨rfl, (Below.refl _ _).alloc (Nat.le_refl _) _⟩
set_option maxHeartbeats 1000000 in
theorem flat_lows (k : Int) (s : ByteArray) (n : Nat) (p : Option Addr) (c : Nat) (q : Option Addr) (m e d : Nat) (w : World) (_hm : ¬ (12 : Int) ≤ (m : Int)) (_hk : k < 0) (_hk1 : ¬ k = 1) (_hk2 : ¬ k = 2) (_hk3 : ¬ k = 3) (_hs : ¬ s.toList = []) :
    Calls Try.prog 131 #[.agg #[.int .i64 k, .int .i64 0, .string s, .slice p n c], .int .i64 d, .slice q m e] w fun r w' => r = .returned (.tuple #[.slice q m e, .int .i64 20]) ∧ Below w.heap.size w w' := by
  go_enter Try.func131, Try.ntmps131
  go_wp2_with fail
  go_ret2
  exact ⟨rfl, (Below.refl _ _).alloc (Nat.le_refl _) _⟩
set_option maxHeartbeats 1000000 in
theorem flat_lown (k : Int) (s : ByteArray) (n : Nat) (p : Option Addr) (c : Nat) (q : Option Addr) (m e d : Nat) (w : World) (_hm : ¬ (12 : Int) ≤ (m : Int)) (_hk : k < 0) (_hk1 : ¬ k = 1) (_hk2 : ¬ k = 2) (_hk3 : ¬ k = 3) (_hs : s.toList = []) (_hn : 0 < n) :
    Calls Try.prog 131 #[.agg #[.int .i64 k, .int .i64 0, .string s, .slice p n c], .int .i64 d, .slice q m e] w fun r w' => r = .returned (.tuple #[.slice q m e, .int .i64 20]) ∧ Below w.heap.size w w' := by
  go_enter Try.func131, Try.ntmps131
  go_wp2_with fail
  go_ret2
  exact ⟨rfl, (Below.refl _ _).alloc (Nat.le_refl _) _⟩
set_option maxHeartbeats 1000000 in
theorem flat_lowz (k : Int) (s : ByteArray) (p : Option Addr) (c : Nat) (q : Option Addr) (m e d : Nat) (w : World) (_hm : ¬ (12 : Int) ≤ (m : Int)) (_hk : k < 0) (_hk1 : ¬ k = 1) (_hk2 : ¬ k = 2) (_hk3 : ¬ k = 3) (_hs : s.toList = []) :
    Calls Try.prog 131 #[.agg #[.int .i64 k, .int .i64 0, .string s, .slice p 0 c], .int .i64 d, .slice q m e] w fun r w' => r = .returned (.tuple #[.slice q m e, .int .i64 20]) ∧ Below w.heap.size w w' := by
  go_enter Try.func131, Try.ntmps131
  go_wp2_with fail
  go_ret2
  exact ⟨rfl, (Below.refl _ _).alloc (Nat.le_refl _) _⟩
set_option maxHeartbeats 1000000 in
theorem flat_highi (k : Int) (i : Int) (s : ByteArray) (n : Nat) (p : Option Addr) (c : Nat) (q : Option Addr) (m e d : Nat) (w : World) (_hm : ¬ (12 : Int) ≤ (m : Int)) (_hk : 3 < k) (_hk0 : ¬ k < 0) (_hk1 : ¬ k = 1) (_hk2 : ¬ k = 2) (_hk3 : ¬ k = 3) (_hi : ¬ i = 0) :
    Calls Try.prog 131 #[.agg #[.int .i64 k, .int .i64 i, .string s, .slice p n c], .int .i64 d, .slice q m e] w fun r w' => r = .returned (.tuple #[.slice q m e, .int .i64 20]) ∧ Below w.heap.size w w' := by
  go_enter Try.func131, Try.ntmps131
  go_wp2_with fail
  go_ret2
  exact ⟨rfl, (Below.refl _ _).alloc (Nat.le_refl _) _⟩
set_option maxHeartbeats 1000000 in
theorem flat_highs (k : Int) (s : ByteArray) (n : Nat) (p : Option Addr) (c : Nat) (q : Option Addr) (m e d : Nat) (w : World) (_hm : ¬ (12 : Int) ≤ (m : Int)) (_hk : 3 < k) (_hk0 : ¬ k < 0) (_hk1 : ¬ k = 1) (_hk2 : ¬ k = 2) (_hk3 : ¬ k = 3) (_hs : ¬ s.toList = []) :
    Calls Try.prog 131 #[.agg #[.int .i64 k, .int .i64 0, .string s, .slice p n c], .int .i64 d, .slice q m e] w fun r w' => r = .returned (.tuple #[.slice q m e, .int .i64 20]) ∧ Below w.heap.size w w' := by
  go_enter Try.func131, Try.ntmps131
  go_wp2_with fail
  go_ret2
  exact ⟨rfl, (Below.refl _ _).alloc (Nat.le_refl _) _⟩
set_option maxHeartbeats 1000000 in
theorem flat_highn (k : Int) (s : ByteArray) (n : Nat) (p : Option Addr) (c : Nat) (q : Option Addr) (m e d : Nat) (w : World) (_hm : ¬ (12 : Int) ≤ (m : Int)) (_hk : 3 < k) (_hk0 : ¬ k < 0) (_hk1 : ¬ k = 1) (_hk2 : ¬ k = 2) (_hk3 : ¬ k = 3) (_hs : s.toList = []) (_hn : 0 < n) :
    Calls Try.prog 131 #[.agg #[.int .i64 k, .int .i64 0, .string s, .slice p n c], .int .i64 d, .slice q m e] w fun r w' => r = .returned (.tuple #[.slice q m e, .int .i64 20]) ∧ Below w.heap.size w w' := by
  go_enter Try.func131, Try.ntmps131
  go_wp2_with fail
  go_ret2
  exact ⟨rfl, (Below.refl _ _).alloc (Nat.le_refl _) _⟩
set_option maxHeartbeats 1000000 in
theorem flat_highz (k : Int) (s : ByteArray) (p : Option Addr) (c : Nat) (q : Option Addr) (m e d : Nat) (w : World) (_hm : ¬ (12 : Int) ≤ (m : Int)) (_hk : 3 < k) (_hk0 : ¬ k < 0) (_hk1 : ¬ k = 1) (_hk2 : ¬ k = 2) (_hk3 : ¬ k = 3) (_hs : s.toList = []) :
    Calls Try.prog 131 #[.agg #[.int .i64 k, .int .i64 0, .string s, .slice p 0 c], .int .i64 d, .slice q m e] w fun r w' => r = .returned (.tuple #[.slice q m e, .int .i64 20]) ∧ Below w.heap.size w w' := by
  go_enter Try.func131, Try.ntmps131
  go_wp2_with fail
  go_ret2
  exact ⟨rfl, (Below.refl _ _).alloc (Nat.le_refl _) _⟩
set_option maxHeartbeats 1000000 in
theorem flat_0i (i : Int) (s : ByteArray) (n : Nat) (p : Option Addr) (c : Nat) (q : Option Addr) (m e d : Nat) (w : World) (_hm : ¬ (12 : Int) ≤ (m : Int)) (_hi : ¬ i = 0) :
    Calls Try.prog 131 #[.agg #[.int .i64 0, .int .i64 i, .string s, .slice p n c], .int .i64 d, .slice q m e] w fun r w' => r = .returned (.tuple #[.slice q m e, .int .i64 20]) ∧ Below w.heap.size w w' := by
  go_enter Try.func131, Try.ntmps131
  go_wp2_with fail
  go_ret2
  exact ⟨rfl, (Below.refl _ _).alloc (Nat.le_refl _) _⟩
set_option maxHeartbeats 1000000 in
theorem flat_0s0 (s : ByteArray) (n : Nat) (p : Option Addr) (c : Nat) (q : Option Addr) (m e d : Nat) (w : World) (_hm : ¬ (12 : Int) ≤ (m : Int)) (_hs : ¬ s.toList = []) :
    Calls Try.prog 131 #[.agg #[.int .i64 0, .int .i64 0, .string s, .slice p n c], .int .i64 d, .slice q m e] w fun r w' => r = .returned (.tuple #[.slice q m e, .int .i64 20]) ∧ Below w.heap.size w w' := by
  go_enter Try.func131, Try.ntmps131
  go_wp2_with fail
  go_ret2
  exact ⟨rfl, (Below.refl _ _).alloc (Nat.le_refl _) _⟩
set_option maxHeartbeats 1000000 in
theorem flat_0n0 (s : ByteArray) (n : Nat) (p : Option Addr) (c : Nat) (q : Option Addr) (m e d : Nat) (w : World) (_hm : ¬ (12 : Int) ≤ (m : Int)) (_hs : s.toList = []) (_hn : 0 < n) :
    Calls Try.prog 131 #[.agg #[.int .i64 0, .int .i64 0, .string s, .slice p n c], .int .i64 d, .slice q m e] w fun r w' => r = .returned (.tuple #[.slice q m e, .int .i64 20]) ∧ Below w.heap.size w w' := by
  go_enter Try.func131, Try.ntmps131
  go_wp2_with fail
  go_ret2
  exact ⟨rfl, (Below.refl _ _).alloc (Nat.le_refl _) _⟩
set_option maxHeartbeats 1000000 in
theorem flat_1s0 (s : ByteArray) (n : Nat) (p : Option Addr) (c : Nat) (q : Option Addr) (m e d : Nat) (w : World) (_hm : ¬ (12 : Int) ≤ (m : Int)) (_hs : ¬ s.toList = []) :
    Calls Try.prog 131 #[.agg #[.int .i64 1, .int .i64 0, .string s, .slice p n c], .int .i64 d, .slice q m e] w fun r w' => r = .returned (.tuple #[.slice q m e, .int .i64 20]) ∧ Below w.heap.size w w' := by
  go_enter Try.func131, Try.ntmps131
  go_wp2_with fail
  go_ret2
  exact ⟨rfl, (Below.refl _ _).alloc (Nat.le_refl _) _⟩
set_option maxHeartbeats 1000000 in
theorem flat_1n0 (s : ByteArray) (n : Nat) (p : Option Addr) (c : Nat) (q : Option Addr) (m e d : Nat) (w : World) (_hm : ¬ (12 : Int) ≤ (m : Int)) (_hs : s.toList = []) (_hn : 0 < n) :
    Calls Try.prog 131 #[.agg #[.int .i64 1, .int .i64 0, .string s, .slice p n c], .int .i64 d, .slice q m e] w fun r w' => r = .returned (.tuple #[.slice q m e, .int .i64 20]) ∧ Below w.heap.size w w' := by
  go_enter Try.func131, Try.ntmps131
  go_wp2_with fail
  go_ret2
  exact ⟨rfl, (Below.refl _ _).alloc (Nat.le_refl _) _⟩
set_option maxHeartbeats 1000000 in
theorem flat_1si (i : Int) (s : ByteArray) (n : Nat) (p : Option Addr) (c : Nat) (q : Option Addr) (m e d : Nat) (w : World) (_hm : ¬ (12 : Int) ≤ (m : Int)) (_hi : ¬ i = 0) (_hs : ¬ s.toList = []) :
    Calls Try.prog 131 #[.agg #[.int .i64 1, .int .i64 i, .string s, .slice p n c], .int .i64 d, .slice q m e] w fun r w' => r = .returned (.tuple #[.slice q m e, .int .i64 20]) ∧ Below w.heap.size w w' := by
  go_enter Try.func131, Try.ntmps131
  go_wp2_with fail
  go_ret2
  exact ⟨rfl, (Below.refl _ _).alloc (Nat.le_refl _) _⟩
set_option maxHeartbeats 1000000 in
theorem flat_1ni (i : Int) (s : ByteArray) (n : Nat) (p : Option Addr) (c : Nat) (q : Option Addr) (m e d : Nat) (w : World) (_hm : ¬ (12 : Int) ≤ (m : Int)) (_hi : ¬ i = 0) (_hs : s.toList = []) (_hn : 0 < n) :
    Calls Try.prog 131 #[.agg #[.int .i64 1, .int .i64 i, .string s, .slice p n c], .int .i64 d, .slice q m e] w fun r w' => r = .returned (.tuple #[.slice q m e, .int .i64 20]) ∧ Below w.heap.size w w' := by
  go_enter Try.func131, Try.ntmps131
  go_wp2_with fail
  go_ret2
  exact ⟨rfl, (Below.refl _ _).alloc (Nat.le_refl _) _⟩
set_option maxHeartbeats 1000000 in
theorem flat_2i (i : Int) (s : ByteArray) (n : Nat) (p : Option Addr) (c : Nat) (q : Option Addr) (m e d : Nat) (w : World) (_hm : ¬ (12 : Int) ≤ (m : Int)) (_hi : ¬ i = 0) :
    Calls Try.prog 131 #[.agg #[.int .i64 2, .int .i64 i, .string s, .slice p n c], .int .i64 d, .slice q m e] w fun r w' => r = .returned (.tuple #[.slice q m e, .int .i64 20]) ∧ Below w.heap.size w w' := by
  go_enter Try.func131, Try.ntmps131
  go_wp2_with fail
  go_ret2
  exact ⟨rfl, (Below.refl _ _).alloc (Nat.le_refl _) _⟩
set_option maxHeartbeats 1000000 in
theorem flat_2n0a (s : ByteArray) (n : Nat) (p : Option Addr) (c : Nat) (q : Option Addr) (m e d : Nat) (w : World) (_hm : ¬ (12 : Int) ≤ (m : Int)) (_hs : s.toList = []) (_hn : 0 < n) :
    Calls Try.prog 131 #[.agg #[.int .i64 2, .int .i64 0, .string s, .slice p n c], .int .i64 d, .slice q m e] w fun r w' => r = .returned (.tuple #[.slice q m e, .int .i64 20]) ∧ Below w.heap.size w w' := by
  go_enter Try.func131, Try.ntmps131
  go_wp2_with fail
  go_ret2
  exact ⟨rfl, (Below.refl _ _).alloc (Nat.le_refl _) _⟩
set_option maxHeartbeats 1000000 in
theorem flat_2n0b (s : ByteArray) (n : Nat) (p : Option Addr) (c : Nat) (q : Option Addr) (m e d : Nat) (w : World) (_hm : ¬ (12 : Int) ≤ (m : Int)) (_hs : ¬ s.toList = []) (_hn : 0 < n) :
    Calls Try.prog 131 #[.agg #[.int .i64 2, .int .i64 0, .string s, .slice p n c], .int .i64 d, .slice q m e] w fun r w' => r = .returned (.tuple #[.slice q m e, .int .i64 20]) ∧ Below w.heap.size w w' := by
  go_enter Try.func131, Try.ntmps131
  go_wp2_with fail
  go_ret2
  exact ⟨rfl, (Below.refl _ _).alloc (Nat.le_refl _) _⟩
set_option maxHeartbeats 1000000 in
theorem flat_3i (i : Int) (s : ByteArray) (n : Nat) (p : Option Addr) (c : Nat) (q : Option Addr) (m e d : Nat) (w : World) (_hm : ¬ (12 : Int) ≤ (m : Int)) (_hi : ¬ i = 0) :
    Calls Try.prog 131 #[.agg #[.int .i64 3, .int .i64 i, .string s, .slice p n c], .int .i64 d, .slice q m e] w fun r w' => r = .returned (.tuple #[.slice q m e, .int .i64 20]) ∧ Below w.heap.size w w' := by
  go_enter Try.func131, Try.ntmps131
  go_wp2_with fail
  go_ret2
  exact ⟨rfl, (Below.refl _ _).alloc (Nat.le_refl _) _⟩
set_option maxHeartbeats 1000000 in
theorem flat_3s0 (s : ByteArray) (n : Nat) (p : Option Addr) (c : Nat) (q : Option Addr) (m e d : Nat) (w : World) (_hm : ¬ (12 : Int) ≤ (m : Int)) (_hs : ¬ s.toList = []) :
    Calls Try.prog 131 #[.agg #[.int .i64 3, .int .i64 0, .string s, .slice p n c], .int .i64 d, .slice q m e] w fun r w' => r = .returned (.tuple #[.slice q m e, .int .i64 20]) ∧ Below w.heap.size w w' := by
  go_enter Try.func131, Try.ntmps131
  go_wp2_with fail
  go_ret2
  exact ⟨rfl, (Below.refl _ _).alloc (Nat.le_refl _) _⟩

theorem flat_kind (k i : Int) (s : ByteArray) (n : Nat) (p : Option Addr) (c : Nat) (q : Option Addr) (m e d : Nat) (w : World) (hm : ¬ 12 ≤ m) (h : fitB k i s n = false) :
    Calls Try.prog 131 #[.agg #[.int .i64 k, .int .i64 i, .string s, .slice p n c], .int .i64 d, .slice q m e] w fun r w' => r = .returned (.tuple #[.slice q m e, .int .i64 20]) ∧ Below w.heap.size w w' := by
  have hm' : ¬ (12 : Int) ≤ (m : Int) := by omega
  by_cases h0 : k < 0
  · by_cases hi : i = 0
    · subst hi
      by_cases hs : s.toList = []
      · by_cases hn : n = 0
        · subst hn; exact flat_lowz k s p c q m e d w hm' h0 (by omega) (by omega) (by omega) hs
        · exact flat_lown k s n p c q m e d w hm' h0 (by omega) (by omega) (by omega) hs (by omega)
      · exact flat_lows k s n p c q m e d w hm' h0 (by omega) (by omega) (by omega) hs
    · exact flat_lowi k i s n p c q m e d w hm' h0 (by omega) (by omega) (by omega) hi
  by_cases h3 : 3 < k
  · by_cases hi : i = 0
    · subst hi
      by_cases hs : s.toList = []
      · by_cases hn : n = 0
        · subst hn; exact flat_highz k s p c q m e d w hm' h3 (by omega) (by omega) (by omega) (by omega) hs
        · exact flat_highn k s n p c q m e d w hm' h3 (by omega) (by omega) (by omega) (by omega) hs (by omega)
      · exact flat_highs k s n p c q m e d w hm' h3 (by omega) (by omega) (by omega) (by omega) hs
    · exact flat_highi k i s n p c q m e d w hm' h3 (by omega) (by omega) (by omega) (by omega) hi
  obtain rfl | rfl | rfl | rfl : k = 0 ∨ k = 1 ∨ k = 2 ∨ k = 3 := by omega
  · by_cases hi : i = 0
    · subst hi
      by_cases hs : s.toList = []
      · have hn : 0 < n := by simp [fitB, hs] at h; omega
        exact flat_0n0 s n p c q m e d w hm' hs hn
      · exact flat_0s0 s n p c q m e d w hm' hs
    · exact flat_0i i s n p c q m e d w hm' hi
  · by_cases hs : s.toList = []
    · have hn : 0 < n := by simp [fitB, hs] at h; omega
      by_cases hi : i = 0
      · subst hi; exact flat_1n0 s n p c q m e d w hm' hs hn
      · exact flat_1ni i s n p c q m e d w hm' hi hs hn
    · by_cases hi : i = 0
      · subst hi; exact flat_1s0 s n p c q m e d w hm' hs
      · exact flat_1si i s n p c q m e d w hm' hi hs
  · by_cases hi : i = 0
    · subst hi
      have hn : 0 < n := by simp [fitB] at h; omega
      by_cases hs : s.toList = []
      · exact flat_2n0a s n p c q m e d w hm' hs hn
      · exact flat_2n0b s n p c q m e d w hm' hs hn
    · exact flat_2i i s n p c q m e d w hm' hi
  · by_cases hi : i = 0
    · subst hi
      have hs : ¬ s.toList = [] := by simpa [fitB] using h
      exact flat_3s0 s n p c q m e d w hm' hs
    · exact flat_3i i s n p c q m e d w hm' hi
end Go.Proofs.Ytikfpoabaaiegaa
