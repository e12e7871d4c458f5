import Derived.Test.YtpknlbibijheaabPack26
import Derived.Test.YtpknlbibijheaabFlatGood
import Derived.Test.YtpknlbibijheaabPack10
namespace Go.Proofs.Ytpknlbibijheaab
open Go.RowKit
set_option maxRecDepth 8000

set_option maxHeartbeats 1000000 in
theorem flat_many (k i : Int) (s : ByteArray) (n : Nat) (p : Option Addr) (c : Nat) (q : Option Addr) (m e d : Nat) (w : World) (hm : 12 ≤ m) :
    Calls Try.prog 50 #[.agg #[.int .i64 k, .int .i64 i, .string s, .slice p n c], .int .i64 d, .slice q m e] w fun r w' => r = .returned (.tuple #[.slice q m e, .int .i64 22]) ∧ Below w.heap.size w w' := by
  have hm' : (12 : Int) ≤ (m : Int) := by omega
  go_enter Try.func50, Try.ntmps50
  go_wp2_with fail
  go_ret2
  exact ⟨rfl, (Below.refl _ _).alloc (Nat.le_refl _) _⟩
set_option maxHeartbeats 1000000 in
theorem flat_lowi (k : Int) (i : Int) (s : ByteArray) (n : Nat) (p : Option Addr) (c : Nat) (q : Option Addr) (m e d : Nat) (w : World) (_hm : ¬ (12 : Int) ≤ (m : Int)) (_hk : k < 0) (_hk1 : ¬ k = 1) (_hk2 : ¬ k = 2) (_hk3 : ¬ k = 3) (_hi : ¬ i = 0) :
    Calls Try.prog 50 #[.agg #[.int .i64 k, .int .i64 i, .string s, .slice p n c], .int .i64 d, .slice q m e] w fun r w' => r = .returned (.tuple #[.slice q m e, .int .i64 20]) ∧ Below w.heap.size w w' := by
  go_enter Try.func50, Try.ntmps50
  go_wp2_with fail
  go_ret2
  exact ⟨rfl, (Below.refl _ _).alloc (Nat.le_refl _) _⟩
set_option maxHeartbeats 1000000 in
theorem flat_lows (k : Int) (s : ByteArray) (n : Nat) (p : Option Addr) (c : Nat) (q : Option Addr) (m e d : Nat) (w : World) (_hm : ¬ (12 : Int) ≤ (m : Int)) (_hk : k < 0) (_hk1 : ¬ k = 1) (_hk2 : ¬ k = 2) (_hk3 : ¬ k = 3) (_hs : ¬ s.toList = []) :
    Calls Try.prog 50 #[.agg #[.int .i64 k, .int .i64 0, .string s, .slice p n c], .int .i64 d, .slice q m e] w fun r w' => r = .returned (.tuple #[.slice q m e, .int .i64 20]) ∧ Below w.heap.size w w' := by
  go_enter Try.func50, Try.ntmps50
  go_wp2_with fail
  go_ret2
  exact ⟨rfl, (Below.refl _ _).alloc (Nat.le_refl _) _⟩
set_option maxHeartbeats 1000000 in
theorem flat_lown (k : Int) (s : ByteArray) (n : Nat) (p : Option Addr) (c : Nat) (q : Option Addr) (m e d : Nat) (w : World) (_hm : ¬ (12 : Int) ≤ (m : Int)) (_hk : k < 0) (_hk1 : ¬ k = 1) (_hk2 : ¬ k = 2) (_hk3 : ¬ k = 3) (_hs : s.toList = []) (_hn : 0 < n) :
    Calls Try.prog 50 #[.agg #[.int .i64 k, .int .i64 0, .string s, .slice p n c], .int .i64 d, .slice q m e] w fun r w' => r = .returned (.tuple #[.slice q m e, .int .i64 20]) ∧ Below w.heap.size w w' := by
  go_enter Try.func50, Try.ntmps50
  go_wp2_with fail
  go_ret2
  exact ⟨rfl, (Below.refl _ _).alloc (Nat.le_refl _) _⟩
set_option maxHeartbeats 1000000 in
theorem flat_lowz (k : Int) (s : ByteArray) (p : Option Addr) (c : Nat) (q : Option Addr) (m e d : Nat) (w : World) (_hm : ¬ (12 : Int) ≤ (m : Int)) (_hk : k < 0) (_hk1 : ¬ k = 1) (_hk2 : ¬ k = 2) (_hk3 : ¬ k = 3) (_hs : s.toList = []) :
    Calls Try.prog 50 #[.agg #[.int .i64 k, .int .i64 0, .string s, .slice p 0 c], .int .i64 d, .slice q m e] w fun r w' => r = .returned (.tuple #[.slice q m e, .int .i64 20]) ∧ Below w.heap.size w w' := by
  go_enter Try.func50, Try.ntmps50
  go_wp2_with fail
  go_ret2
  exact ⟨rfl, (Below.refl _ _).alloc (Nat.le_refl _) _⟩
set_option maxHeartbeats 1000000 in
theorem flat_highi (k : Int) (i : Int) (s : ByteArray) (n : Nat) (p : Option Addr) (c : Nat) (q : Option Addr) (m e d : Nat) (w : World) (_hm : ¬ (12 : Int) ≤ (m : Int)) (_hk : 3 < k) (_hk0 : ¬ k < 0) (_hk1 : ¬ k = 1) (_hk2 : ¬ k = 2) (_hk3 : ¬ k = 3) (_hi : ¬ i = 0) :
    Calls Try.prog 50 #[.agg #[.int .i64 k, .int .i64 i, .string s, .slice p n c], .int .i64 d, .slice q m e] w fun r w' => r = .returned (.tuple #[.slice q m e, .int .i64 20]) ∧ Below w.heap.size w w' := by
  go_enter Try.func50, Try.ntmps50
  go_wp2_with fail
  go_ret2
  exact ⟨rfl, (Below.refl _ _).alloc (Nat.le_refl _) _⟩
set_option maxHeartbeats 1000000 in
theorem flat_highs (k : Int) (s : ByteArray) (n : Nat) (p : Option Addr) (c : Nat) (q : Option Addr) (m e d : Nat) (w : World) (_hm : ¬ (12 : Int) ≤ (m : Int)) (_hk : 3 < k) (_hk0 : ¬ k < 0) (_hk1 : ¬ k = 1) (_hk2 : ¬ k = 2) (_hk3 : ¬ k = 3) (_hs : ¬ s.toList = []) :
    Calls Try.prog 50 #[.agg #[.int .i64 k, .int .i64 0, .string s, .slice p n c], .int .i64 d, .slice q m e] w fun r w' => r = .returned (.tuple #[.slice q m e, .int .i64 20]) ∧ Below w.heap.size w w' := by
  go_enter Try.func50, Try.ntmps50
  go_wp2_with fail
  go_ret2
  exact ⟨rfl, (Below.refl _ _).alloc (Nat.le_refl _) _⟩
set_option maxHeartbeats 1000000 in
theorem flat_highn (k : Int) (s : ByteArray) (n : Nat) (p : Option Addr) (c : Nat) (q : Option Addr) (m e d : Nat) (w : World) (_hm : ¬ (12 : Int) ≤ (m : Int)) (_hk : 3 < k) (_hk0 : ¬ k < 0) (_hk1 : ¬ k = 1) (_hk2 : ¬ k = 2) (_hk3 : ¬ k = 3) (_hs : s.toList = []) (_hn : 0 < n) :
    Calls Try.prog 50 #[.agg #[.int .i64 k, .int .i64 0, .string s, .slice p n c], .int .i64 d, .slice q m e] w fun r w' => r = .returned (.tuple #[.slice q m e, .int .i64 20]) ∧ Below w.heap.size w w' := by
  go_enter Try.func50, Try.ntmps50
  go_wp2_with fail
  go_ret2
  exact ⟨rfl, (Below.refl _ _).alloc (Nat.le_refl _) _⟩
set_option maxHeartbeats 1000000 in
theorem flat_highz (k : Int) (s : ByteArray) (p : Option Addr) (c : Nat) (q : Option Addr) (m e d : Nat) (w : World) (_hm : ¬ (12 : Int) ≤ (m : Int)) (_hk : 3 < k) (_hk0 : ¬ k < 0) (_hk1 : ¬ k = 1) (_hk2 : ¬ k = 2) (_hk3 : ¬ k = 3) (_hs : s.toList = []) :
    Calls Try.prog 50 #[.agg #[.int .i64 k, .int .i64 0, .string s, .slice p 0 c], .int .i64 d, .slice q m e] w fun r w' => r = .returned (.tuple #[.slice q m e, .int .i64 20]) ∧ Below w.heap.size w w' := by
  go_enter Try.func50, Try.ntmps50
  go_wp2_with fail
  go_ret2
  exact ⟨rfl, (Below.refl _ _).alloc (Nat.le_refl _) _⟩
set_option maxHeartbeats 1000000 in
theorem flat_0i (i : Int) (s : ByteArray) (n : Nat) (p : Option Addr) (c : Nat) (q : Option Addr) (m e d : Nat) (w : World) (_hm : ¬ (12 : Int) ≤ (m : Int)) (_hi : ¬ i = 0) :
    Calls Try.prog 50 #[.agg #[.int .i64 0, .int .i64 i, .string s, .slice p n c], .int .i64 d, .slice q m e] w fun r w' => r = .returned (.tuple #[.slice q m e, .int .i64 20]) ∧ Below w.heap.size w w' := by
  go_enter Try.func50, Try.ntmps50
  go_wp2_with fail
  go_ret2
  exact ⟨rfl, (Below.refl _ _).alloc (Nat.le_refl _) _⟩
set_option maxHeartbeats 1000000 in
theorem flat_0s0 (s : ByteArray) (n : Nat) (p : Option Addr) (c : Nat) (q : Option Addr) (m e d : Nat) (w : World) (_hm : ¬ (12 : Int) ≤ (m : Int)) (_hs : ¬ s.toList = []) :
    Calls Try.prog 50 #[.agg #[.int .i64 0, .int .i64 0, .string s, .slice p n c], .int .i64 d, .slice q m e] w fun r w' => r = .returned (.tuple #[.slice q m e, .int .i64 20]) ∧ Below w.heap.size w w' := by
  go_enter Try.func50, Try.ntmps50
  go_wp2_with fail
  go_ret2
  exact ⟨rfl, (Below.refl _ _).alloc (Nat.le_refl _) _⟩
set_option maxHeartbeats 1000000 in
theorem flat_0n0 (s : ByteArray) (n : Nat) (p : Option Addr) (c : Nat) (q : Option Addr) (m e d : Nat) (w : World) (_hm : ¬ (12 : Int) ≤ (m : Int)) (_hs : s.toList = []) (_hn : 0 < n) :
    Calls Try.prog 50 #[.agg #[.int .i64 0, .int .i64 0, .string s, .slice p n c], .int .i64 d, .slice q m e] w fun r w' => r = .returned (.tuple #[.slice q m e, .int .i64 20]) ∧ Below w.heap.size w w' := by
  go_enter Try.func50, Try.ntmps50
  go_wp2_with fail
  go_ret2
  exact ⟨rfl, (Below.refl _ _).alloc (Nat.le_refl _) _⟩
set_option maxHeartbeats 1000000 in
theorem flat_1s0 (s : ByteArray) (n : Nat) (p : Option Addr) (c : Nat) (q : Option Addr) (m e d : Nat) (w : World) (_hm : ¬ (12 : Int) ≤ (m : Int)) (_hs : ¬ s.toList = []) :
    Calls Try.prog 50 #[.agg #[.int .i64 1, .int .i64 0, .string s, .slice p n c], .int .i64 d, .slice q m e] w fun r w' => r = .returned (.tuple #[.slice q m e, .int .i64 20]) ∧ Below w.heap.size w w' := by
  go_enter Try.func50, Try.ntmps50
  go_wp2_with fail
  go_ret2
  exact ⟨rfl, (Below.refl _ _).alloc (Nat.le_refl _) _⟩
set_option maxHeartbeats 1000000 in
theorem flat_1n0 (s : ByteArray) (n : Nat) (p : Option Addr) (c : Nat) (q : Option Addr) (m e d : Nat) (w : World) (_hm : ¬ (12 : Int) ≤ (m : Int)) (_hs : s.toList = []) (_hn : 0 < n) :
    Calls Try.prog 50 #[.agg #[.int .i64 1, .int .i64 0, .string s, .slice p n c], .int .i64 d, .slice q m e] w fun r w' => r = .returned (.tuple #[.slice q m e, .int .i64 20]) ∧ Below w.heap.size w w' := by
  go_enter Try.func50, Try.ntmps50
  go_wp2_with fail
  go_ret2
  exact ⟨rfl, (Below.refl _ _).alloc (Nat.le_refl _) _⟩
set_option maxHeartbeats 1000000 in
theorem flat_1si (i : Int) (s : ByteArray) (n : Nat) (p : Option Addr) (c : Nat) (q : Option Addr) (m e d : Nat) (w : World) (_hm : ¬ (12 : Int) ≤ (m : Int)) (_hi : ¬ i = 0) (_hs : ¬ s.toList = []) :
    Calls Try.prog 50 #[.agg #[.int .i64 1, .int .i64 i, .string s, .slice p n c], .int .i64 d, .slice q m e] w fun r w' => r = .returned (.tuple #[.slice q m e, .int .i64 20]) ∧ Below w.heap.size w w' := by
  go_enter Try.func50, Try.ntmps50
  go_wp2_with fail
  go_ret2
  exact ⟨rfl, (Below.refl _ _).alloc (Nat.le_refl _) _⟩
set_option maxHeartbeats 1000000 in
theorem flat_1ni (i : Int) (s : ByteArray) (n : Nat) (p : Option Addr) (c : Nat) (q : Option Addr) (m e d : Nat) (w : World) (_hm : ¬ (12 : Int) ≤ (m : Int)) (_hi : ¬ i = 0) (_hs : s.toList = []) (_hn : 0 < n) :
    Calls Try.prog 50 #[.agg #[.int .i64 1, .int .i64 i, .string s, .slice p n c], .int .i64 d, .slice q m e] w fun r w' => r = .returned (.tuple #[.slice q m e, .int .i64 20]) ∧ Below w.heap.size w w' := by
  go_enter Try.func50, Try.ntmps50
  go_wp2_with fail
  go_ret2
  exact ⟨rfl, (Below.refl _ _).alloc (Nat.le_refl _) _⟩
set_option maxHeartbeats 1000000 in
theorem flat_2i (i : Int) (s : ByteArray) (n : Nat) (p : Option Addr) (c : Nat) (q : Option Addr) (m e d : Nat) (w : World) (_hm : ¬ (12 : Int) ≤ (m : Int)) (_hi : ¬ i = 0) :
    Calls Try.prog 50 #[.agg #[.int .i64 2, .int .i64 i, .string s, .slice p n c], .int .i64 d, .slice q m e] w fun r w' => r = .returned (.tuple #[.slice q m e, .int .i64 20]) ∧ Below w.heap.size w w' := by
  go_enter Try.func50, Try.ntmps50
  go_wp2_with fail
  go_ret2
  exact ⟨rfl, (Below.refl _ _).alloc (Nat.le_refl _) _⟩
set_option maxHeartbeats 1000000 in
theorem flat_2n0a (s : ByteArray) (n : Nat) (p : Option Addr) (c : Nat) (q : Option Addr) (m e d : Nat) (w : World) (_hm : ¬ (12 : Int) ≤ (m : Int)) (_hs : s.toList = []) (_hn : 0 < n) :
    Calls Try.prog 50 #[.agg #[.int .i64 2, .int .i64 0, .string s, .slice p n c], .int .i64 d, .slice q m e] w fun r w' => r = .returned (.tuple #[.slice q m e, .int .i64 20]) ∧ Below w.heap.size w w' := by
  go_enter Try.func50, Try.ntmps50
  go_wp2_with fail
  go_ret2
  exact ⟨rfl, (Below.refl _ _).alloc (Nat.le_refl _) _⟩
set_option maxHeartbeats 1000000 in
theorem flat_2n0b (s : ByteArray) (n : Nat) (p : Option Addr) (c : Nat) (q : Option Addr) (m e d : Nat) (w : World) (_hm : ¬ (12 : Int) ≤ (m : Int)) (_hs : ¬ s.toList = []) (_hn : 0 < n) :
    Calls Try.prog 50 #[.agg #[.int .i64 2, .int .i64 0, .string s, .slice p n c], .int .i64 d, .slice q m e] w fun r w' => r = .returned (.tuple #[.slice q m e, .int .i64 20]) ∧ Below w.heap.size w w' := by
  go_enter Try.func50, Try.ntmps50
  go_wp2_with fail
  go_ret2
  exact ⟨rfl, (Below.refl _ _).alloc (Nat.le_refl _) _⟩
set_option maxHeartbeats 1000000 in
theorem flat_3i (i : Int) (s : ByteArray) (n : Nat) (p : Option Addr) (c : Nat) (q : Option Addr) (m e d : Nat) (w : World) (_hm : ¬ (12 : Int) ≤ (m : Int)) (_hi : ¬ i = 0) :
    Calls Try.prog 50 #[.agg #[.int .i64 3, .int .i64 i, .string s, .slice p n c], .int .i64 d, .slice q m e] w fun r w' => r = .returned (.tuple #[.slice q m e, .int .i64 20]) ∧ Below w.heap.size w w' := by
  go_enter Try.func50, Try.ntmps50
  go_wp2_with fail
  go_ret2
  exact ⟨rfl, (Below.refl _ _).alloc (Nat.le_refl _) _⟩
set_option maxHeartbeats 1000000 in
theorem flat_3s0 (s : ByteArray) (n : Nat) (p : Option Addr) (c : Nat) (q : Option Addr) (m e d : Nat) (w : World) (_hm : ¬ (12 : Int) ≤ (m : Int)) (_hs : ¬ s.toList = []) :
    Calls Try.prog 50 #[.agg #[.int .i64 3, .int .i64 0, .string s, .slice p n c], .int .i64 d, .slice q m e] w fun r w' => r = .returned (.tuple #[.slice q m e, .int .i64 20]) ∧ Below w.heap.size w w' := by
  go_enter Try.func50, Try.ntmps50
  go_wp2_with fail
  go_ret2
  exact ⟨rfl, (Below.refl _ _).alloc (Nat.le_refl _) _⟩

theorem flat_kind (k i : Int) (s : ByteArray) (n : Nat) (p : Option Addr) (c : Nat) (q : Option Addr) (m e d : Nat) (w : World) (hm : ¬ 12 ≤ m) (h : fitB k i s n = false) :
    Calls Try.prog 50 #[.agg #[.int .i64 k, .int .i64 i, .string s, .slice p n c], .int .i64 d, .slice q m e] w fun r w' => r = .returned (.tuple #[.slice q m e, .int .i64 20]) ∧ Below w.heap.size w w' := by
  have hm' : ¬ (12 : Int) ≤ (m : Int) := by omega
  by_cases h0 : k < 0
  · by_cases hi : i = 0
    · subst hi
      by_cases hs : s.toList = []
      · by_cases hn : n = 0
        · subst hn; exact flat_lowz k s p c q m e d w hm' h0 (by omega) (by omega) (by omega) hs
        · exact flat_lown k s n p c q m e d w hm' h0 (by omega) (by omega) (by omega) hs (by omega)
      · exact flat_lows k s n p c q m e d w hm' h0 (by omega) (by omega) (by omega) hs
    · exact flat_lowi k i s n p c q m e d w hm' h0 (by omega) (by omega) (by omega) hi
  by_cases h3 : 3 < k
  · by_cases hi : i = 0
    · subst hi
      by_cases hs : s.toList = []
      · by_cases hn : n = 0
        · subst hn; exact flat_highz k s p c q m e d w hm' h3 (by omega) (by omega) (by omega) (by omega) hs
        · exact flat_highn k s n p c q m e d w hm' h3 (by omega) (by omega) (by omega) (by omega) hs (by omega)
      · exact flat_highs k s n p c q m e d w hm' h3 (by omega) (by omega) (by omega) (by omega) hs
    · exact flat_highi k i s n p c q m e d w hm' h3 (by omega) (by omega) (by omega) (by omega) hi
  obtain rfl | rfl | rfl | rfl : k = 0 ∨ k = 1 ∨ k = 2 ∨ k = 3 := by omega
  · by_cases hi : i = 0
    · subst hi
      by_cases hs : s.toList = []
      · have hn : 0 < n := by simp [fitB, hs] at h; omega
        exact flat_0n0 s n p c q m e d w hm' hs hn
      · exact flat_0s0 s n p c q m e d w hm' hs
    · exact flat_0i i s n p c q m e d w hm' hi
  · by_cases hs : s.toList = []
    · have hn : 0 < n := by simp [fitB, hs] at h; omega
      by_cases hi : i = 0
      · subst hi; exact flat_1n0 s n p c q m e d w hm' hs hn
      · exact flat_1ni i s n p c q m e d w hm' hi hs hn
    · by_cases hi : i = 0
      · subst hi; exact flat_1s0 s n p c q m e d w hm' hs
      · exact flat_1si i s n p c q m e d w hm' hi hs
  · by_cases hi : i = 0
    · subst hi
      have hn : 0 < n := by simp [fitB] at h; omega
      by_cases hs : s.toList = []
      · exact flat_2n0a s n p c q m e d w hm' hs hn
      · exact flat_2n0b s n p c q m e d w hm' hs hn
    · exact flat_2i i s n p c q m e d w hm' hi
  · by_cases hi : i = 0
    · subst hi
      have hs : ¬ s.toList = [] := by simpa [fitB] using h
      exact flat_3s0 s n p c q m e d w hm' hs
    · exact flat_3i i s n p c q m e d w hm' hi
end Go.Proofs.Ytpknlbibijheaab

namespace Go.Proofs.Ytpknlbibijheaab
open Go.RowKit
set_option maxRecDepth 8000

/-- what flat answers -/
def FlatPost (base : Nat) (w : World) (v : Value) (err : Nat) (l : List PT) (r : Ending) (w' : World) : Prop := ∃ v', r = .returned (.tuple #[v', .int .i64 err]) ∧ Laid w w' v v' ∧ (err = 0 → w'.ownsRow base 103 4 v' l.length (ptCells l))
theorem ptCells_append (a b : List PT) : ptCells (a ++ b) = ptCells a ++ ptCells b := by simp [ptCells]

set_option maxHeartbeats 4000000 in
theorem flat_list (s : ByteArray) (n : Nat) (p : Option Addr) (c : Nat) (f : Nat → VT) (ih : ∀ (a : Nat) (w : World) (S : Nat → Prop) (base : Nat) (v : Value) (l : List PT) (d : Nat), VT.In w S (f a) → (∀ b, S b → v.ownBlock ≠ some b) → w.ownsRow base 103 4 v l.length (ptCells l) → base ≤ w.heap.size → l.length ≤ 12 → d ≤ 3 →
      Calls Try.prog 50 #[(f a).val, .int .i64 d, v] w fun r w' => ∃ v', r = .returned (.tuple #[v', .int .i64 (chk (f a) d l.length).1]) ∧ Laid w w' v v' ∧ ((chk (f a) d l.length).1 = 0 → w'.ownsRow base 103 4 v' (l ++ flatP (f a)).length (ptCells (l ++ flatP (f a)))))
    (l : List PT) (q : Option Addr) (m e d base : Nat) (w : World) (S : Nat → Prop) (hin : VT.In w S (.mk 3 0 s n p c f)) (hS : ∀ b, S b → (Value.slice q m e).ownBlock ≠ some b) (hl : l.length = m) (hm : m < 12) (_hm : ¬ (12 : Int) ≤ (m : Int)) (_hs : s.toList = []) (hd : d < 3) (_hd : ¬ (3 : Int) ≤ (d : Int)) (_hn : 0 < n) (_hw : ¬ (6 : Int) < (n : Int)) (hz : ¬ (24 : Int) < (s.size : Int)) (hR : w.ownsRow base 103 4 (.slice q m e) m (ptCells l)) (hbase : base ≤ w.heap.size) :
    Calls Try.prog 50 #[.agg #[.int .i64 3, .int .i64 0, .string s, .slice p n c], .int .i64 d, .slice q m e] w fun r w' => ∃ v', r = .returned (.tuple #[v', .int .i64 (stepN (fun j m => chk (f j) (d + 1) m) (m + 1) n).1]) ∧ Laid w w' (.slice q m e) v' ∧ ((stepN (fun j m => chk (f j) (d + 1) m) (m + 1) n).1 = 0 → w'.ownsRow base 103 4 v' (l ++ flatP (.mk 3 0 s n p c f)).length (ptCells (l ++ flatP (.mk 3 0 s n p c f)))) := by
  obtain ⟨i0, Kd⟩ := kindP
  have HL : Hid (l.length = m) := hl
  have HN : Hid (∀ j u, [Value.int .i64 3, Value.int .i64 0, Value.string s, Value.int .i64 (n : Int)][j]? = some u → ((w.alloc (.cells #[.int .i64 3, .int .i64 0, .string s, .slice p n c] 70)).alloc (.cells #[.int .i64 3, .int .i64 0, .string s, .int .i64 (n : Int)] 103)).cell? ((⟨w.heap.size + 1, 0, none⟩ : Addr).add j) = some u) := by
    unfold Hid
    have h := news4 (w.alloc (.cells #[.int .i64 3, .int .i64 0, .string s, .slice p n c] 70)) (.int .i64 3) (.int .i64 0) (.string s) (.int .i64 (n : Int)) 103
    rw [show (w.alloc (.cells #[.int .i64 3, .int .i64 0, .string s, .slice p n c] 70)).heap.size = w.heap.size + 1 by simp] at h
    exact h
  have HI : Hid (VT.In w S (.mk 3 0 s n p c f)) := hin
  have HSS : Hid (∀ b, S b → (Value.slice q m e).ownBlock ≠ some b) := hS
  clear hl hin hS
  go_enter Try.func50, Try.ntmps50
  go_wp2_with (at_builtin; refine wpList_app rfl (.tmp 79) (.tmp 90) 88 103 i0 _ 4 40 Kd rfl base (.slice q m e) m (ptCells l) rfl ((hR.alloc _).alloc _) ⟨w.heap.size + 1, 0, none⟩ 1 1 [.int .i64 3, .int .i64 0, .string s, .int .i64 (n : Int)] rfl rfl HN.out (oneCell_pt (PT.mk 3 0 s n)) (by omega) (by omega) (by simp; omega) ?_)
  intro v' w1 ho hg hn
  have hM : More base w w1 (.slice q m e) v' (l ++ [PT.mk 3 0 s n]) :=
    More.of (((Below.refl _ _).alloc (Nat.le_refl _) _).alloc (by simp) _) (by rw [HL.out]; exact ho) hg hn
  have hne : ∀ g, v'.ownBlock = some g → g ≠ w.heap.size := by
    intro g hg2 e
    subst e
    rcases hn with h1 | h1
    · have := (hR.lt _ (h1 ▸ hg2)).2; omega
    · have := h1 _ hg2; simp at this; omega
  have hbx : Box w1 w.heap.size #[.int .i64 3, .int .i64 0, .string s, .slice p n c] 70 := by
    refine ((Box.new w _ 70).below ((Below.refl _ _).alloc (Nat.le_refl _) (.cells #[.int .i64 3, .int .i64 0, .string s, .int .i64 (n : Int)] 103))).kept (hg.block _ (by simp; omega) fun h => ?_)
    have := (hR.lt _ h.symm).2
    omega
  clear ho hg hn HN
  go_wp2_with fail
  go_loopw [2, 9] (fun v x wr => ∃ j : Nat, j ≤ n ∧ x = .int .i64 j ∧ Hid ((stepN (fun j m => chk (f j) (d + 1) m) (m + 1) j).1 = 0) ∧ Hid ((stepN (fun j m => chk (f j) (d + 1) m) (m + 1) j).2 = (l ++ [PT.mk 3 0 s n] ++ flatN f j).length) ∧ More base w wr (.slice q m e) v (l ++ [PT.mk 3 0 s n] ++ flatN f j) ∧
      Box wr w.heap.size #[.int .i64 3, .int .i64 0, .string s, .slice p n c] 70 ∧ (∀ g, v.ownBlock = some g → g ≠ w.heap.size)) (fun _ x _ => n - (intOf x).toNat)
  case atStart => exact ⟨0, Nat.zero_le _, rfl, rfl, by simp [stepN, flatN, HL.out, Hid], by simpa [flatN] using hM, hbx, hne⟩
  case round =>
    obtain ⟨j, hj, rfl, HZ, HY, hMj, hBx, hNe⟩ := hrel
    clear hM hbx hne
    have y3 := hBx.cell 3
    simp at y3
    by_cases hjn : j < n
    · have hjn' : (j : Int) < (n : Int) := by omega
      obtain ⟨bb, o, hp, hSb, hbl, hat⟩ := HI.out.at_ (show 0 < (VT.mk 3 0 s n p c f).n from by simp only [VT.n]; omega)
      simp only [VT.p_mk] at hp
      subst hp
      obtain ⟨a0, a1, a2, a3⟩ := (hat j hjn).kept (hMj.laid.but.block bb hbl (HSS.out bb hSb))
      simp only [VT.item_mk] at a0 a1 a2 a3
      have HM : Hid ((stepN (fun j m => chk (f j) (d + 1) m) (m + 1) j).2 ≤ 12) := (stepN_le (fun j m hm => chk_le (f j) (d + 1) m hm) (by omega) j).2 HZ.out
      have HS : Hid (stepN (fun j m => chk (f j) (d + 1) m) (m + 1) (j + 1) = chk (f j) (d + 1) (stepN (fun j m => chk (f j) (d + 1) m) (m + 1) j).2) := stepN_succ HZ.out
      have HT : Hid ((stepN (fun j m => chk (f j) (d + 1) m) (m + 1) (j + 1)).1 ≠ 0 → stepN (fun j m => chk (f j) (d + 1) m) (m + 1) n = stepN (fun j m => chk (f j) (d + 1) m) (m + 1) (j + 1)) := fun h => stepN_stuck (by omega) h
      have HLen : Hid ((chk (f j) (d + 1) (l ++ [PT.mk 3 0 s n] ++ flatN f j).length).1 = 0 → (chk (f j) (d + 1) (l ++ [PT.mk 3 0 s n] ++ flatN f j).length).2 = (l ++ [PT.mk 3 0 s n] ++ flatN f (j + 1)).length) := by
        intro h
        rw [chk_len _ _ _ h, flatN_succ]
        simp only [List.length_append]; omega
      rw [HY.out] at HM HS
      rw [← HS.out] at HLen
      obtain ⟨q1, HQ1⟩ : ∃ q1, Hid (stepN (fun j m => chk (f j) (d + 1) m) (m + 1) (j + 1) = q1) := ⟨_, rfl⟩
      rw [HQ1.out] at HS HT HLen
      have HC : Hid (Calls Try.prog 50 #[(f j).val, .int .i64 ((d : Int) + 1), u2] wr fun r w' => FlatPost base wr u2 q1.1 (l ++ [PT.mk 3 0 s n] ++ flatN f (j + 1)) r w') := by
        have h := ih j wr (fun b => S b ∧ b < w.heap.size) base u2 (l ++ [PT.mk 3 0 s n] ++ flatN f j) (d + 1) (((HI.out.sub hjn).mono fun b hb hl => ⟨hb, hl⟩).kept hMj.laid.but.size (fun b hb hl => hMj.laid.but.block b hb.2 (HSS.out b hb.1))) ?_ hMj.own (Nat.le_trans hbase hMj.laid.but.size) HM.out (by omega)
        · rw [← HS.out] at h
          rw [flatN_succ, ← List.append_assoc]
          exact h
        · intro b hb e2
          rcases hMj.laid.near with h1 | h1
          · exact HSS.out b hb.1 (h1 ▸ e2)
          · have := h1 b e2; omega
      unfold VT.val at HC
      obtain ⟨xk, xi, xs, xn, xp, xc, xf, hx⟩ := (HI.out.sub hjn).mk_
      simp only [VT.item_mk] at hx
      clear ih hat HS HM HY
      rw [hx] at a0 a1 a2 a3 HC
      clear hx
      simp only [VT.kind_mk, VT.int_mk, VT.text_mk, VT.p_mk, VT.n_mk, VT.c_mk] at a0 a1 a2 a3 HC
      obtain ⟨r, rm⟩ := q1
      simp only at HC HT HLen
      have HMj : Hid (More base w wr (.slice q m e) u2 (l ++ [PT.mk 3 0 s n] ++ flatN f j) ∧ Box wr w.heap.size #[.int .i64 3, .int .i64 0, .string s, .slice (some ⟨bb, o, none⟩) n c] 70) := ⟨hMj, hBx⟩
      clear hMj hBx hR
      by_cases hr : r = 0
      · subst hr
        clear HT
        go_wp2_with (go_at_call 50; refine HC.out.mono ?_)
        intro r w4 hP
        obtain ⟨v4, rfl, hL4, ho4⟩ := hP
        have HM4 : Hid (More base w w4 (.slice q m e) v4 (l ++ [PT.mk 3 0 s n] ++ flatN f (j + 1))) := ⟨HMj.out.1.laid.trans hL4, by have h := ho4 rfl; simpa only [List.append_assoc, List.singleton_append] using h⟩
        have HB4 : Hid (Box w4 w.heap.size #[.int .i64 3, .int .i64 0, .string s, .slice (some ⟨bb, o, none⟩) n c] 70) := HMj.out.2.but hL4.but (fun h => hNe _ h rfl)
        have HN4 : Hid (∀ g, v4.ownBlock = some g → g ≠ w.heap.size) := by
          intro g hg e2
          subst e2
          rcases hL4.near with h1 | h1
          · exact hNe _ (h1 ▸ hg) rfl
          · have := h1 _ hg
            have := HMj.out.2.lt
            omega
        clear HMj hL4 ho4 a0 a1 a2 a3 y3 hNe
        go_wp2
        go_roundw
        case rel => exact ⟨j + 1, by omega, by go_num, by rw [HQ1.out]; rfl, by rw [HQ1.out]; unfold Hid; have h := HLen.out; simpa [List.append_assoc] using h, HM4.out, HB4.out, HN4.out⟩
        case measure => simp [intOf]; omega
      · have hr' : ¬ ((r : Int) = 0) := by omega
        have HT2 : Hid (stepN (fun j m => chk (f j) (d + 1) m) (m + 1) n = (r, rm)) := HT.out (by simpa using hr)
        clear HT
        go_wp2_with (go_at_call 50; refine HC.out.mono ?_)
        intro x w4 hP
        obtain ⟨v4, rfl, hL4, ho4⟩ := hP
        clear ho4
        go_wp2
        go_ret2
        refine ⟨v4, ?_, HMj.out.1.laid.trans hL4, fun h => ?_⟩
        · rw [HT2.out]; rfl
        · rw [HT2.out] at h; exact absurd h hr
    · obtain rfl : j = n := by omega
      clear ih HI hR
      go_wp2
      go_ret2
      refine ⟨u2, by rw [HZ.out]; rfl, hMj.laid, fun _ => ?_⟩
      have h := hMj.own
      rw [flatP_eq]
      rw [List.append_assoc] at h
      exact h

set_option maxHeartbeats 1000000 in
theorem flat_any (t : VT) : ∀ (w : World) (S : Nat → Prop) (base : Nat) (v : Value) (l : List PT) (d : Nat), VT.In w S t → (∀ b, S b → v.ownBlock ≠ some b) → w.ownsRow base 103 4 v l.length (ptCells l) → base ≤ w.heap.size → l.length ≤ 12 → d ≤ 3 →
      Calls Try.prog 50 #[t.val, .int .i64 d, v] w fun r w' => ∃ v', r = .returned (.tuple #[v', .int .i64 (chk t d l.length).1]) ∧ Laid w w' v v' ∧ ((chk t d l.length).1 = 0 → w'.ownsRow base 103 4 v' (l ++ flatP t).length (ptCells (l ++ flatP t))) := by
  induction t with
  | nil => intro w S base v l d hin; exact hin.elim
  | mk k i s n p c f ih =>
    intro w S base v l d hin hS hR hbase hm hd
    obtain ⟨q, e, rfl⟩ := ownsRow_slice hR
    have bad : ∀ x : Nat, x ≠ 0 → (∀ y, chk (.mk k i s n p c f) d l.length = y → y.1 = x) → Calls Try.prog 50 #[(VT.mk k i s n p c f).val, .int .i64 d, .slice q l.length e] w (fun r w' => r = .returned (.tuple #[.slice q l.length e, .int .i64 (x : Int)]) ∧ Below w.heap.size w w') →
        Calls Try.prog 50 #[(VT.mk k i s n p c f).val, .int .i64 d, .slice q l.length e] w fun r w' => ∃ v', r = .returned (.tuple #[v', .int .i64 (chk (.mk k i s n p c f) d l.length).1]) ∧ Laid w w' (.slice q l.length e) v' ∧ ((chk (.mk k i s n p c f) d l.length).1 = 0 → w'.ownsRow base 103 4 v' (l ++ flatP (.mk k i s n p c f)).length (ptCells (l ++ flatP (.mk k i s n p c f)))) := by
      intro x hx hy h
      refine h.mono fun r w' hr => ?_
      obtain ⟨rfl, hb⟩ := hr
      rw [hy _ rfl]
      exact ⟨_, rfl, ⟨.inl rfl, But.ofBelow hb⟩, fun h => absurd h hx⟩
    by_cases h1 : 12 ≤ l.length
    · exact bad 22 (by decide) (fun y h => by rw [← h, chk_many h1]) (flat_many k i s n p c q l.length e d w h1)
    have h1' : ¬ (12 : Int) ≤ (l.length : Int) := by omega
    by_cases h2 : fitB k i s n = false
    · exact bad 20 (by decide) (fun y h => by rw [← h, chk_kind h1 h2]) (flat_kind k i s n p c q l.length e d w h1 h2)
    have good : ∀ {k i : Int} {s : ByteArray} {p : Option Addr} {c : Nat} {f : Nat → VT}, (chk (.mk k i s 0 p c f) d l.length) = (0, l.length + 1) → Calls Try.prog 50 #[(VT.mk k i s 0 p c f).val, .int .i64 d, .slice q l.length e] w (fun r w' => ∃ v', r = .returned (.tuple #[v', .int .i64 0]) ∧ More base w w' (.slice q l.length e) v' (l ++ [⟨k, i, s, 0⟩])) →
        Calls Try.prog 50 #[(VT.mk k i s 0 p c f).val, .int .i64 d, .slice q l.length e] w fun r w' => ∃ v', r = .returned (.tuple #[v', .int .i64 (chk (.mk k i s 0 p c f) d l.length).1]) ∧ Laid w w' (.slice q l.length e) v' ∧ ((chk (.mk k i s 0 p c f) d l.length).1 = 0 → w'.ownsRow base 103 4 v' (l ++ flatP (.mk k i s 0 p c f)).length (ptCells (l ++ flatP (.mk k i s 0 p c f)))) := by
      intro k i s p c f he h
      rw [he]
      refine h.mono fun r w' hr => ?_
      obtain ⟨v', rfl, hM⟩ := hr
      exact ⟨v', rfl, hM.laid, fun _ => hM.own⟩
    have hsz : ∀ {s : ByteArray}, s.toList = [] → ¬ 24 < s.size := by
      intro s h
      rw [ByteArray.toList_eq] at h
      have h2 : s.data.size = 0 := by rw [← Array.length_toList, h]; rfl
      have h3 : s.size = 0 := h2
      omega
    have hszi : ∀ {s : ByteArray}, ¬ 24 < s.size → ¬ (24 : Int) < (s.size : Int) := by intro s h; omega
    have hshp := shp_of (show fitB k i s n = true by simpa using h2)
    cases hshp with
    | none s hs => exact good (chk_step h1 h2 (by omega) (hsz hs) (by omega)) (flat_none s p c l q l.length e d base w rfl (by omega) h1' hs (hszi (hsz hs)) hR hbase)
    | zero s hs => exact good (chk_step h1 h2 (by omega) (hsz hs) (by omega)) (flat_zero s p c l q l.length e d base w rfl (by omega) h1' hs (hszi (hsz hs)) hR hbase)
    | int i s hi hs => exact good (chk_step h1 h2 (by omega) (hsz hs) (by omega)) (flat_int i s p c l q l.length e d base w rfl (by omega) h1' hi hs (hszi (hsz hs)) hR hbase)
    | empty s hs => exact good (chk_step h1 h2 (by omega) (hsz hs) (by omega)) (flat_empty s p c l q l.length e d base w rfl (by omega) h1' hs (hszi (hsz hs)) hR hbase)
    | text s hs =>
      by_cases h4 : 24 < s.size
      · exact bad 21 (by decide) (fun y h => by rw [← h, chk_text h1 h2 (by omega) h4]) (flat_long s p c q l.length e d w h1' hs (by omega))
      · exact good (chk_step h1 h2 (by omega) h4 (by omega)) (flat_text s p c l q l.length e d base w rfl (by omega) h1' hs (hszi h4) hR hbase)
    | bare s hs =>
      by_cases h3 : 3 ≤ d
      · exact bad 23 (by decide) (fun y h => by rw [← h, chk_deep h1 h2 ⟨rfl, h3⟩]) (flat_deep0 s p c q l.length e d w h1' hs (by omega))
      · exact good (chk_step h1 h2 (by omega) (hsz hs) (by omega)) (flat_bare s p c l q l.length e d base w rfl (by omega) h1' hs (by omega) (hszi (hsz hs)) hR hbase)
    | list s n hs hn =>
      by_cases h3 : 3 ≤ d
      · exact bad 23 (by decide) (fun y h => by rw [← h, chk_deep h1 h2 ⟨rfl, h3⟩]) (flat_deep s n p c q l.length e d w h1' hs (by omega) hn)
      by_cases h5 : 6 < n
      · exact bad 22 (by decide) (fun y h => by rw [← h, chk_items h1 h2 (by omega) (hsz hs) h5]) (flat_wide s n p c q l.length e d w h1' hs (hszi (hsz hs)) (by omega) hn (by omega))
      rw [chk_step h1 h2 (by omega) (hsz hs) h5]
      exact flat_list s n p c f ih l q l.length e d base w S hin hS rfl (by omega) h1' hs (by omega) (by omega) hn (by omega) (hszi (hsz hs)) hR hbase
end Go.Proofs.Ytpknlbibijheaab

namespace Go.Proofs.Ytpknlbibijheaab
open Go.RowKit
set_option maxRecDepth 8000

theorem noBlock : (Value.slice none 0 0).ownBlock = none := rfl
theorem Laid.nil {w w' : World} {v' : Value} (h : Laid w w' (.slice none 0 0) v') : Below w.heap.size w w' := h.but.below (Nat.le_refl _) (fun k _ e => by cases e)

set_option maxHeartbeats 1000000 in
theorem refCheck_any (t : VT) (w : World) (S : Nat → Prop) (hin : VT.In w S t) :
    Calls Try.prog 41 #[t.val] w fun e w' => e = .returned (.int .i64 (chk t 0 0).1) ∧ Below w.heap.size w w' := by
  have HC : Hid (∀ W, Below w.heap.size w W → Calls Try.prog 50 #[t.val, .int .i64 ((0 : Nat) : Int), .slice none 0 0] W fun r w' => FlatPost 0 W (.slice none 0 0) (chk t 0 0).1 (flatP t) r w') :=
    fun W hW => flat_any t W S 0 (.slice none 0 0) [] 0 (hin.below hW) (fun b _ h => by cases h) (World.ownsRow_nil _ _ _ _) (Nat.zero_le _) (by simp) (by omega)
  obtain ⟨k, i, s, n, p, c, f, rfl⟩ := hin.mk_
  clear hin
  generalize chk (.mk k i s n p c f) 0 0 = r at *
  generalize flatP (.mk k i s n p c f) = L at *
  simp only [VT.val, VT.kind_mk, VT.int_mk, VT.text_mk, VT.p_mk, VT.n_mk, VT.c_mk] at HC ⊢
  go_enter Try.func41, Try.ntmps41
  go_wp2_with fail
  refine (HC.out _ ?_).mono ?_
  · exact (Below.refl _ _).alloc (Nat.le_refl _) _
  · intro e w1 hP
    obtain ⟨v', rfl, hL, _⟩ := hP
    have hb1 : Below w.heap.size w w1 := ((Below.refl w.heap.size w).alloc (Nat.le_refl _) _).trans (hL.nil.mono (by simp))
    clear hL HC
    go_wp2
    go_ret
    exact ⟨rfl, hb1⟩
end Go.Proofs.Ytpknlbibijheaab
