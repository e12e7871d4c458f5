import Derived.Test.YtnbcidlmckmaaaaKcA
namespace Go.Proofs.Ytnbcidlmckmaaaa
open Go.RowKit
set_option maxRecDepth 8000
def legalB (mode ports back : Int) : Bool := decide (1 ≤ mode ∧ mode ≤ 3 ∧ 1 ≤ ports ∧ ports ≤ 4 ∧ -1 ≤ back ∧ back < ports ∧ (1 < ports ∨ back ≠ 0))
def LegP (mode ports back : Int) (w : World) (e : Ending) (w' : World) : Prop := e = .returned (.bool (legalB mode ports back)) ∧ w' = w
set_option maxHeartbeats 4000000 in
theorem legal_any (mode ports back : Int) (w : World) : Calls Try.prog 9 #[.int .i64 mode, .int .i64 ports, .int .i64 back] w fun e w' => LegP mode ports back w e w' := by
  by_cases m1 : 1 ≤ mode
  rotate_left
  · have hd : Hid (legalB mode ports back = false) := decide_eq_false (by omega)
    skip
    go_enter Try.func9, Try.ntmps9
    go_wp2
    refine bodyPost_ret (v := .bool false) (by simp [results, Try.results9, go_sem]; try omega) rfl ⟨by rw [hd.out], rfl⟩
  by_cases m2 : mode ≤ 3
  rotate_left
  · have hd : Hid (legalB mode ports back = false) := decide_eq_false (by omega)
    skip
    go_enter Try.func9, Try.ntmps9
    go_wp2
    refine bodyPost_ret (v := .bool false) (by simp [results, Try.results9, go_sem]; try omega) rfl ⟨by rw [hd.out], rfl⟩
  by_cases p1 : 1 ≤ ports
  rotate_left
  · have hd : Hid (legalB mode ports back = false) := decide_eq_false (by omega)
    skip
    go_enter Try.func9, Try.ntmps9
    go_wp2
    refine bodyPost_ret (v := .bool false) (by simp [results, Try.results9, go_sem]; try omega) rfl ⟨by rw [hd.out], rfl⟩
  by_cases p2 : ports ≤ 4
  rotate_left
  · have hd : Hid (legalB mode ports back = false) := decide_eq_false (by omega)
    skip
    go_enter Try.func9, Try.ntmps9
    go_wp2
    refine bodyPost_ret (v := .bool false) (by simp [results, Try.results9, go_sem]; try omega) rfl ⟨by rw [hd.out], rfl⟩
  by_cases b1 : -1 ≤ back
  rotate_left
  · have hd : Hid (legalB mode ports back = false) := decide_eq_false (by omega)
    skip
    go_enter Try.func9, Try.ntmps9
    go_wp2
    refine bodyPost_ret (v := .bool false) (by simp [results, Try.results9, go_sem]; try omega) rfl ⟨by rw [hd.out], rfl⟩
  by_cases b2 : back < ports
  rotate_left
  · have hd : Hid (legalB mode ports back = false) := decide_eq_false (by omega)
    skip
    go_enter Try.func9, Try.ntmps9
    go_wp2
    refine bodyPost_ret (v := .bool false) (by simp [results, Try.results9, go_sem]; try omega) rfl ⟨by rw [hd.out], rfl⟩
  by_cases c1 : 1 < ports
  · have hd : Hid (legalB mode ports back = true) := decide_eq_true (by omega)
    skip
    go_enter Try.func9, Try.ntmps9
    go_wp2
    refine bodyPost_ret (v := .bool true) (by simp [results, Try.results9, go_sem]; try omega) rfl ⟨by rw [hd.out], rfl⟩
  by_cases c2 : back = 0
  · subst c2
    have hd : Hid (legalB mode ports 0 = false) := decide_eq_false (by omega)
    have hb0 : ((0 : Int) == 0) = true := by rfl
    go_enter Try.func9, Try.ntmps9
    go_wp2
    refine bodyPost_ret (v := .bool false) (by simp [results, Try.results9, go_sem]; try omega) rfl ⟨by rw [hd.out], rfl⟩
  · have hd : Hid (legalB mode ports back = true) := decide_eq_true (by omega)
    have hb0 : (back != 0) = true := by simp [c2]
    go_enter Try.func9, Try.ntmps9
    go_wp2
    refine bodyPost_ret (v := .bool true) (by simp [results, Try.results9, go_sem]; try omega) rfl ⟨by rw [hd.out], rfl⟩
def rt0 : RT := ⟨⟨#[]⟩, .nil, none, 0, 0, fun _ => 0⟩
def Bk.fresh (mode ports back : Int) : Bk := ⟨mode, ports, back, 0, fun _ => 0, false, 0, nilL (fun _ => .nil), nilL (fun _ => rt0), fun _ => nilL (fun _ => rt0)⟩
theorem new_inv (mode ports back : Int) (w : World) (h : legalB mode ports back = true) : BkI (w.alloc (.cells (Bk.fresh mode ports back).arr 78)) w.heap.size (Bk.fresh mode ports back) := by
  have h := of_decide_eq_true h
  refine ⟨Box.new _ _ _, fun i _ => World.ownsRow_nil _ _ _ _, fun i _ e => (by cases e), fun i j _ _ _ k hk => (by cases hk), h.1, h.2.1, h.2.2.1, h.2.2.2.1, h.2.2.2.2.1, h.2.2.2.2.2.1, Int.le_refl _, (by show (0 : Int) ≤ 9999; omega), fun _ _ => .inl rfl⟩
def NewP (mode ports back : Int) (w : World) (e : Ending) (w' : World) : Prop :=
    (legalB mode ports back = true → e = .returned (.tuple #[.pointer (some ⟨w.heap.size, 0, none⟩), .int .i64 0]) ∧ w' = w.alloc (.cells (Bk.fresh mode ports back).arr 78)) ∧
    (legalB mode ports back = false → w' = w ∧ ∃ k : Int, (k = 130 ∨ k = 131) ∧ e = .returned (.tuple #[.pointer none, .int .i64 k]))
set_option maxHeartbeats 4000000 in
theorem new_any (mode ports back : Int) (w : World) : Calls Try.prog 10 #[.int .i64 mode, .int .i64 ports, .int .i64 back] w fun e w' => NewP mode ports back w e w' := by
  by_cases m1 : 1 ≤ mode
  rotate_left
  · have hd : Hid (legalB mode ports back = false) := decide_eq_false (by omega)
    go_enter Try.func10, Try.ntmps10
    go_wp2
    refine bodyPost_ret (v := .tuple #[.pointer none, .int .i64 130]) (by simp [results, Try.results10, go_sem]) rfl ⟨fun h => (by rw [hd.out] at h; cases h), fun _ => ⟨rfl, 130, .inl rfl, rfl⟩⟩
  by_cases m2 : mode ≤ 3
  rotate_left
  · have hd : Hid (legalB mode ports back = false) := decide_eq_false (by omega)
    go_enter Try.func10, Try.ntmps10
    go_wp2
    refine bodyPost_ret (v := .tuple #[.pointer none, .int .i64 130]) (by simp [results, Try.results10, go_sem]) rfl ⟨fun h => (by rw [hd.out] at h; cases h), fun _ => ⟨rfl, 130, .inl rfl, rfl⟩⟩
  by_cases p1 : 1 ≤ ports
  rotate_left
  · have hd : Hid (legalB mode ports back = false) := decide_eq_false (by omega)
    go_enter Try.func10, Try.ntmps10
    go_wp2
    refine bodyPost_ret (v := .tuple #[.pointer none, .int .i64 131]) (by simp [results, Try.results10, go_sem]) rfl ⟨fun h => (by rw [hd.out] at h; cases h), fun _ => ⟨rfl, 131, .inr rfl, rfl⟩⟩
  by_cases p2 : ports ≤ 4
  rotate_left
  · have hd : Hid (legalB mode ports back = false) := decide_eq_false (by omega)
    go_enter Try.func10, Try.ntmps10
    go_wp2
    refine bodyPost_ret (v := .tuple #[.pointer none, .int .i64 131]) (by simp [results, Try.results10, go_sem]) rfl ⟨fun h => (by rw [hd.out] at h; cases h), fun _ => ⟨rfl, 131, .inr rfl, rfl⟩⟩
  by_cases b1 : -1 ≤ back
  rotate_left
  · have hd : Hid (legalB mode ports back = false) := decide_eq_false (by omega)
    go_enter Try.func10, Try.ntmps10
    go_wp2
    refine bodyPost_ret (v := .tuple #[.pointer none, .int .i64 131]) (by simp [results, Try.results10, go_sem]) rfl ⟨fun h => (by rw [hd.out] at h; cases h), fun _ => ⟨rfl, 131, .inr rfl, rfl⟩⟩
  by_cases b2 : back < ports
  rotate_left
  · have hd : Hid (legalB mode ports back = false) := decide_eq_false (by omega)
    go_enter Try.func10, Try.ntmps10
    go_wp2
    refine bodyPost_ret (v := .tuple #[.pointer none, .int .i64 131]) (by simp [results, Try.results10, go_sem]) rfl ⟨fun h => (by rw [hd.out] at h; cases h), fun _ => ⟨rfl, 131, .inr rfl, rfl⟩⟩
  by_cases c1 : 1 < ports
  · have hd : Hid (legalB mode ports back = true) := decide_eq_true (by omega)
    have hp0 : (ports == 1) = false := by simp; omega
    by_cases c3 : back = 0
    · subst c3
      have hd : Hid (legalB mode ports 0 = true) := hd
      go_enter Try.func10, Try.ntmps10
      go_wp2
      exact bodyPost_ret (v := .tuple #[.pointer (some ⟨w.heap.size, 0, none⟩), .int .i64 0]) (by simp [results, Try.results10, go_sem]) rfl ⟨fun _ => ⟨rfl, rfl⟩, fun h => by rw [hd.out] at h; cases h⟩
    · have hb0 : (back == 0) = false := by simp [c3]
      go_enter Try.func10, Try.ntmps10
      go_wp2
      exact bodyPost_ret (v := .tuple #[.pointer (some ⟨w.heap.size, 0, none⟩), .int .i64 0]) (by simp [results, Try.results10, go_sem]) rfl ⟨fun _ => ⟨rfl, rfl⟩, fun h => by rw [hd.out] at h; cases h⟩
  by_cases c2 : back = 0
  · subst c2
    have hd : Hid (legalB mode ports 0 = false) := decide_eq_false (by omega)
    have hb0 : ((0 : Int) == 0) = true := by rfl
    have hp0 : (ports == 1) = true := by simp; omega
    go_enter Try.func10, Try.ntmps10
    go_wp2
    refine bodyPost_ret (v := .tuple #[.pointer none, .int .i64 131]) (by simp [results, Try.results10, go_sem]) rfl ⟨fun h => (by rw [hd.out] at h; cases h), fun _ => ⟨rfl, 131, .inr rfl, rfl⟩⟩
  · have hd : Hid (legalB mode ports back = true) := decide_eq_true (by omega)
    have hb0 : (back == 0) = false := by simp [c2]
    go_enter Try.func10, Try.ntmps10
    go_wp2
    exact bodyPost_ret (v := .tuple #[.pointer (some ⟨w.heap.size, 0, none⟩), .int .i64 0]) (by simp [results, Try.results10, go_sem]) rfl ⟨fun _ => ⟨rfl, rfl⟩, fun h => by rw [hd.out] at h; cases h⟩
set_option maxHeartbeats 1000000 in
theorem num_any (k : Int) (w : World) : Calls Try.prog 11 #[.int .i64 k] w fun e w' => e = .returned (.int .i64 k) ∧ w' = w := by
  go_enter Try.func11, Try.ntmps11
  go_wp2
  exact bodyPost_ret (v := .int .i64 k) (by simp [results, Try.results11, go_sem]) rfl ⟨rfl, rfl⟩
end Go.Proofs.Ytnbcidlmckmaaaa
