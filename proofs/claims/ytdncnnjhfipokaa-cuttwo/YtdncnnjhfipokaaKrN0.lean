import Derived.Test.YtdncnnjhfipokaaPack25
namespace Go.Proofs.Ytdncnnjhfipokaa
open Go.RowKit
set_option maxRecDepth 8000
def newE (mode : Int) : Int := if 1 ≤ mode ∧ mode ≤ 3 then 131 else 130
def NewX (arr : Array Value) (ty : TypeId) (mode ports back : Int) (w : World) (e : Ending) (w' : World) : Prop :=
    (legalB mode ports back = true → e = .returned (.tuple #[.pointer (some ⟨w.heap.size, 0, none⟩), .int .i64 0]) ∧ w' = w.alloc (.cells arr ty)) ∧
    (legalB mode ports back = false → w' = w ∧ e = .returned (.tuple #[.pointer none, .int .i64 (newE mode)]))
def Rb.fresh (mode ports back : Int) : Rb := ⟨mode, ports, back, 0, nilL (fun _ => ⟨0, 0, rt0, nilL (fun _ => rt0), 0, nilL (fun _ => .nil), nilL (fun _ => rt0)⟩), false⟩
set_option maxHeartbeats 4000000 in
theorem new_ex (mode ports back : Int) (w : World) : Calls Try.prog 10 #[.int .i64 mode, .int .i64 ports, .int .i64 back] w fun e w' => NewX (Bk.fresh mode ports back).arr 78 mode ports back w e w' := by
  by_cases m1 : 1 ≤ mode
  rotate_left
  · have hd : Hid (legalB mode ports back = false) := decide_eq_false (by omega)
    go_enter Try.func10, Try.ntmps10
    go_wp2
    refine bodyPost_ret (v := .tuple #[.pointer none, .int .i64 130]) (by simp [results, Try.results10, go_sem]) rfl ⟨fun h => (by rw [hd.out] at h; cases h), fun _ => ⟨rfl, by rw [show newE mode = 130 from if_neg (by omega)]⟩⟩
  by_cases m2 : mode ≤ 3
  rotate_left
  · have hd : Hid (legalB mode ports back = false) := decide_eq_false (by omega)
    go_enter Try.func10, Try.ntmps10
    go_wp2
    refine bodyPost_ret (v := .tuple #[.pointer none, .int .i64 130]) (by simp [results, Try.results10, go_sem]) rfl ⟨fun h => (by rw [hd.out] at h; cases h), fun _ => ⟨rfl, by rw [show newE mode = 130 from if_neg (by omega)]⟩⟩
  by_cases p1 : 1 ≤ ports
  rotate_left
  · have hd : Hid (legalB mode ports back = false) := decide_eq_false (by omega)
    go_enter Try.func10, Try.ntmps10
    go_wp2
    refine bodyPost_ret (v := .tuple #[.pointer none, .int .i64 131]) (by simp [results, Try.results10, go_sem]) rfl ⟨fun h => (by rw [hd.out] at h; cases h), fun _ => ⟨rfl, by rw [show newE mode = 131 from if_pos (by omega)]⟩⟩
  by_cases p2 : ports ≤ 4
  rotate_left
  · have hd : Hid (legalB mode ports back = false) := decide_eq_false (by omega)
    go_enter Try.func10, Try.ntmps10
    go_wp2
    refine bodyPost_ret (v := .tuple #[.pointer none, .int .i64 131]) (by simp [results, Try.results10, go_sem]) rfl ⟨fun h => (by rw [hd.out] at h; cases h), fun _ => ⟨rfl, by rw [show newE mode = 131 from if_pos (by omega)]⟩⟩
  by_cases b1 : -1 ≤ back
  rotate_left
  · have hd : Hid (legalB mode ports back = false) := decide_eq_false (by omega)
    go_enter Try.func10, Try.ntmps10
    go_wp2
    refine bodyPost_ret (v := .tuple #[.pointer none, .int .i64 131]) (by simp [results, Try.results10, go_sem]) rfl ⟨fun h => (by rw [hd.out] at h; cases h), fun _ => ⟨rfl, by rw [show newE mode = 131 from if_pos (by omega)]⟩⟩
  by_cases b2 : back < ports
  rotate_left
  · have hd : Hid (legalB mode ports back = false) := decide_eq_false (by omega)
    go_enter Try.func10, Try.ntmps10
    go_wp2
    refine bodyPost_ret (v := .tuple #[.pointer none, .int .i64 131]) (by simp [results, Try.results10, go_sem]) rfl ⟨fun h => (by rw [hd.out] at h; cases h), fun _ => ⟨rfl, by rw [show newE mode = 131 from if_pos (by omega)]⟩⟩
  by_cases c1 : 1 < ports
  · have hd : Hid (legalB mode ports back = true) := decide_eq_true (by omega)
    have hp0 : (ports == 1) = false := by simp; omega
    by_cases c3 : back = 0
    · subst c3
      have hd : Hid (legalB mode ports 0 = true) := hd
      go_enter Try.func10, Try.ntmps10
      go_wp2
      exact bodyPost_ret (v := .tuple #[.pointer (some ⟨w.heap.size, 0, none⟩), .int .i64 0]) (by simp [results, Try.results10, go_sem]) rfl ⟨fun _ => ⟨rfl, rfl⟩, fun h => by rw [hd.out] at h; cases h⟩
    · have hb0 : (back == 0) = false := by simp [c3]
      go_enter Try.func10, Try.ntmps10
      go_wp2
      exact bodyPost_ret (v := .tuple #[.pointer (some ⟨w.heap.size, 0, none⟩), .int .i64 0]) (by simp [results, Try.results10, go_sem]) rfl ⟨fun _ => ⟨rfl, rfl⟩, fun h => by rw [hd.out] at h; cases h⟩
  by_cases c2 : back = 0
  · subst c2
    have hd : Hid (legalB mode ports 0 = false) := decide_eq_false (by omega)
    have hb0 : ((0 : Int) == 0) = true := by rfl
    have hp0 : (ports == 1) = true := by simp; omega
    go_enter Try.func10, Try.ntmps10
    go_wp2
    refine bodyPost_ret (v := .tuple #[.pointer none, .int .i64 131]) (by simp [results, Try.results10, go_sem]) rfl ⟨fun h => (by rw [hd.out] at h; cases h), fun _ => ⟨rfl, by rw [show newE mode = 131 from if_pos (by omega)]⟩⟩
  · have hd : Hid (legalB mode ports back = true) := decide_eq_true (by omega)
    have hb0 : (back == 0) = false := by simp [c2]
    go_enter Try.func10, Try.ntmps10
    go_wp2
    exact bodyPost_ret (v := .tuple #[.pointer (some ⟨w.heap.size, 0, none⟩), .int .i64 0]) (by simp [results, Try.results10, go_sem]) rfl ⟨fun _ => ⟨rfl, rfl⟩, fun h => by rw [hd.out] at h; cases h⟩
set_option maxHeartbeats 4000000 in
theorem rnew_any (mode ports back : Int) (w : World) : Calls Try.prog 45 #[.int .i64 mode, .int .i64 ports, .int .i64 back] w fun e w' => NewX (Rb.fresh mode ports back).arr 101 mode ports back w e w' := by
  by_cases m1 : 1 ≤ mode
  rotate_left
  · have hd : Hid (legalB mode ports back = false) := decide_eq_false (by omega)
    go_enter Try.func45, Try.ntmps45
    go_wp2
    refine bodyPost_ret (v := .tuple #[.pointer none, .int .i64 130]) (by simp [results, Try.results45, go_sem]) rfl ⟨fun h => (by rw [hd.out] at h; cases h), fun _ => ⟨rfl, by rw [show newE mode = 130 from if_neg (by omega)]⟩⟩
  by_cases m2 : mode ≤ 3
  rotate_left
  · have hd : Hid (legalB mode ports back = false) := decide_eq_false (by omega)
    go_enter Try.func45, Try.ntmps45
    go_wp2
    refine bodyPost_ret (v := .tuple #[.pointer none, .int .i64 130]) (by simp [results, Try.results45, go_sem]) rfl ⟨fun h => (by rw [hd.out] at h; cases h), fun _ => ⟨rfl, by rw [show newE mode = 130 from if_neg (by omega)]⟩⟩
  by_cases p1 : 1 ≤ ports
  rotate_left
  · have hd : Hid (legalB mode ports back = false) := decide_eq_false (by omega)
    go_enter Try.func45, Try.ntmps45
    go_wp2
    refine bodyPost_ret (v := .tuple #[.pointer none, .int .i64 131]) (by simp [results, Try.results45, go_sem]) rfl ⟨fun h => (by rw [hd.out] at h; cases h), fun _ => ⟨rfl, by rw [show newE mode = 131 from if_pos (by omega)]⟩⟩
  by_cases p2 : ports ≤ 4
  rotate_left
  · have hd : Hid (legalB mode ports back = false) := decide_eq_false (by omega)
    go_enter Try.func45, Try.ntmps45
    go_wp2
    refine bodyPost_ret (v := .tuple #[.pointer none, .int .i64 131]) (by simp [results, Try.results45, go_sem]) rfl ⟨fun h => (by rw [hd.out] at h; cases h), fun _ => ⟨rfl, by rw [show newE mode = 131 from if_pos (by omega)]⟩⟩
  by_cases b1 : -1 ≤ back
  rotate_left
  · have hd : Hid (legalB mode ports back = false) := decide_eq_false (by omega)
    go_enter Try.func45, Try.ntmps45
    go_wp2
    refine bodyPost_ret (v := .tuple #[.pointer none, .int .i64 131]) (by simp [results, Try.results45, go_sem]) rfl ⟨fun h => (by rw [hd.out] at h; cases h), fun _ => ⟨rfl, by rw [show newE mode = 131 from if_pos (by omega)]⟩⟩
  by_cases b2 : back < ports
  rotate_left
  · have hd : Hid (legalB mode ports back = false) := decide_eq_false (by omega)
    go_enter Try.func45, Try.ntmps45
    go_wp2
    refine bodyPost_ret (v := .tuple #[.pointer none, .int .i64 131]) (by simp [results, Try.results45, go_sem]) rfl ⟨fun h => (by rw [hd.out] at h; cases h), fun _ => ⟨rfl, by rw [show newE mode = 131 from if_pos (by omega)]⟩⟩
  by_cases c1 : 1 < ports
  · have hd : Hid (legalB mode ports back = true) := decide_eq_true (by omega)
    have hp0 : (ports == 1) = false := by simp; omega
    by_cases c3 : back = 0
    · subst c3
      have hd : Hid (legalB mode ports 0 = true) := hd
      go_enter Try.func45, Try.ntmps45
      go_wp2
      exact bodyPost_ret (v := .tuple #[.pointer (some ⟨w.heap.size, 0, none⟩), .int .i64 0]) (by simp [results, Try.results45, go_sem]) rfl ⟨fun _ => ⟨rfl, rfl⟩, fun h => by rw [hd.out] at h; cases h⟩
    · have hb0 : (back == 0) = false := by simp [c3]
      go_enter Try.func45, Try.ntmps45
      go_wp2
      exact bodyPost_ret (v := .tuple #[.pointer (some ⟨w.heap.size, 0, none⟩), .int .i64 0]) (by simp [results, Try.results45, go_sem]) rfl ⟨fun _ => ⟨rfl, rfl⟩, fun h => by rw [hd.out] at h; cases h⟩
  by_cases c2 : back = 0
  · subst c2
    have hd : Hid (legalB mode ports 0 = false) := decide_eq_false (by omega)
    have hb0 : ((0 : Int) == 0) = true := by rfl
    have hp0 : (ports == 1) = true := by simp; omega
    go_enter Try.func45, Try.ntmps45
    go_wp2
    refine bodyPost_ret (v := .tuple #[.pointer none, .int .i64 131]) (by simp [results, Try.results45, go_sem]) rfl ⟨fun h => (by rw [hd.out] at h; cases h), fun _ => ⟨rfl, by rw [show newE mode = 131 from if_pos (by omega)]⟩⟩
  · obtain rfl : ports = 1 := by omega
    have hd : Hid (legalB mode 1 back = true) := decide_eq_true (by omega)
    have hb0 : (back == 0) = false := by simp [c2]
    go_enter Try.func45, Try.ntmps45
    go_wp2
    exact bodyPost_ret (v := .tuple #[.pointer (some ⟨w.heap.size, 0, none⟩), .int .i64 0]) (by simp [results, Try.results45, go_sem]) rfl ⟨fun _ => ⟨rfl, rfl⟩, fun h => by rw [hd.out] at h; cases h⟩
end Go.Proofs.Ytdncnnjhfipokaa
