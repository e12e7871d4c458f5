import Derived.Test.YtehmifdgfgngdacDoorHeadAny
namespace Go.Proofs.YtehmifdgfgngdacDoor
open Go.RowKit
set_option maxRecDepth 8000

theorem inside_bytes {w : World} {b o m : Nat} {zs : List Int} (h : Bytes w (some ⟨b, o, none⟩) zs) (hl : 4 + m ≤ zs.length) : Bytes w (some ⟨b, o + 4, none⟩) ((zs.drop 4).take m) := by
  refine ⟨fun hp => ?_, fun z hz => h.byte z (List.mem_of_mem_drop (List.mem_of_mem_take hz))⟩
  obtain ⟨_, _, hbo, hlt, hc⟩ := h.at_ (by omega)
  cases hbo
  refine ⟨b, o + 4, rfl, hlt, fun i hi => ?_⟩
  have him : i < m := by simp at hi; omega
  rw [show o + 4 + i = o + (4 + i) by omega, hc (4 + i) (by omega)]
  simp [List.getD_eq_getElem?_getD, him, List.getElem?_drop]

theorem tail_eq (zs : List Int) (m : Nat) (h : m + 8 ≤ zs.length) : (zs.drop (4 + m)).take 4 = [zs.getD (4 + m) 0, zs.getD (4 + m + 1) 0, zs.getD (4 + m + 2) 0, zs.getD (4 + m + 3) 0] := by
  rw [take4 _ (by simp; omega)]
  simp [List.getD_eq_getElem?_getD, List.getElem?_drop]

set_option maxHeartbeats 400000 in
theorem unwrap_short (p : Option Addr) (n c : Nat) (w : World) (hn : n < 4) :
    Calls Tryd.prog 26 #[.slice p n c] w fun e w' => e = .returned (.tuple #[.slice none 0 0, .int .i64 0, .int .i64 11]) ∧ Below w.heap.size w w' := by
  go_enter Tryd.func26, Tryd.ntmps26
  go_wp2_with (go_at_call 56; refine (readHead_cut p n c _ hn).mono ?_; rintro e w' ⟨rfl, rfl⟩)
  go_ret3
  exact ⟨rfl, Below.refl _ _⟩

set_option maxHeartbeats 400000 in
theorem unwrap_bad (p : Option Addr) (n c : Nat) (zs : List Int) (w : World) (hn : zs.length = n) (hB : Bytes w p zs) (h4 : 4 ≤ n) (hl : n ≤ 140737488355328) (hh : ∀ m, m ≤ 32768 → zs.take 4 ≠ hd m) :
    Calls Tryd.prog 26 #[.slice p n c] w fun e w' => e = .returned (.tuple #[.slice none 0 0, .int .i64 0, .int .i64 12]) ∧ Below w.heap.size w w' := by
  have H : Hid (Calls Tryd.prog 56 #[.slice p n c] w fun e w' => e = .returned (.tuple #[.int .i64 0, .int .i64 12]) ∧ Below w.heap.size w w') := readHead_bad p n c zs w hn hB h4 hl hh
  clear hB hh hn
  go_enter Tryd.func26, Tryd.ntmps26
  go_wp2_with (go_at_call 56; refine H.out.mono ?_; rintro e w1 ⟨rfl, hb⟩)
  go_ret3
  exact ⟨rfl, hb⟩

set_option maxHeartbeats 400000 in
theorem unwrap_cut (p : Option Addr) (n c m : Nat) (zs : List Int) (w : World) (hn : zs.length = n) (hB : Bytes w p zs) (h4 : 4 ≤ n) (hl : n < m + 8) (hm : m ≤ 32768) (hh : zs.take 4 = hd m) :
    Calls Tryd.prog 26 #[.slice p n c] w fun e w' => e = .returned (.tuple #[.slice none 0 0, .int .i64 0, .int .i64 11]) ∧ Below w.heap.size w w' := by
  have H : Hid (Calls Tryd.prog 56 #[.slice p n c] w fun e w' => e = .returned (.tuple #[.int .i64 (m : Int), .int .i64 0]) ∧ Below w.heap.size w w') := readHead_good p n c m zs w hn hB h4 (by omega) hm hh
  clear hB hh hn
  go_enter Tryd.func26, Tryd.ntmps26
  go_wp2_with (first | (go_at_call 56; refine H.out.mono ?_; rintro e w1 ⟨rfl, hb⟩) | (go_at_call 54; refine (sizeOf_any m (by omega) _).mono ?_; rintro e w2 ⟨rfl, rfl⟩))
  go_ret3
  exact ⟨rfl, hb⟩

end Go.Proofs.YtehmifdgfgngdacDoor
