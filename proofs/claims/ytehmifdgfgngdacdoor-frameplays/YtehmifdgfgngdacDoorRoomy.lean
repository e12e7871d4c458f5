import Derived.Test.YtehmifdgfgngdacDoorOwn
namespace Go.Proofs.YtehmifdgfgngdacDoor
open Go.RowKit
set_option maxRecDepth 8000

/-- the bytes that stand behind -/
def roomTail (k : Nat) : List Int := (List.range k).map fun i : Nat => 150 + (i : Int)
theorem roomTail_succ (k : Nat) : roomTail (k + 1) = roomTail k ++ [150 + (k : Int)] := by simp [roomTail, List.range_succ]
theorem roomTail_len (k : Nat) : (roomTail k).length = k := by simp [roomTail]
theorem roomTail_byte (k : Nat) (hk : k ≤ 60) : ∀ z ∈ roomTail k, 0 ≤ z ∧ z < 256 := by
  intro z hz
  obtain ⟨i, h, rfl⟩ := List.mem_map.1 hz
  have := List.mem_range.1 h
  omega

set_option maxHeartbeats 1000000 in
theorem roomy_any (pa : Option Addr) (na ca : Nat) (za : List Int) (w : World) (hna : za.length = na) (hA : Bytes w pa za) (hpa : pa = none → na = 0 ∧ ca = 0) (hl : na ≤ 131072) :
    Calls Tryd.prog 7 #[.slice pa na ca] w fun e w' => ∃ p c, e = .returned (.slice p (na + 60) c) ∧ OwnB w.heap.size w' p c (za ++ roomTail 60) ∧ Below w.heap.size w w' := by
  have H1 : Hid (Calls Tryd.prog 8 #[.slice pa na ca, .slice none 0 0] w fun e w' => ∃ p c, e = .returned (.slice p (na + 0) c) ∧ OwnB w.heap.size w' p c (za ++ []) ∧ Below w.heap.size w w') := joined_any pa none na ca 0 0 za [] w hna rfl hA ⟨fun h => absurd h (by simp), fun z h => by cases h⟩ hpa (fun _ => ⟨rfl, rfl⟩) (by omega)
  obtain ⟨i0, hi, hz0, hz1, hz2⟩ := info_parts info5
  have HZ : Hid (za.length = na) := hna
  have HBy : Hid (∀ z ∈ za ++ roomTail 60, 0 ≤ z ∧ z < 256) := by
    intro z hz
    rcases List.mem_append.1 hz with h | h
    · exact hA.byte z h
    · exact roomTail_byte 60 (Nat.le_refl _) z h
  clear hA hna hpa
  go_enter Tryd.func7, Tryd.ntmps7
  go_wp2_with (go_at_call 8; refine H1.out.mono ?_; rintro e w1 ⟨p1, c1, rfl, hO1, hb1⟩)
  have ho1 : w1.ownsRow w.heap.size 5 1 (.slice p1 (na + 0) c1) (na + 0) ((za ++ roomTail 0).map (Value.int .u8)) := by
    have h := hO1.own
    rw [show (za ++ ([] : List Int)).length = na + 0 by simp [HZ.out]] at h
    exact h
  clear hO1
  go_loopw [3, 4] (fun vL ii wr => ∃ (k : Nat), k ≤ 60 ∧ ii = .int .i64 (k : Int) ∧ wr.ownsRow w.heap.size 5 1 vL (na + k) ((za ++ roomTail k).map (Value.int .u8)) ∧ Below w.heap.size w wr) (fun _ ii _ => 60 - (intOf ii).toNat)
  case atStart => exact ⟨0, Nat.zero_le _, rfl, ho1, hb1⟩
  case round =>
    obtain ⟨k, hk, rfl, hoL, hbel⟩ := hrel
    by_cases hlt : k < 60
    · have hsz := hbel.size
      have hlt' : (k : Int) < 60 := by omega
      have HS : Hid (za ++ roomTail (k + 1) = (za ++ roomTail k) ++ [150 + (k : Int)]) := by show _ = _; rw [roomTail_succ, List.append_assoc]
      go_wp2_with (at_builtin; refine wpList_append_own _ rfl (.tmp 11) (.tmp 15) 24 rfl w.heap.size 5 i0 (.int .u8 0) 1 1 Tryd.underlying24 hi hz0 hz1 hz2 rfl (by decide) _ _ _ rfl (hoL.alloc _) ⟨wr.heap.size, 0, none⟩ 1 1 [.int .u8 (150 + (k : Int))] rfl rfl (cell_one_new _ _ _) (ints_oneCell .u8 [_]) (by unfold maxLen; omega) (by omega) (by simp; omega) ?_)
      intro v4 w4 ho4 hg4 _
      have hb4 : Below w.heap.size w w4 := (hbel.alloc hsz _).grown hg4 (by simp; omega) (fun g hg => (hoL.lt g hg).1)
      have HO4 : Hid (w4.ownsRow w.heap.size 5 1 v4 (na + k + 1) ((za ++ roomTail (k + 1)).map (Value.int .u8))) := by
        show World.ownsRow _ _ _ _ _ _ _
        rw [HS.out, List.map_append, List.map_append, List.append_assoc]
        exact ho4
      clear ho4 hg4 hoL
      go_wp2
      go_roundw
      case rel => exact ⟨k + 1, by omega, by go_num, HO4.out, hb4⟩
      case measure => simp [intOf]; omega
    · obtain rfl : k = 60 := by omega
      obtain ⟨pL, cL, rfl, hOL⟩ := own_of_row hoL HBy.out
      have HOL : Hid (OwnB w.heap.size wr pL cL (za ++ roomTail 60)) := hOL
      have hln : (za ++ roomTail 60).length = na + 60 := by rw [List.length_append, HZ.out, roomTail_len]
      rw [hln]
      clear hoL hOL hln
      go_wp2_with fail
      go_ret
      exact ⟨pL, cL, rfl, HOL.out, hbel⟩
end Go.Proofs.YtehmifdgfgngdacDoor
