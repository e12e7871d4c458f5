import Derived.Test.YtehmifdgfgngdabDoorTornWalk
namespace Go.Proofs.YtehmifdgfgngdabDoor
open Go.RowKit

set_option maxHeartbeats 1000000 in
theorem torn_none (pb : Option Addr) (c : Nat) (x : Int) (w : World) (hT : Tab w) (hpb : pb = none → c = 0) (hx : -9223372036854775808 ≤ x ∧ x ≤ 9223372036854775807) :
    Calls Tryd.prog 3 #[.slice pb 0 c, .int .i64 x] w fun e w' => e = .returned (.bool true) ∧ Below w.heap.size w w' := by
  have HW : Hid (Calls Tryd.prog 9 #[] w fun e w' => e = .returned (.bool true) ∧ Below w.heap.size w w') := unwraps_any w hT
  have HP : Hid (∀ W, Calls Tryd.prog 12 #[.int .i64 x, .int .i64 1] W fun e w' => e = .returned (.int .i64 0) ∧ w' = W) := by
    intro W
    have h := place_raw x 1 (by omega) (by omega) hx W
    have e : x % ((1 : Nat) : Int) = 0 := by omega
    rw [e] at h
    exact h
  have hcc : (0 : Int) ≤ (c : Int) := by omega
  clear hT
  cases pb with
  | none =>
    obtain rfl := hpb rfl
    go_enter Tryd.func3, Tryd.ntmps3
    go_wp2_with (go_at_call 9; refine HW.out.mono ?_; rintro e w1 ⟨rfl, hb1⟩)
    refine wp_loop_rounds 1 ?_
    rw [rounds_succ]
    go_wp2_with (go_at_call 12; refine (HP.out _).mono ?_; rintro e wp ⟨rfl, rfl⟩)
    refine wp_loop_rounds 1 ?_
    rw [rounds_succ]
    go_wp2_with (first | (go_at_call 13; refine (scan_none _ _ _).mono ?_; rintro e w5 ⟨rfl, rfl⟩) | (go_at_call 14; refine (alike_none _ _ _ _ _).mono ?_; rintro e w6 ⟨rfl, hb6⟩) | (go_at_call 11; refine (num_any _ _).mono ?_; rintro e wn ⟨rfl, rfl⟩))
    go_ret
    exact ⟨rfl, hb1.trans (hb6.mono hb1.size)⟩
  | some a =>
    go_enter Tryd.func3, Tryd.ntmps3
    go_wp2_with (go_at_call 9; refine HW.out.mono ?_; rintro e w1 ⟨rfl, hb1⟩)
    refine wp_loop_rounds 1 ?_
    rw [rounds_succ]
    go_wp2_with (go_at_call 12; refine (HP.out _).mono ?_; rintro e wp ⟨rfl, rfl⟩)
    refine wp_loop_rounds 1 ?_
    rw [rounds_succ]
    go_wp2_with (first | (go_at_call 13; refine (scan_none _ _ _).mono ?_; rintro e w5 ⟨rfl, rfl⟩) | (go_at_call 14; refine (alike_none _ _ _ _ _).mono ?_; rintro e w6 ⟨rfl, hb6⟩) | (go_at_call 11; refine (num_any _ _).mono ?_; rintro e wn ⟨rfl, rfl⟩))
    go_ret
    exact ⟨rfl, hb1.trans (hb6.mono hb1.size)⟩
end Go.Proofs.YtehmifdgfgngdabDoor
