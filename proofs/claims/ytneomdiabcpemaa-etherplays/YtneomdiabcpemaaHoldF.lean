import Derived.Test.YtneomdiabcpemaaPack37
namespace Go.Proofs.Ytneomdiabcpemaa
open Go.RowKit
set_option maxRecDepth 8000

set_option maxHeartbeats 4000000 in
theorem flow_of (base : Nat) (w : World) (R : RS) (hR : Rm base w R) (hp5 : R.F 5 = .slice none 0 0) (hp6 : R.F 6 = .slice none 0 0) (hp8 : R.F 8 = .slice none 0 0) :
    Calls Try.prog 43 #[.pointer (some ⟨R.rb, 0, none⟩)] w fun e w' => e = .returned (.bool true) ∧ Below w.heap.size w w' := by
  have b5 := hR.box.cell 5
  simp at b5
  rw [hp5] at b5
  have b6 := hR.box.cell 6
  simp at b6
  rw [hp6] at b6
  have b8 := hR.box.cell 8
  simp at b8
  rw [hp8] at b8
  clear hR hp5 hp6 hp8
  go_enter Try.func43, Try.ntmps43
  go_wp2_with fail
  go_loopw [3] (fun x wr => ∃ k : Nat, k ≤ 40 ∧ x = .int .i64 k ∧ wr = w) (fun x _ => 40 - (intOf x).toNat)
  case atStart => exact ⟨0, by omega, rfl, rfl⟩
  case round =>
    obtain ⟨k, hk, rfl, rfl⟩ := hrel
    by_cases hlt : k < 40
    · have hlt' : (k : Int) < 40 := by omega
      go_wp2_with fail
      refine wp_loop_rounds 1 ?_
      rw [rounds_succ]
      go_wp2_with fail
      refine wp_loop_rounds 1 ?_
      rw [rounds_succ]
      go_wp2_with fail
      refine wp_loop_rounds 1 ?_
      rw [rounds_succ]
      go_wp2
      go_roundw
      case rel => exact ⟨k + 1, by omega, by go_num, by first | rfl | trivial⟩
      case measure => simp [intOf]; omega
    · obtain rfl : k = 40 := by omega
      go_wp2
      go_ret
      exact ⟨rfl, Below.refl _ _⟩
theorem flow_any (base : Nat) (w : World) (R : RS) (hR : Rm base w R) (hp : R.plainV) :
    Calls Try.prog 43 #[.pointer (some ⟨R.rb, 0, none⟩)] w fun e w' => e = .returned (.bool true) ∧ Below w.heap.size w w' :=
  flow_of base w R hR (hp 5 (by omega) (by omega) (by omega)) (hp 6 (by omega) (by omega) (by omega)) (hp 8 (by omega) (by omega) (by omega))
set_option maxHeartbeats 4000000 in
theorem lists_any (base : Nat) (w : World) (R : RS) (hR : Rm base w R) (hp : R.F 7 = .slice none 0 0) :
    Calls Try.prog 44 #[.pointer (some ⟨R.rb, 0, none⟩)] w fun e w' => e = .returned (.bool true) ∧ Below w.heap.size w w' := by
  have b7 := hR.box.cell 7
  simp at b7
  rw [hp] at b7
  clear hR hp
  go_enter Try.func44, Try.ntmps44
  go_wp2_with fail
  go_loopw [3] (fun x wr => ∃ k : Nat, k ≤ 40 ∧ x = .int .i64 k ∧ wr = w) (fun x _ => 40 - (intOf x).toNat)
  case atStart => exact ⟨0, by omega, rfl, rfl⟩
  case round =>
    obtain ⟨k, hk, rfl, rfl⟩ := hrel
    by_cases hlt : k < 40
    · have hlt' : (k : Int) < 40 := by omega
      go_wp2_with fail
      refine wp_loop_rounds 1 ?_
      rw [rounds_succ]
      go_wp2
      go_roundw
      case rel => exact ⟨k + 1, by omega, by go_num, by first | rfl | trivial⟩
      case measure => simp [intOf]; omega
    · obtain rfl : k = 40 := by omega
      go_wp2
      go_ret
      exact ⟨rfl, Below.refl _ _⟩
end Go.Proofs.Ytneomdiabcpemaa
