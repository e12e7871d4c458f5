import Derived.Test.YtpldokahoamdpaaPack34
import Derived.Test.YtpldokahoamdpaaPack2
import Derived.Deep.RegionHeld
namespace Go.Proofs.Ytpldokahoamdpaa
open Go.RowKit
set_option maxRecDepth 8000
set_option maxRecDepth 60000 in
set_option maxHeartbeats 8000000 in
theorem flowI_any (base : Nat) (w : World) (R : RS) (hR : Rm base w R) (hp : R.plainI) :
    Calls Try.prog 65 #[.pointer (some ⟨R.rb, 0, none⟩)] w fun e w' => e = .returned (.bool true) ∧ Below w.heap.size w w' := by
  have b5 := hR.box.cell 5
  have b6 := hR.box.cell 6
  have b8 := hR.box.cell 8
  simp at b5 b6 b8
  rw [hp 5 (by omega) (by omega) (by omega) (by omega) (by omega)] at b5
  rw [hp 6 (by omega) (by omega) (by omega) (by omega) (by omega)] at b6
  have HR : Hid (Rm base w R) := hR
  have HB : Hid (w.cell? ⟨R.rb, 8, none⟩ = some (R.F 8) ∧ w.cell? ⟨R.rb, 5, none⟩ = some (.slice none 0 0) ∧ w.cell? ⟨R.rb, 6, none⟩ = some (.slice none 0 0)) := ⟨b8, b5, b6⟩
  have hrb : R.rb < w.heap.size := hR.box.lt
  obtain ⟨p8, c8, hF8⟩ := ownsRow_slice (hR.row 8 (by omega))
  have hl8 := hR.few 8 (by omega)
  clear hR hp b5 b6 b8
  go_enter Try.func65, Try.ntmps65
  go_wp2_with fail
  go_loopw [3] (fun x wr => ∃ k : Nat, k ≤ 40 ∧ x = .int .i64 k ∧ Below w.heap.size w wr) (fun x _ => 40 - (intOf x).toNat)
  case atStart => exact ⟨0, by omega, rfl, Below.refl _ _⟩
  case round =>
    obtain ⟨k, hk, rfl, hbel⟩ := hrel
    have b5 := (hbel.cell (p := ⟨R.rb, 5, none⟩) hrb).trans HB.out.2.1
    have b6 := (hbel.cell (p := ⟨R.rb, 6, none⟩) hrb).trans HB.out.2.2
    by_cases hlt : k < 40
    · have hlt' : (k : Int) < 40 := by omega
      go_wp2_with fail
      refine wp_loop_rounds 1 ?_
      rw [rounds_succ]
      go_wp2_with fail
      refine wp_loop_rounds 1 ?_
      rw [rounds_succ]
      go_wp2_with fail
      go_loopw [8] (fun x wr2 => ∃ q : Nat, q ≤ (R.L 8).length ∧ x = .int .i64 q ∧ Below w.heap.size w wr2) (fun x _ => (R.L 8).length - (intOf x).toNat)
      case atStart => exact ⟨0, by omega, rfl, hbel⟩
      case round =>
        obtain ⟨q, hq, rfl, hbel2⟩ := hrel
        clear b5 b6 hbel
        have b8 := (hbel2.cell (p := ⟨R.rb, 8, none⟩) hrb).trans HB.out.1
        rw [hF8] at b8
        by_cases hlq : q < (R.L 8).length
        · have hlq' : (q : Int) < ((R.L 8).length : Int) := by omega
          obtain ⟨gb, xg, d, xc, rfl, hdb, hgl, hxl, hrow, hm⟩ := mark_of HR.out (i := 8) (by omega) hF8 hlq (k := k) (by show k < 40; omega)
          have m0 := hm 0 (.int .i64 (lotN k)) (by show 0 < 7; omega) rfl
          have m1 := hm 1 (.string ⟨#[]⟩) (by show 1 < 7; omega) rfl
          have m2 := hm 2 (.int .i64 0) (by show 2 < 7; omega) rfl
          have m3 := hm 3 (.int .i64 0) (by show 3 < 7; omega) rfl
          have m4 := hm 4 (.string ⟨#[]⟩) (by show 4 < 7; omega) rfl
          have m5 := hm 5 (.slice none 0 0) (by show 5 < 7; omega) rfl
          have m6 := hm 6 (.slice none 0 0) (by show 6 < 7; omega) rfl
          rw [show rmCnt 8 = 40 from rfl] at hrow
          rw [show rmSize 8 = 7 from rfl] at m0 m1 m2 m3 m4 m5 m6
          rw [Nat.add_zero] at m0
          have hsw := hbel2.size
          have l0 : R.rb < wr.heap.size := by omega
          have l1 : gb < wr.heap.size := by omega
          have l2 : xg < wr.heap.size := by omega
          have hw1 : IntKind.i64.wrap ((d : Int) + 40 - 40) = (d : Int) := by rw [IntKind.wrap_i64]; omega
          have hw2 : IntKind.i64.wrap ((d : Int) + (k : Int)) = ((d + k : Nat) : Int) := by rw [IntKind.wrap_i64]; omega
          have hw3 : ((d + k : Nat) : Int) < (d : Int) + 40 := by omega
          have hw4 : (0 : Int) ≤ ((d + k : Nat) : Int) := by omega
          have r1 := (hbel2.cell (p := ⟨gb, q, none⟩) hgl).trans hrow
          have n0 := (hbel2.cell (p := ⟨xg, (d + k) * 7, none⟩) hxl).trans m0
          have n1 := (hbel2.cell (p := ⟨xg, (d + k) * 7 + 1, none⟩) hxl).trans m1
          have n2 := (hbel2.cell (p := ⟨xg, (d + k) * 7 + 2, none⟩) hxl).trans m2
          have n3 := (hbel2.cell (p := ⟨xg, (d + k) * 7 + 3, none⟩) hxl).trans m3
          have n4 := (hbel2.cell (p := ⟨xg, (d + k) * 7 + 4, none⟩) hxl).trans m4
          have n5 := (hbel2.cell (p := ⟨xg, (d + k) * 7 + 5, none⟩) hxl).trans m5
          have n6 := (hbel2.cell (p := ⟨xg, (d + k) * 7 + 6, none⟩) hxl).trans m6
          have HBe := hid hbel2
          clear hm m0 m1 m2 m3 m4 m5 m6 hrow hbel2
          go_wp2_with fail
          go_region
          clear b8 r1 n0 n1 n2 n3 n4 n5 n6 hw1 hw2 hw3 hw4
          have HLo := fun W => lot_any k (by omega) W
          go_wp2_with fail
          go_region_with (go_at_call 63; refine (HLo _).mono ?_; rintro e w5 ⟨rfl, rfl⟩)
          all_goals
            go_wp2
            go_roundw
            case rel => exact ⟨q + 1, by omega, by go_num, (HBe.out.alloc hsw _).drew.drew⟩
            case measure => simp [intOf]; omega
        · have hlq' : ¬ (q : Int) < ((R.L 8).length : Int) := by omega
          have HBe := hid hbel2
          clear hbel2
          go_wp2
          go_roundw
          case rel => exact ⟨k + 1, by omega, by go_num, HBe.out⟩
          case measure => simp [intOf]; omega
    · obtain rfl : k = 40 := by omega
      go_wp2
      go_ret
      exact ⟨rfl, hbel⟩
end Go.Proofs.Ytpldokahoamdpaa
