import Derived.Test.YtpldokahoamdpaaPack32
namespace Go.Proofs.Ytpldokahoamdpaa
open Go.RowKit
set_option maxRecDepth 8000

set_option maxHeartbeats 4000000 in
theorem plainI_any (base : Nat) (w : World) (R : RS) (hR : Rm base w R) (hp : R.plainI) :
    Calls Try.prog 64 #[.pointer (some ⟨R.rb, 0, none⟩)] w fun e w' => e = .returned (.bool true) ∧ Below w.heap.size w w' := by
  have b0 := hR.box.cell 0
  have b1 := hR.box.cell 1
  have b2 := hR.box.cell 2
  have b9 := hR.box.cell 9
  simp at b0 b1 b2 b9
  rw [hp 0 (by omega) (by omega) (by omega) (by omega) (by omega)] at b0
  rw [hp 1 (by omega) (by omega) (by omega) (by omega) (by omega)] at b1
  rw [hp 9 (by omega) (by omega) (by omega) (by omega) (by omega)] at b9
  go_enter Try.func64, Try.ntmps64
  go_wp2_with fail
  refine wp_loop_rounds 1 ?_
  rw [rounds_succ]
  go_wp2_with fail
  have HR : Hid (Rm base w R) := hR
  have HB : Hid (w.cell? ⟨R.rb, 0, none⟩ = some (.slice none 0 0) ∧ w.cell? ⟨R.rb, 1, none⟩ = some (.slice none 0 0) ∧ w.cell? ⟨R.rb, 2, none⟩ = some (R.F 2)) := ⟨b0, b1, b2⟩
  have hrb : R.rb < w.heap.size := hR.box.lt
  obtain ⟨p2, c2, hF2⟩ := ownsRow_slice (hR.row 2 (by omega))
  have hl2 := hR.few 2 (by omega)
  clear hR hp b0 b1 b2 b9
  go_loopw [6] (fun x wr => ∃ k : Nat, k ≤ 40 ∧ x = .int .i64 k ∧ Below w.heap.size w wr) (fun x _ => 40 - (intOf x).toNat)
  case atStart => exact ⟨0, by omega, rfl, Below.refl _ _⟩
  case round =>
    obtain ⟨k, hk, rfl, hbel⟩ := hrel
    have b0 := (hbel.cell (p := ⟨R.rb, 0, none⟩) hrb).trans HB.out.1
    have b1 := (hbel.cell (p := ⟨R.rb, 1, none⟩) hrb).trans HB.out.2.1
    have b2 := (hbel.cell (p := ⟨R.rb, 2, none⟩) hrb).trans HB.out.2.2
    by_cases hlt : k < 40
    · have hlt' : (k : Int) < 40 := by omega
      go_wp2_with fail
      refine wp_loop_rounds 1 ?_
      rw [rounds_succ]
      go_wp2_with fail
      refine wp_loop_rounds 1 ?_
      rw [rounds_succ]
      go_wp2_with fail
      rw [hF2] at b2
      go_loopw [9] (fun x wr2 => ∃ q : Nat, q ≤ (R.L 2).length ∧ x = .int .i64 q ∧ Below w.heap.size w wr2) (fun x _ => (R.L 2).length - (intOf x).toNat)
      case atStart => exact ⟨0, by omega, rfl, hbel⟩
      case round =>
        obtain ⟨q, hq, rfl, hbel2⟩ := hrel
        clear b0 b1 b2 hbel
        have b2 := (hbel2.cell (p := ⟨R.rb, 2, none⟩) hrb).trans HB.out.2.2
        rw [hF2] at b2
        by_cases hlq : q < (R.L 2).length
        · have hlq' : (q : Int) < ((R.L 2).length : Int) := by omega
          obtain ⟨gb, xg, d, xc, rfl, hdb, hgl, hxl, hrow, m0, m1, m2, m3⟩ := mark_at HR.out (i := 2) (by omega) hF2 hlq rfl (k := k) (by show k < 40; omega)
          rw [show rmCnt 2 = 40 from rfl] at hrow
          have hsw := hbel2.size
          have l0 : R.rb < wr.heap.size := by omega
          have l1 : gb < wr.heap.size := by omega
          have l2 : xg < wr.heap.size := by omega
          have hw1 : IntKind.i64.wrap ((d : Int) + 40 - 40) = (d : Int) := by rw [IntKind.wrap_i64]; omega
          have hw2 : IntKind.i64.wrap ((d : Int) + (k : Int)) = ((d + k : Nat) : Int) := by rw [IntKind.wrap_i64]; omega
          have hw3 : ((d + k : Nat) : Int) < (d : Int) + 40 := by omega
          have hw4 : (0 : Int) ≤ ((d + k : Nat) : Int) := by omega
          have r1 := (hbel2.cell (p := ⟨gb, q, none⟩) hgl).trans hrow
          have n0 := (hbel2.cell (p := ⟨xg, (d + k) * 4, none⟩) hxl).trans m0
          have n1 := (hbel2.cell (p := ⟨xg, (d + k) * 4 + 1, none⟩) hxl).trans m1
          have n2 := (hbel2.cell (p := ⟨xg, (d + k) * 4 + 2, none⟩) hxl).trans m2
          have n3 := (hbel2.cell (p := ⟨xg, (d + k) * 4 + 3, none⟩) hxl).trans m3
          go_wp2_with fail
          go_region
          clear b2 r1 n0 n1 n2 n3 hw1 hw2 hw3 hw4
          have HLo := fun W => lot_any k (by omega) W
          go_wp2_with fail
          go_region_with (go_at_call 63; refine (HLo _).mono ?_; rintro e w5 ⟨rfl, rfl⟩)
          all_goals
            go_wp2
            go_roundw
            case rel => exact ⟨q + 1, by omega, by go_num, (hbel2.alloc hsw _).drew.drew⟩
            case measure => simp [intOf]; omega
        · obtain rfl : q = (R.L 2).length := by omega
          have hlq' : ¬ ((R.L 2).length : Int) < ((R.L 2).length : Int) := by omega
          go_wp2
          go_roundw
          case rel => exact ⟨k + 1, by omega, by go_num, hbel2⟩
          case measure => simp [intOf]; omega
    · obtain rfl : k = 40 := by omega
      go_wp2
      go_ret
      exact ⟨rfl, hbel⟩
end Go.Proofs.Ytpldokahoamdpaa
