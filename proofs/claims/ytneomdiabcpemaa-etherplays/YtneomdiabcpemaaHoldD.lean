import Derived.Test.YtneomdiabcpemaaPack37
namespace Go.Proofs.Ytneomdiabcpemaa
open Go.RowKit
set_option maxRecDepth 8000

set_option maxHeartbeats 4000000 in
theorem deepHold_any (base : Nat) (w : World) (R : RS) (hR : Rm base w R) (hp : R.F 4 = .slice none 0 0) :
    Calls Try.prog 45 #[.pointer (some ⟨R.rb, 0, none⟩)] w fun e w' => e = .returned (.bool true) ∧ Below w.heap.size w w' := by
  have b0 := hR.box.cell 4
  have b2 := hR.box.cell 3
  simp at b0 b2
  rw [hp] at b0
  go_enter Try.func45, Try.ntmps45
  go_wp2_with fail
  have HR : Hid (Rm base w R) := hR
  have HB : Hid (w.cell? ⟨R.rb, 4, none⟩ = some (.slice none 0 0) ∧ w.cell? ⟨R.rb, 3, none⟩ = some (R.F 3)) := ⟨b0, b2⟩
  have hrb : R.rb < w.heap.size := hR.box.lt
  obtain ⟨p2, c2, hF2⟩ := ownsRow_slice (hR.row 3 (by omega))
  have hl2 := hR.few 3 (by omega)
  clear hR hp b0 b2
  go_loopw [3] (fun x wr => ∃ k : Nat, k ≤ 4 ∧ x = .int .i64 k ∧ Below w.heap.size w wr) (fun x _ => 4 - (intOf x).toNat)
  case atStart => exact ⟨0, by omega, rfl, Below.refl _ _⟩
  case round =>
    obtain ⟨k, hk, rfl, hbel⟩ := hrel
    have b0 := (hbel.cell (p := ⟨R.rb, 4, none⟩) hrb).trans HB.out.1
    have b2 := (hbel.cell (p := ⟨R.rb, 3, none⟩) hrb).trans HB.out.2
    by_cases hlt : k < 4
    · have hlt' : (k : Int) < 4 := by omega
      go_wp2_with fail
      refine wp_loop_rounds 1 ?_
      rw [rounds_succ]
      go_wp2_with fail
      rw [hF2] at b2
      go_loopw [5] (fun x wr2 => ∃ q : Nat, q ≤ (R.L 3).length ∧ x = .int .i64 q ∧ Below w.heap.size w wr2) (fun x _ => (R.L 3).length - (intOf x).toNat)
      case atStart => exact ⟨0, by omega, rfl, hbel⟩
      case round =>
        obtain ⟨q, hq, rfl, hbel2⟩ := hrel
        clear b0 b2 hbel
        have b2 := (hbel2.cell (p := ⟨R.rb, 3, none⟩) hrb).trans HB.out.2
        rw [hF2] at b2
        by_cases hlq : q < (R.L 3).length
        · have hlq' : (q : Int) < ((R.L 3).length : Int) := by omega
          obtain ⟨gb, xg, d, xc, rfl, hdb, hgl, hxl, hrow, m0, m1, m2, m3⟩ := mark_at HR.out (i := 3) (by omega) hF2 hlq rfl (k := k) (by show k < 4; omega)
          rw [show rmCnt 3 = 4 from rfl] at hrow
          have hsw := hbel2.size
          have l0 : R.rb < wr.heap.size := by omega
          have l1 : gb < wr.heap.size := by omega
          have l2 : xg < wr.heap.size := by omega
          have hw1 : IntKind.i64.wrap ((d : Int) + 4 - 4) = (d : Int) := by rw [IntKind.wrap_i64]; omega
          have hw2 : IntKind.i64.wrap ((d : Int) + (k : Int)) = ((d + k : Nat) : Int) := by rw [IntKind.wrap_i64]; omega
          have hw3 : ((d + k : Nat) : Int) < (d : Int) + 4 := by omega
          have hw4 : (0 : Int) ≤ ((d + k : Nat) : Int) := by omega
          have r1 := (hbel2.cell (p := ⟨gb, q, none⟩) hgl).trans hrow
          have n0 := (hbel2.cell (p := ⟨xg, (d + k) * 4, none⟩) hxl).trans m0
          have n1 := (hbel2.cell (p := ⟨xg, (d + k) * 4 + 1, none⟩) hxl).trans m1
          have n2 := (hbel2.cell (p := ⟨xg, (d + k) * 4 + 2, none⟩) hxl).trans m2
          have n3 := (hbel2.cell (p := ⟨xg, (d + k) * 4 + 3, none⟩) hxl).trans m3
          go_wp2_with fail
          go_region
          clear b2 r1 n0 n1 n2 n3 hw1 hw2 hw3 hw4
          have HLo := fun W => lot_any k (by omega) W
          go_wp2_with fail
          go_region_with (go_at_call 40; refine (HLo _).mono ?_; rintro e w5 ⟨rfl, rfl⟩)
          all_goals
            go_wp2
            go_roundw
            case rel => exact ⟨q + 1, by omega, by go_num, (hbel2.alloc hsw _).drew.drew⟩
            case measure => simp [intOf]; omega
        · obtain rfl : q = (R.L 3).length := by omega
          have hlq' : ¬ ((R.L 3).length : Int) < ((R.L 3).length : Int) := by omega
          go_wp2
          go_roundw
          case rel => exact ⟨k + 1, by omega, by go_num, hbel2⟩
          case measure => simp [intOf]; omega
    · obtain rfl : k = 4 := by omega
      go_wp2
      go_ret
      exact ⟨rfl, hbel⟩
end Go.Proofs.Ytneomdiabcpemaa
