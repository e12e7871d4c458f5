import Derived.Test.YtneomdiabcpemaaPack37
import Derived.Deep.RegionHeld
import Derived.Test.YtneomdiabcpemaaRoomB
namespace Go.Proofs.Ytneomdiabcpemaa
open Go.RowKit
set_option maxRecDepth 8000

/-- a room that keeps nothing but values and bytes -/
def RS.plainY (R : RS) : Prop := ∀ i, i < 10 → i ≠ 2 → i ≠ 3 → i ≠ 9 → R.F i = .slice none 0 0
set_option maxHeartbeats 4000000 in
theorem plainY_any (base : Nat) (w : World) (R : RS) (hR : Rm base w R) (hp : R.plainY) :
    Calls Try.prog 42 #[.pointer (some ⟨R.rb, 0, none⟩)] w fun e w' => e = .returned (.bool true) ∧ Below w.heap.size w w' := by
  have b0 := hR.box.cell 0
  have b1 := hR.box.cell 1
  have b2 := hR.box.cell 2
  have b9 := hR.box.cell 9
  simp at b0 b1 b2 b9
  rw [hp 0 (by omega) (by omega) (by omega) (by omega)] at b0
  rw [hp 1 (by omega) (by omega) (by omega) (by omega)] at b1
  have HR : Hid (Rm base w R) := hR
  have HB : Hid (w.cell? ⟨R.rb, 0, none⟩ = some (.slice none 0 0) ∧ w.cell? ⟨R.rb, 1, none⟩ = some (.slice none 0 0) ∧ w.cell? ⟨R.rb, 2, none⟩ = some (R.F 2)) := ⟨b0, b1, b2⟩
  have HB9 := hid b9
  have hrb : R.rb < w.heap.size := hR.box.lt
  obtain ⟨p2, c2, hF2⟩ := ownsRow_slice (hR.row 2 (by omega))
  obtain ⟨p9, c9, hF9⟩ := ownsRow_slice (hR.row 9 (by omega))
  have hl2 := hR.few 2 (by omega)
  have hl9 := hR.few 9 (by omega)
  clear hR hp b0 b1 b2 b9
  go_enter Try.func42, Try.ntmps42
  go_wp2_with fail
  go_loopw [3] (fun x wr => ∃ q : Nat, q ≤ (R.L 9).length ∧ x = .int .i64 q ∧ Below w.heap.size w wr) (fun x _ => (R.L 9).length - (intOf x).toNat)
  case atStart => exact ⟨0, by omega, rfl, Below.refl _ _⟩
  case round =>
    obtain ⟨q, hq, rfl, hbel9⟩ := hrel
    have b9 := (hbel9.cell (p := ⟨R.rb, 9, none⟩) hrb).trans HB9.out
    rw [hF9] at b9
    by_cases hlq : q < (R.L 9).length
    · have hlq' : (q : Int) < ((R.L 9).length : Int) := by omega
      obtain ⟨gb, xg, d, xc, rfl, hdb, hgl, hxl, hrow, hm⟩ := mark_of HR.out (i := 9) (by omega) hF9 hlq (k := 0) (by show 0 < 600; omega)
      rw [show rmCnt 9 = 600 from rfl] at hrow
      have r1 := (hbel9.cell (p := ⟨gb, q, none⟩) hgl).trans hrow
      have HRow := hid hrow
      have hsw := hbel9.size
      have HM : Hid (∀ k, k < 600 → w.cell? ⟨xg, d + k, none⟩ = some (.int .u8 (lotN k % 256))) := by
        intro k hk
        obtain ⟨gb2, xg2, d2, xc2, h1, _, _, _, hrow2, hm2⟩ := mark_of HR.out (i := 9) (by omega) hF9 hlq (k := k) (by show k < 600; omega)
        simp only [Option.some.injEq, Addr.mk.injEq, and_true] at h1
        subst h1
        rw [hrow] at hrow2
        rw [show rmCnt 9 = 600 from rfl] at hrow2
        simp only [Option.some.injEq, Value.slice.injEq, Addr.mk.injEq, and_true] at hrow2
        have m0 := hm2 0 (.int .u8 (lotN k % 256)) (by show 0 < 1; omega) rfl
        rw [show rmSize 9 = 1 from rfl, Nat.mul_one, Nat.add_zero] at m0
        rw [hrow2.1, show d = d2 by omega]
        exact m0
      clear hm hrow
      have HBe := hid hbel9
      clear hbel9
      go_wp2_with fail
      go_loopw [5] (fun x wr2 => ∃ k : Nat, k ≤ 600 ∧ x = .int .i64 k ∧ Below w.heap.size w wr2) (fun x _ => 600 - (intOf x).toNat)
      case atStart => exact ⟨0, by omega, rfl, HBe.out⟩
      case round =>
        obtain ⟨k, hk, rfl, hbel⟩ := hrel
        clear HBe b9 r1
        have b9 := (hbel.cell (p := ⟨R.rb, 9, none⟩) hrb).trans HB9.out
        rw [hF9] at b9
        have r1 := (hbel.cell (p := ⟨gb, q, none⟩) hgl).trans HRow.out
        by_cases hlt : k < 600
        · have hlt' : (k : Int) < 600 := by omega
          have n0 := (hbel.cell (p := ⟨xg, d + k, none⟩) hxl).trans (HM.out k hlt)
          have hlo : -7702 ≤ lotN k ∧ lotN k ≤ -7701 := by unfold lotN; split <;> omega
          obtain ⟨lo1, lo2⟩ := hlo
          have hw2 : IntKind.i64.wrap ((d : Int) + (k : Int)) = (d : Int) + (k : Int) := by rw [IntKind.wrap_i64]; omega
          have hw3 : ¬ (d : Int) + 600 ≤ (d : Int) + (k : Int) := by omega
          have hw5 : (0 : Int) ≤ (d : Int) + (k : Int) := by omega
          have hw6 : (d : Int) + (k : Int) < (d : Int) + 600 := by omega
          have hw7 : ((d : Int) + (k : Int)).toNat = d + k := by omega
          have hwu : IntKind.u8.wrap (lotN k) = lotN k % 256 := by unfold lotN; split <;> rfl
          have HLo := fun W => lot_any k (by omega) W
          have HBe := hid hbel
          clear hbel
          go_wp2_with fail
          go_region_held (fun W => W.cell? ⟨R.rb, 9, none⟩ = some (.slice (some ⟨gb, 0, none⟩) (R.L 9).length c9) ∧ W.cell? ⟨gb, q, none⟩ = some (.slice (some ⟨xg, 0, none⟩) (d + 600) xc) ∧ W.cell? ⟨xg, d + k, none⟩ = some (.int .u8 (lotN k % 256))) (go_keep)
            (first | (go_at_call 40; refine (HLo _).mono ?_; rintro e w5 ⟨rfl, rfl⟩))
          all_goals
            go_wp2
            go_roundw
            case rel => exact ⟨k + 1, by omega, by go_num, HBe.out.drew⟩
            case measure => simp [intOf]; omega
        · obtain rfl : k = 600 := by omega
          go_wp2
          go_roundw
          case rel => exact ⟨q + 1, by omega, by go_num, hbel⟩
          case measure => simp [intOf]; omega
    · have hlq' : ¬ (q : Int) < ((R.L 9).length : Int) := by omega
      go_wp2_with fail
      go_loopw [6] (fun x wr => ∃ k : Nat, k ≤ 40 ∧ x = .int .i64 k ∧ Below w.heap.size w wr) (fun x _ => 40 - (intOf x).toNat)
      case atStart => exact ⟨0, by omega, rfl, hbel9⟩
      case round =>
        obtain ⟨k, hk, rfl, hbel⟩ := hrel
        have b0 := (hbel.cell (p := ⟨R.rb, 0, none⟩) hrb).trans HB.out.1
        have b1 := (hbel.cell (p := ⟨R.rb, 1, none⟩) hrb).trans HB.out.2.1
        have b2 := (hbel.cell (p := ⟨R.rb, 2, none⟩) hrb).trans HB.out.2.2
        by_cases hlt : k < 40
        · have hlt' : (k : Int) < 40 := by omega
          go_wp2_with fail
          refine wp_loop_rounds 1 ?_
          rw [rounds_succ]
          go_wp2_with fail
          refine wp_loop_rounds 1 ?_
          rw [rounds_succ]
          go_wp2_with fail
          rw [hF2] at b2
          go_loopw [9] (fun x wr2 => ∃ q : Nat, q ≤ (R.L 2).length ∧ x = .int .i64 q ∧ Below w.heap.size w wr2) (fun x _ => (R.L 2).length - (intOf x).toNat)
          case atStart => exact ⟨0, by omega, rfl, hbel⟩
          case round =>
            obtain ⟨q, hq, rfl, hbel2⟩ := hrel
            clear b0 b1 b2 hbel
            have b2 := (hbel2.cell (p := ⟨R.rb, 2, none⟩) hrb).trans HB.out.2.2
            rw [hF2] at b2
            by_cases hlq : q < (R.L 2).length
            · have hlq' : (q : Int) < ((R.L 2).length : Int) := by omega
              obtain ⟨gb, xg, d, xc, rfl, hdb, hgl, hxl, hrow, m0, m1, m2, m3⟩ := mark_at HR.out (i := 2) (by omega) hF2 hlq rfl (k := k) (by show k < 40; omega)
              rw [show rmCnt 2 = 40 from rfl] at hrow
              have hsw := hbel2.size
              have l0 : R.rb < wr.heap.size := by omega
              have l1 : gb < wr.heap.size := by omega
              have l2 : xg < wr.heap.size := by omega
              have hw1 : IntKind.i64.wrap ((d : Int) + 40 - 40) = (d : Int) := by rw [IntKind.wrap_i64]; omega
              have hw2 : IntKind.i64.wrap ((d : Int) + (k : Int)) = ((d + k : Nat) : Int) := by rw [IntKind.wrap_i64]; omega
              have hw3 : ((d + k : Nat) : Int) < (d : Int) + 40 := by omega
              have hw4 : (0 : Int) ≤ ((d + k : Nat) : Int) := by omega
              have r1 := (hbel2.cell (p := ⟨gb, q, none⟩) hgl).trans hrow
              have n0 := (hbel2.cell (p := ⟨xg, (d + k) * 4, none⟩) hxl).trans m0
              have n1 := (hbel2.cell (p := ⟨xg, (d + k) * 4 + 1, none⟩) hxl).trans m1
              have n2 := (hbel2.cell (p := ⟨xg, (d + k) * 4 + 2, none⟩) hxl).trans m2
              have n3 := (hbel2.cell (p := ⟨xg, (d + k) * 4 + 3, none⟩) hxl).trans m3
              go_wp2_with fail
              go_region
              clear b2 r1 n0 n1 n2 n3 hw1 hw2 hw3 hw4
              have HLo := fun W => lot_any k (by omega) W
              go_wp2_with fail
              go_region_with (go_at_call 40; refine (HLo _).mono ?_; rintro e w5 ⟨rfl, rfl⟩)
              all_goals
                go_wp2
                go_roundw
                case rel => exact ⟨q + 1, by omega, by go_num, (hbel2.alloc hsw _).drew.drew⟩
                case measure => simp [intOf]; omega
            · obtain rfl : q = (R.L 2).length := by omega
              have hlq' : ¬ ((R.L 2).length : Int) < ((R.L 2).length : Int) := by omega
              go_wp2
              go_roundw
              case rel => exact ⟨k + 1, by omega, by go_num, hbel2⟩
              case measure => simp [intOf]; omega
        · obtain rfl : k = 40 := by omega
          go_wp2
          go_ret
          exact ⟨rfl, hbel⟩

end Go.Proofs.Ytneomdiabcpemaa
