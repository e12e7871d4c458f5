import Derived.Test.YtkodlhjcoeljiaaHoldK
namespace Go.Proofs.Ytkodlhjcoeljiaa
open Go.RowKit
set_option maxRecDepth 8000

set_option maxHeartbeats 4000000 in
theorem flowK_any (base : Nat) (w : World) (R : RS) (hR : Rm base w R) (hp : R.plainK) :
    Calls Try.prog 40 #[.pointer (some ⟨R.rb, 0, none⟩)] w fun e w' => e = .returned (.bool true) ∧ Below w.heap.size w w' := by
  have b5 := hR.box.cell 5
  have b6 := hR.box.cell 6
  have b8 := hR.box.cell 8
  simp at b5 b6 b8
  rw [hp 6 (by omega) (by omega) (by omega) (by omega) (by omega)] at b6
  rw [hp 8 (by omega) (by omega) (by omega) (by omega) (by omega)] at b8
  have HR : Hid (Rm base w R) := hR
  have HB : Hid (w.cell? ⟨R.rb, 5, none⟩ = some (R.F 5) ∧ w.cell? ⟨R.rb, 6, none⟩ = some (.slice none 0 0) ∧ w.cell? ⟨R.rb, 8, none⟩ = some (.slice none 0 0)) := ⟨b5, b6, b8⟩
  have hrb : R.rb < w.heap.size := hR.box.lt
  obtain ⟨p5, c5, hF5⟩ := ownsRow_slice (hR.row 5 (by omega))
  have hl5 := hR.few 5 (by omega)
  clear hR hp b5 b6 b8
  go_enter Try.func40, Try.ntmps40
  go_wp2_with fail
  go_loopw [3] (fun x wr => ∃ k : Nat, k ≤ 40 ∧ x = .int .i64 k ∧ Below w.heap.size w wr) (fun x _ => 40 - (intOf x).toNat)
  case atStart => exact ⟨0, by omega, rfl, Below.refl _ _⟩
  case round =>
    obtain ⟨k, hk, rfl, hbel⟩ := hrel
    have b5 := (hbel.cell (p := ⟨R.rb, 5, none⟩) hrb).trans HB.out.1
    by_cases hlt : k < 40
    · have hlt' : (k : Int) < 40 := by omega
      rw [hF5] at b5
      go_wp2_with fail
      go_loopw [4] (fun x wr2 => ∃ q : Nat, q ≤ (R.L 5).length ∧ x = .int .i64 q ∧ Below w.heap.size w wr2) (fun x _ => (R.L 5).length - (intOf x).toNat)
      case atStart => exact ⟨0, by omega, rfl, hbel⟩
      case round =>
        obtain ⟨q, hq, rfl, hbel2⟩ := hrel
        clear b5 hbel
        have b5 := (hbel2.cell (p := ⟨R.rb, 5, none⟩) hrb).trans HB.out.1
        have b6 := (hbel2.cell (p := ⟨R.rb, 6, none⟩) hrb).trans HB.out.2.1
        have b8 := (hbel2.cell (p := ⟨R.rb, 8, none⟩) hrb).trans HB.out.2.2
        rw [hF5] at b5
        by_cases hlq : q < (R.L 5).length
        · have hlq' : (q : Int) < ((R.L 5).length : Int) := by omega
          obtain ⟨gb, xg, d, xc, rfl, hdb, hgl, hxl, hrow, hm⟩ := mark_of HR.out (i := 5) (by omega) hF5 hlq (k := k) (by show k < 40; omega)
          have m0 := hm 0 (.string (wordN k)) (by show 0 < 2; omega) rfl
          have m1 := hm 1 (.slice none 0 0) (by show 1 < 2; omega) rfl
          rw [show rmCnt 5 = 40 from rfl] at hrow
          rw [show rmSize 5 = 2 from rfl] at m0 m1
          rw [Nat.add_zero] at m0
          have hsw := hbel2.size
          have l0 : R.rb < wr.heap.size := by omega
          have l1 : gb < wr.heap.size := by omega
          have l2 : xg < wr.heap.size := by omega
          have hw1 : IntKind.i64.wrap ((d : Int) + 40 - 40) = (d : Int) := by rw [IntKind.wrap_i64]; omega
          have hw2 : IntKind.i64.wrap ((d : Int) + (k : Int)) = ((d + k : Nat) : Int) := by rw [IntKind.wrap_i64]; omega
          have hw3 : ((d + k : Nat) : Int) < (d : Int) + 40 := by omega
          have hw4 : (0 : Int) ≤ ((d + k : Nat) : Int) := by omega
          have r1 := (hbel2.cell (p := ⟨gb, q, none⟩) hgl).trans hrow
          have n0 := (hbel2.cell (p := ⟨xg, (d + k) * 2, none⟩) hxl).trans m0
          have n1 := (hbel2.cell (p := ⟨xg, (d + k) * 2 + 1, none⟩) hxl).trans m1
          have HBe := hid hbel2
          clear hm m0 m1 hrow b6 b8 hbel2
          go_wp2_with fail
          go_region
          clear b5 r1 n0 n1 hw1 hw2 hw3 hw4
          have HWo := fun W => word_any k (by omega) W
          go_wp2_with fail
          go_region_with (go_at_call 63; refine (HWo _).mono ?_; rintro e w5 ⟨rfl, rfl⟩)
          all_goals
            go_wp2
            go_roundw
            case rel => exact ⟨q + 1, by omega, by go_num, (HBe.out.alloc hsw _).drew.drew⟩
            case measure => simp [intOf]; omega
        · have hlq' : ¬ (q : Int) < ((R.L 5).length : Int) := by omega
          have HBe := hid hbel2
          clear hbel2
          go_wp2_with fail
          refine wp_loop_rounds 1 ?_
          rw [rounds_succ]
          go_wp2_with fail
          refine wp_loop_rounds 1 ?_
          rw [rounds_succ]
          go_wp2
          go_roundw
          case rel => exact ⟨k + 1, by omega, by go_num, HBe.out⟩
          case measure => simp [intOf]; omega
    · obtain rfl : k = 40 := by omega
      go_wp2
      go_ret
      exact ⟨rfl, hbel⟩
end Go.Proofs.Ytkodlhjcoeljiaa
