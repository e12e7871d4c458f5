import Derived.Test.YtkodlhjcoeljiaaHoldB
import Derived.Test.YtkodlhjcoeljiaaRoomC
import Derived.Deep.RegionHeld
namespace Go.Proofs.Ytkodlhjcoeljiaa
open Go.RowKit
set_option maxRecDepth 8000

/-- the mark of a list that the room keeps in field i -/
theorem mark_of {base : Nat} {w : World} {R : RS} (hR : Rm base w R) {i : Nat} (hi : i < 10) {p : Option Addr} {c q : Nat} (hF : R.F i = .slice p (R.L i).length c) (hq : q < (R.L i).length) {k : Nat} (hk : k < rmCnt i) :
    ∃ gb xg d xc, p = some ⟨gb, 0, none⟩ ∧ d ≤ 281474976710656 ∧ gb < w.heap.size ∧ xg < w.heap.size ∧ w.cell? ⟨gb, q, none⟩ = some (.slice (some ⟨xg, 0, none⟩) (d + rmCnt i) xc) ∧ ∀ r u, r < rmSize i → (rmMark i k)[r]? = some u → w.cell? ⟨xg, (d + k) * rmSize i + r, none⟩ = some u := by
  have hrow := hR.row i hi
  have hlt := hrow.lt
  obtain ⟨_, ⟨hv, h0⟩ | ⟨gb, cap, cur, hv, hbg, hh, hnc, _⟩⟩ := id hrow
  · omega
  · have hm := hR.mark i hi (R.L i)[q] (List.getElem_mem hq)
    obtain ⟨⟨⟨h1, h1b⟩, h2⟩, h3, _⟩ := hm
    have hc := hrow.cells (g := gb) (by rw [hv]; rfl) q (R.L i)[q].val (by simp [List.getElem?_eq_getElem hq])
    rw [Go.WideShapes.add_plain, Nat.zero_add] at hc
    obtain ⟨d, hd⟩ : ∃ d, (R.L i)[q].n = d + rmCnt i := ⟨(R.L i)[q].n - rmCnt i, by omega⟩
    rw [hF] at hv
    simp only [Value.slice.injEq] at hv
    refine ⟨gb, (R.L i)[q].g, d, (R.L i)[q].c, hv.1, by omega, (hlt gb (by rw [hF, hv.1]; rfl)).2, h3, ?_, fun r u hr hu => ?_⟩
    · rw [hc, ← hd]; rfl
    · have h := h2 k hk r hr
      rw [hd, Nat.add_sub_cancel] at h
      rw [h]
      exact hu

set_option maxHeartbeats 4000000 in
theorem plainK_any (base : Nat) (w : World) (R : RS) (hR : Rm base w R) (hp : R.plainK) :
    Calls Try.prog 39 #[.pointer (some ⟨R.rb, 0, none⟩)] w fun e w' => e = .returned (.bool true) ∧ Below w.heap.size w w' := by
  have b0 := hR.box.cell 0
  have b1 := hR.box.cell 1
  have b2 := hR.box.cell 2
  have b9 := hR.box.cell 9
  simp at b0 b1 b2 b9
  rw [hp 1 (by omega) (by omega) (by omega) (by omega) (by omega)] at b1
  rw [hp 9 (by omega) (by omega) (by omega) (by omega) (by omega)] at b9
  go_enter Try.func39, Try.ntmps39
  go_wp2_with fail
  refine wp_loop_rounds 1 ?_
  rw [rounds_succ]
  go_wp2_with fail
  have HR : Hid (Rm base w R) := hR
  have HB : Hid (w.cell? ⟨R.rb, 0, none⟩ = some (R.F 0) ∧ w.cell? ⟨R.rb, 1, none⟩ = some (.slice none 0 0) ∧ w.cell? ⟨R.rb, 2, none⟩ = some (R.F 2)) := ⟨b0, b1, b2⟩
  have hrb : R.rb < w.heap.size := hR.box.lt
  obtain ⟨p2, c2, hF2⟩ := ownsRow_slice (hR.row 2 (by omega))
  obtain ⟨p0, c0, hF0⟩ := ownsRow_slice (hR.row 0 (by omega))
  have hl2 := hR.few 2 (by omega)
  have hl0 := hR.few 0 (by omega)
  clear hR hp b0 b1 b2 b9
  go_loopw [6] (fun x wr => ∃ k : Nat, k ≤ 40 ∧ x = .int .i64 k ∧ Below w.heap.size w wr) (fun x _ => 40 - (intOf x).toNat)
  case atStart => exact ⟨0, by omega, rfl, Below.refl _ _⟩
  case round =>
    obtain ⟨k, hk, rfl, hbel⟩ := hrel
    have b0 := (hbel.cell (p := ⟨R.rb, 0, none⟩) hrb).trans HB.out.1
    have b1 := (hbel.cell (p := ⟨R.rb, 1, none⟩) hrb).trans HB.out.2.1
    have b2 := (hbel.cell (p := ⟨R.rb, 2, none⟩) hrb).trans HB.out.2.2
    by_cases hlt : k < 40
    · have hlt' : (k : Int) < 40 := by omega
      rw [hF0] at b0
      go_wp2_with fail
      go_loopw [7] (fun x wr => ∃ q : Nat, q ≤ (R.L 0).length ∧ x = .int .i64 q ∧ Below w.heap.size w wr) (fun x _ => (R.L 0).length - (intOf x).toNat)
      case atStart => exact ⟨0, by omega, rfl, hbel⟩
      case round =>
        obtain ⟨q, hq, rfl, hbel1⟩ := hrel
        clear b0 b1 b2 hbel
        have b0 := (hbel1.cell (p := ⟨R.rb, 0, none⟩) hrb).trans HB.out.1
        have b1 := (hbel1.cell (p := ⟨R.rb, 1, none⟩) hrb).trans HB.out.2.1
        have b2 := (hbel1.cell (p := ⟨R.rb, 2, none⟩) hrb).trans HB.out.2.2
        rw [hF0] at b0
        by_cases hlq : q < (R.L 0).length
        · have hlq' : (q : Int) < ((R.L 0).length : Int) := by omega
          obtain ⟨gb, xg, d, xc, rfl, hdb, hgl, hxl, hrow, hm⟩ := mark_of HR.out (i := 0) (by omega) hF0 hlq (k := k) (by show k < 40; omega)
          have m0 := hm 0 (.int .i64 (lotN k)) (by show 0 < 1; omega) rfl
          rw [show rmCnt 0 = 40 from rfl] at hrow
          rw [show rmSize 0 = 1 from rfl, Nat.mul_one, Nat.add_zero] at m0
          have hsw := hbel1.size
          have hw1 : IntKind.i64.wrap ((d : Int) + 40 - 40) = (d : Int) := by rw [IntKind.wrap_i64]; omega
          have hw2 : IntKind.i64.wrap ((d : Int) + (k : Int)) = (d : Int) + (k : Int) := by rw [IntKind.wrap_i64]; omega
          have hw3 : ¬ (d : Int) + 40 ≤ (d : Int) + (k : Int) := by omega
          have hw5 : (0 : Int) ≤ (d : Int) + (k : Int) := by omega
          have hw6 : (d : Int) + (k : Int) < (d : Int) + 40 := by omega
          have hw8 : IntKind.i64.wrap (d : Int) = (d : Int) := by rw [IntKind.wrap_i64]; omega
          have hw9 : IntKind.i64.wrap ((d : Int) + 40) = (d : Int) + 40 := by rw [IntKind.wrap_i64]; omega
          have hw7 : ((d : Int) + (k : Int)).toNat = d + k := by omega
          have r1 := (hbel1.cell (p := ⟨gb, q, none⟩) hgl).trans hrow
          have n0 := (hbel1.cell (p := ⟨xg, d + k, none⟩) hxl).trans m0
          have HLo := fun W => lot_any k (by omega) W
          have HBe := hid hbel1
          clear hm m0 hrow b1 b2 hbel1
          go_wp2_with fail
          go_region_held (fun W => W.cell? ⟨R.rb, 0, none⟩ = some (.slice (some ⟨gb, 0, none⟩) (R.L 0).length c0) ∧ W.cell? ⟨gb, q, none⟩ = some (.slice (some ⟨xg, 0, none⟩) (d + 40) xc) ∧ W.cell? ⟨xg, d + k, none⟩ = some (.int .i64 (lotN k))) (go_keep)
            (first | (go_at_call 53; refine (HLo _).mono ?_; rintro e w5 ⟨rfl, rfl⟩))
          all_goals
            go_wp2
            go_roundw
            case rel => exact ⟨q + 1, by omega, by go_num, HBe.out.drew⟩
            case measure => simp [intOf]; omega
        · have hlq' : ¬ (q : Int) < ((R.L 0).length : Int) := by omega
          have hbel := hbel1
          clear hbel1
          go_wp2_with fail
          refine wp_loop_rounds 1 ?_
          rw [rounds_succ]
          go_wp2_with fail
          rw [hF2] at b2
          go_loopw [9] (fun x wr2 => ∃ q : Nat, q ≤ (R.L 2).length ∧ x = .int .i64 q ∧ Below w.heap.size w wr2) (fun x _ => (R.L 2).length - (intOf x).toNat)
          case atStart => exact ⟨0, by omega, rfl, hbel⟩
          case round =>
            obtain ⟨q, hq, rfl, hbel2⟩ := hrel
            clear b0 b1 b2 hbel
            have b2 := (hbel2.cell (p := ⟨R.rb, 2, none⟩) hrb).trans HB.out.2.2
            rw [hF2] at b2
            by_cases hlq : q < (R.L 2).length
            · have hlq' : (q : Int) < ((R.L 2).length : Int) := by omega
              obtain ⟨gb, xg, d, xc, rfl, hdb, hgl, hxl, hrow, m0, m1, m2, m3⟩ := mark_at HR.out (i := 2) (by omega) hF2 hlq rfl (k := k) (by show k < 40; omega)
              rw [show rmCnt 2 = 40 from rfl] at hrow
              have hsw := hbel2.size
              have l0 : R.rb < wr.heap.size := by omega
              have l1 : gb < wr.heap.size := by omega
              have l2 : xg < wr.heap.size := by omega
              have hw1 : IntKind.i64.wrap ((d : Int) + 40 - 40) = (d : Int) := by rw [IntKind.wrap_i64]; omega
              have hw2 : IntKind.i64.wrap ((d : Int) + (k : Int)) = ((d + k : Nat) : Int) := by rw [IntKind.wrap_i64]; omega
              have hw3 : ((d + k : Nat) : Int) < (d : Int) + 40 := by omega
              have hw4 : (0 : Int) ≤ ((d + k : Nat) : Int) := by omega
              have r1 := (hbel2.cell (p := ⟨gb, q, none⟩) hgl).trans hrow
              have n0 := (hbel2.cell (p := ⟨xg, (d + k) * 4, none⟩) hxl).trans m0
              have n1 := (hbel2.cell (p := ⟨xg, (d + k) * 4 + 1, none⟩) hxl).trans m1
              have n2 := (hbel2.cell (p := ⟨xg, (d + k) * 4 + 2, none⟩) hxl).trans m2
              have n3 := (hbel2.cell (p := ⟨xg, (d + k) * 4 + 3, none⟩) hxl).trans m3
              go_wp2_with fail
              go_region
              clear b2 r1 n0 n1 n2 n3 hw1 hw2 hw3 hw4
              have HLo := fun W => lot_any k (by omega) W
              go_wp2_with fail
              go_region_with (go_at_call 53; refine (HLo _).mono ?_; rintro e w5 ⟨rfl, rfl⟩)
              all_goals
                go_wp2
                go_roundw
                case rel => exact ⟨q + 1, by omega, by go_num, (hbel2.alloc hsw _).drew.drew⟩
                case measure => simp [intOf]; omega
            · obtain rfl : q = (R.L 2).length := by omega
              have hlq' : ¬ ((R.L 2).length : Int) < ((R.L 2).length : Int) := by omega
              go_wp2
              go_roundw
              case rel => exact ⟨k + 1, by omega, by go_num, hbel2⟩
              case measure => simp [intOf]; omega
    · obtain rfl : k = 40 := by omega
      go_wp2
      go_ret
      exact ⟨rfl, hbel⟩
end Go.Proofs.Ytkodlhjcoeljiaa
