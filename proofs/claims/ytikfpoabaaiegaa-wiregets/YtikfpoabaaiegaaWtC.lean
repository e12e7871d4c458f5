import Derived.Test.YtikfpoabaaiegaaPack44
import Derived.Test.YtikfpoabaaiegaaPack45
namespace Go.Proofs.Ytikfpoabaaiegaa
open Go.RowKit
set_option maxRecDepth 8000
def CellsAlike (l u : LT VT) : Prop := u.n = l.n ∧ ∀ j, j < l.n → CAlike (l.item j) (u.item j)
set_option maxHeartbeats 4000000 in
theorem yCells (l u : LT VT) (w : World) (S R : Nat → Prop) (hl : LT.In elCell w S l) (hu : LT.In elCell w R u) :
    Calls Try.prog 34 #[.slice l.p l.n l.c, .slice u.p u.n u.c] w fun e w' => YesNo (CellsAlike l u) e w w' := by
  obtain ⟨p, n, c, f⟩ := l
  obtain ⟨p2, n2, c2, f2⟩ := u
  have hnn := hl.nn
  have H := hid hl
  have H' := hid hu
  simp only at hnn ⊢
  clear hl hu
  by_cases hn : n = n2
  case neg =>
    have hn' := int_ne hn
    have HN : Hid (¬ CellsAlike ⟨p, n, c, f⟩ ⟨p2, n2, c2, f2⟩) := fun h => hn h.1.symm
    go_enter Try.func34, Try.ntmps34
    go_wp2
    go_ret
    exact yn_no HN.out (Below.refl _ _)
  subst hn
  go_enter Try.func34, Try.ntmps34
  go_wp2_with fail
  go_loopw [5] (fun x wr => ∃ j : Nat, j ≤ n ∧ x = .int .i64 j ∧ (∀ q, q < j → CAlike (f q) (f2 q)) ∧ Below w.heap.size w wr) (fun x _ => n - (intOf x).toNat)
  case atStart => exact ⟨0, Nat.zero_le _, rfl, fun q hq => absurd hq (by omega), Below.refl _ _⟩
  case round =>
    obtain ⟨j, hj, rfl, hA, hbel⟩ := hrel
    have HA := hid hA
    have HB := hid hbel
    clear hA
    by_cases hlt : j < n
    · have hlt' : (j : Int) < (n : Int) := by omega
      obtain ⟨b1, o1, hp, _, hl1, ha⟩ := H.out.at_ (show 0 < n by omega)
      obtain ⟨b2, o2, hp', _, hl2, ha'⟩ := H'.out.at_ (show 0 < n by omega)
      simp only at hp hp'
      subst hp hp'
      have hca : ∀ r u, (elCell.cells (f j))[r]? = some u → w.cell? ⟨b1, o1 + j * 2 + r, none⟩ = some u := fun r u hu => ha j hlt r u hu
      have hcb : ∀ r u, (elCell.cells (f2 j))[r]? = some u → w.cell? ⟨b2, o2 + j * 2 + r, none⟩ = some u := fun r u hu => ha' j hlt r u hu
      have q0 := hca 0 _ rfl
      have q1 := hca 1 _ rfl
      have r0 := hcb 0 _ rfl
      have r1 := hcb 1 _ rfl
      simp only [Nat.add_zero] at q0 r0
      have HQ1 := hid q1
      have HR1 := hid r1
      have a0 := (World.cell?_of_block (a := ⟨b1, o1 + j * 2, none⟩) (hbel.block b1 hl1)).trans q0
      have a1 := (World.cell?_of_block (a := ⟨b1, o1 + j * 2 + 1, none⟩) (hbel.block b1 hl1)).trans q1
      have e0 := (World.cell?_of_block (a := ⟨b2, o2 + j * 2, none⟩) (hbel.block b2 hl2)).trans r0
      have e1 := (World.cell?_of_block (a := ⟨b2, o2 + j * 2 + 1, none⟩) (hbel.block b2 hl2)).trans r1
      have hI : VT.In w S (f j) := H.out.each j hlt
      have hU : VT.In w R (f2 j) := H'.out.each j hlt
      obtain ⟨xk, xi, xs, xn, xp, xc, xf, hx⟩ := hI.mk_
      obtain ⟨yk, yi, ys, yn, yp, yc, yf, hy⟩ := hU.mk_
      rw [hx] at hI a0 a1 HQ1
      rw [hy] at hU e0 e1 HR1
      simp only [VT.text_mk, VT.p_mk, VT.n_mk, VT.c_mk] at a0 a1 e0 e1 HQ1 HR1
      have hxn := hI.fit.nn
      simp only [VT.n_mk] at hxn
      have HI := hid hI
      have HU := hid hU
      clear ha ha' hbel hca hcb q0 q1 r0 r1 hI hU
      by_cases hs : xs = ys
      case neg =>
        have hs' := str_ne hs
        have HN : Hid (¬ CellsAlike ⟨some ⟨b1, o1, none⟩, n, c, f⟩ ⟨some ⟨b2, o2, none⟩, n, c2, f2⟩) := fun h => hs (by have := (h.2 j hlt).text; simp only [hx, hy, VT.text_mk] at this; exact this.symm)
        clear hs hx hy
        go_wp2_with fail
        go_region
        all_goals
          go_wp2
          go_ret
          exact yn_no HN.out HB.out.drew
      by_cases hm : xn = yn
      case neg =>
        have hm' := int_ne hm
        have HN : Hid (¬ CellsAlike ⟨some ⟨b1, o1, none⟩, n, c, f⟩ ⟨some ⟨b2, o2, none⟩, n, c2, f2⟩) := fun h => hm (by have := (h.2 j hlt).n; simp only [hx, hy, VT.n_mk] at this; exact this.symm)
        subst hs
        clear hm hx hy
        go_wp2_with fail
        go_region
        all_goals
          go_wp2
          go_ret
          exact yn_no HN.out HB.out.drew
      subst hs hm
      go_wp2_with fail
      go_region
      all_goals
        go_wp2_with fail
        all_goals
          go_loopw [6] (fun x wr => ∃ m : Nat, m ≤ xn ∧ x = .int .i64 m ∧ (∀ i, i < m → VT.Alike (xf i) (yf i)) ∧ Below w.heap.size w wr) (fun x _ => xn - (intOf x).toNat)
          case atStart => exact ⟨0, Nat.zero_le _, rfl, fun q hq => absurd hq (by omega), HB.out.drew⟩
          case round =>
            obtain ⟨m, hm, rfl, hM, hbq⟩ := hrel
            have HM := hid hM
            have HBq := hid hbq
            clear hM a0 a1 e0 e1
            have a1 := (World.cell?_of_block (a := ⟨b1, o1 + j * 2 + 1, none⟩) (hbq.block b1 hl1)).trans HQ1.out
            have e1 := (World.cell?_of_block (a := ⟨b2, o2 + j * 2 + 1, none⟩) (hbq.block b2 hl2)).trans HR1.out
            by_cases hlm : m < xn
            · have hlm' : (m : Int) < (xn : Int) := by omega
              obtain ⟨bb, oo, hp3, hSb, hbl3, hat⟩ := HI.out.at_ (show 0 < (VT.mk xk xi xs xn xp xc xf).n from by simp only [VT.n]; omega)
              obtain ⟨bb2, oo2, hp4, hSb2, hbl4, hat2⟩ := HU.out.at_ (show 0 < (VT.mk yk yi xs xn yp yc yf).n from by simp only [VT.n]; omega)
              simp only [VT.p_mk] at hp3 hp4
              subst hp3 hp4
              obtain ⟨c0, c1, c2', c3⟩ := (hat m hlm).kept (hbq.block bb hbl3)
              obtain ⟨d0, d1, d2, d3⟩ := (hat2 m hlm).kept (hbq.block bb2 hbl4)
              simp only [VT.item_mk] at c0 c1 c2' c3 d0 d1 d2 d3
              have HC : Hid (∀ W, Below wr.heap.size wr W → Calls Try.prog 84 #[(xf m).val, (yf m).val] W fun e w' => YesNo (VT.Alike (xf m) (yf m)) e W w') := fun W hW =>
                yValue (xf m) (yf m) W (fun b => S b ∧ b < w.heap.size) (fun b => R b ∧ b < w.heap.size) ((((HI.out.sub hlm).mono fun b hb hl => ⟨hb, hl⟩).kept hbq.size (fun b hb _ => hbq.block b hb.2)).below hW) ((((HU.out.sub hlm).mono fun b hb hl => ⟨hb, hl⟩).kept hbq.size (fun b hb _ => hbq.block b hb.2)).below hW)
              unfold VT.val at HC
              have HW : Hid (∀ w4, Below wr.heap.size wr.drew w4 → Below w.heap.size w w4) := fun w4 hb4 => HBq.out.trans ((((Below.refl wr.heap.size wr).drew.trans hb4)).mono HBq.out.size)
              clear hat hat2 hbq
              go_wp2_with fail
              go_region_with (go_at_call 84; refine (HC.out _ ?_).mono ?_; exact (Below.refl _ _).drew; intro e w4 hP4; obtain ⟨r4, rfl, hr4, hb4⟩ := hP4)
              all_goals
                cases r4 with
                | false =>
                  have HN : Hid (¬ CellsAlike ⟨some ⟨b1, o1, none⟩, n, c, f⟩ ⟨some ⟨b2, o2, none⟩, n, c2, f2⟩) := fun h => absurd (hr4.2 (by have := (h.2 j hlt).item m (by simp only [hx, VT.n_mk]; exact hlm); simp only [hx, hy, VT.item_mk] at this; exact this)) (by decide)
                  have HBe := hid (HW.out w4 hb4)
                  clear hr4 hb4
                  go_wp2
                  go_ret
                  exact yn_no HN.out HBe.out
                | true =>
                  have HM2 : Hid (∀ i, i < m + 1 → VT.Alike (xf i) (yf i)) := fun q hq => by
                    by_cases h : q < m
                    · exact HM.out q h
                    · obtain rfl : q = m := by omega
                      exact hr4.1 rfl
                  have HBe := hid (HW.out w4 hb4)
                  clear hr4 hb4
                  go_wp2
                  go_roundw
                  case rel => exact ⟨m + 1, by omega, by go_num, HM2.out, HBe.out⟩
                  case measure => simp [intOf]; omega
            · obtain rfl : m = xn := by omega
              have hlm' : ¬ (m : Int) < (m : Int) := by omega
              have HA2 : Hid (∀ q, q < j + 1 → CAlike (f q) (f2 q)) := fun q hq => by
                by_cases h : q < j
                · exact HA.out q h
                · obtain rfl : q = j := by omega
                  rw [hx, hy]
                  exact ⟨rfl, rfl, HM.out⟩
              clear hbq
              go_wp2
              go_roundw
              case rel => exact ⟨j + 1, by omega, by go_num, HA2.out, HBq.out⟩
              case measure => simp [intOf]; omega
    · obtain rfl : j = n := by omega
      have hlt' : ¬ (j : Int) < (j : Int) := by omega
      clear hbel
      go_wp2
      go_ret
      exact yn_yes ⟨rfl, HA.out⟩ HB.out
end Go.Proofs.Ytikfpoabaaiegaa
