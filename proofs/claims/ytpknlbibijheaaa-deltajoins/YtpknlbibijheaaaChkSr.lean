import Derived.Test.YtpknlbibijheaaaPack10
import Derived.Test.YtpknlbibijheaaaPack31
namespace Go.Proofs.Ytpknlbibijheaaa
open Go.RowKit
set_option maxRecDepth 8000

set_option maxHeartbeats 2000000 in
theorem refCheckState_any (s : ST) (w : World) (S : Nat → Prop) (hin : ST.In w S s) :
    Calls Try.prog 50 #[s.val] w fun e w' => e = .returned (.int .i64 (chkState s)) ∧ Below w.heap.size w w' := by
  have E : Hid (chkState s = if s.num < 0 ∨ 1073741824 < s.num then 26 else if 64 < s.n then 27 else firstC (chkCell s.cell) s.n) := rfl
  generalize chkState s = res at *
  have HI := hid hin
  obtain ⟨num, p, n, c, f⟩ := s
  have hnn := hin.nn
  unfold ST.val
  simp only at E hnn ⊢
  have HW : Hid (Below w.heap.size w (w.alloc (.cells #[.int .i64 num, .slice p n c] 24))) := (Below.refl _ _).alloc (Nat.le_refl _) _
  have HB := hid (Box.new w #[.int .i64 num, .slice p n c] 24)
  clear hin
  by_cases h0 : num < 0
  · have e : Hid (res = 26) := by unfold Hid; rw [E.out, if_pos (.inl h0)]
    go_enter Try.func50, Try.ntmps50
    go_wp2
    go_ret
    exact ⟨by rw [e.out]; rfl, HW.out⟩
  · by_cases h1 : 1073741824 < num
    · have e : Hid (res = 26) := by unfold Hid; rw [E.out, if_pos (.inr h1)]
      go_enter Try.func50, Try.ntmps50
      go_wp2
      go_ret
      exact ⟨by rw [e.out]; rfl, HW.out⟩
    · by_cases h64 : 64 < n
      · have h64' : (64 : Int) < (n : Int) := by omega
        have e : Hid (res = 27) := by unfold Hid; rw [E.out, if_neg (by omega), if_pos h64]
        go_enter Try.func50, Try.ntmps50
        go_wp2
        go_ret
        exact ⟨by rw [e.out]; rfl, HW.out⟩
      · have h64' : ¬ (64 : Int) < (n : Int) := by omega
        have E1 : Hid (res = firstC (chkCell f) n) := by unfold Hid; rw [E.out, if_neg (by omega), if_neg h64]
        go_enter Try.func50, Try.ntmps50
        go_wp2_with fail
        go_loopw [3] (fun x wr => ∃ j : Nat, j ≤ n ∧ x = .int .i64 j ∧ firstC (chkCell f) j = 0 ∧ Box wr w.heap.size #[.int .i64 num, .slice p n c] 24 ∧ Below w.heap.size w wr) (fun x _ => n - (intOf x).toNat)
        case atStart => exact ⟨0, Nat.zero_le _, rfl, rfl, HB.out, HW.out⟩
        case round =>
          obtain ⟨j, hj, rfl, hf, hBx, hbel⟩ := hrel
          have HF := hid hf
          have x1 := hBx.cell 1
          simp at x1
          have hxl := hBx.lt
          have HX := hid (And.intro hBx hbel)
          clear hf hBx
          by_cases hlt : j < n
          · have hlt' : (j : Int) < (n : Int) := by omega
            obtain ⟨bb, o, hp, hSb, hbl, hat⟩ := HI.out.at_ (show 0 < n by omega)
            simp only at hp
            subst hp
            obtain ⟨d0, d1⟩ := (hat j hlt).kept (hbel.block bb hbl)
            simp only at d0 d1
            have hks := (HI.out.each j hlt).fit.s1
            simp only at hks
            have hbl' : bb < wr.heap.size := Nat.lt_of_lt_of_le hbl hbel.size
            have hsw := hbel.size
            obtain ⟨fk, fi, fs, fn, fp, fc, ff, hfe⟩ := (HI.out.each j hlt).mk_
            simp only at hfe
            have HFi : Hid (VT.In wr S (.mk fk fi fs fn fp fc ff)) := by
              have h := (HI.out.each j hlt).kept hbel.size fun b hb hl => hbel.block b hl
              simp only at h
              rw [hfe] at h
              exact h
            have hfn := HFi.out.fit.nn
            simp only [VT.n_mk] at hfn
            have ht : (f j).text = fs := by rw [hfe]; rfl
            have hv : chkVals (f j) = if 6 < fn then 27 else firstC (fun q => (chk (ff q) 0 0).1) fn := by rw [hfe]; rfl
            rw [hfe] at d1
            simp only [VT.p_mk, VT.n_mk, VT.c_mk] at d1
            rw [ht] at d0 hks
            by_cases hk : 12 < fs.size
            · have hk' : (12 : Int) < (fs.size : Int) := by omega
              have hl : chkCell f j = 24 := by unfold chkCell; rw [ht, if_pos hk]
              have e : Hid (res = 24) := by unfold Hid; rw [E1.out, firstC_hit HF.out hlt (by rw [hl]; decide), hl]
              have HB2 : Hid (Below w.heap.size w (wr.alloc (.cells #[.string fs, .slice fp fn fc] 62))) := hbel.alloc hsw _
              clear hat hl hbel hv
              go_wp2
              go_ret
              exact ⟨by rw [e.out]; rfl, HB2.out⟩
            · have hk' : ¬ (12 : Int) < (fs.size : Int) := by omega
              have hB2 : Box (wr.alloc (.cells #[.string fs, .slice fp fn fc] 62)) wr.heap.size #[.string fs, .slice fp fn fc] 62 := Box.new _ _ _
              by_cases hj0 : j = 0
              · subst hj0
                have hl : chkCell f 0 = chkVals (f 0) := by unfold chkCell; rw [ht, if_neg hk, if_neg (by omega)]
                simp only [Nat.zero_mul, Nat.add_zero] at d0 d1
                go_wp2_with fail
                go_region
                all_goals
                  by_cases h6 : 6 < fn
                  · have h6' : (6 : Int) < (fn : Int) := by omega
                    have e : Hid (res = 27) := by unfold Hid; rw [E1.out, firstC_hit HF.out hlt (by rw [hl, hv, if_pos h6]; decide), hl, hv, if_pos h6]
                    have HB3 : Hid (Below w.heap.size w (wr.alloc (.cells #[.string fs, .slice fp fn fc] 62)).drew) := (hbel.alloc hsw _).drew
                    clear hat hl hv hbel
                    go_wp2
                    go_ret
                    exact ⟨by rw [e.out]; rfl, HB3.out⟩
                  · have h6' : ¬ (6 : Int) < (fn : Int) := by omega
                    have HL : Hid (chkCell f (0) = firstC (fun q => (chk (ff q) 0 0).1) fn) := by unfold Hid; rw [hl, hv, if_neg h6]
                    have hB3 : Box (wr.alloc (.cells #[.string fs, .slice fp fn fc] 62)).drew wr.heap.size #[.string fs, .slice fp fn fc] 62 := hB2.below (Below.refl _ _).drew
                    have hb3 : Below wr.heap.size wr (wr.alloc (.cells #[.string fs, .slice fp fn fc] 62)).drew := ((Below.refl _ _).alloc (Nat.le_refl _) _).drew
                    obtain ⟨wo, hwo⟩ : ∃ wo : World, wo = wr := ⟨wr, rfl⟩
                    subst hwo
                    clear hat hl hv hbel hB2 d0 d1
                    go_wp2_with fail
                    go_loopw [5] (fun x wr => ∃ q : Nat, q ≤ fn ∧ x = .int .i64 q ∧ firstC (fun q => (chk (ff q) 0 0).1) q = 0 ∧ Box wr wo.heap.size #[.string fs, .slice fp fn fc] 62 ∧ Below wo.heap.size wo wr) (fun x _ => fn - (intOf x).toNat)
                    case atStart => exact ⟨0, Nat.zero_le _, rfl, rfl, hB3, hb3⟩
                    case round =>
                      obtain ⟨q, hq, rfl, hf2, hB4, hb4⟩ := hrel
                      clear hB3 hb3
                      have HF2 := hid hf2
                      have y1 := hB4.cell 1
                      simp at y1
                      have hyl := hB4.lt
                      have x1' := (hb4.cell (p := ⟨w.heap.size, 1, none⟩) hxl).trans x1
                      have HY := hid (And.intro hB4 hb4)
                      have hs4 := hb4.size
                      clear hf2 hB4 x1
                      by_cases hlq : q < fn
                      · have hlq' : (q : Int) < (fn : Int) := by omega
                        obtain ⟨b2, o2, hp2, hSb2, hbl2, hat2⟩ := HFi.out.at_ (show 0 < (VT.mk fk fi fs fn fp fc ff).n from by simp only [VT.n]; omega)
                        simp only [VT.p_mk] at hp2
                        subst hp2
                        obtain ⟨z0, z1, z2, z3⟩ := (hat2 q hlq).kept (hb4.block b2 hbl2)
                        simp only [VT.item_mk] at z0 z1 z2 z3
                        have HC : Hid (Calls Try.prog 76 #[(ff q).val] wr fun e w' => e = .returned (.int .i64 (chk (ff q) 0 0).1) ∧ Below wr.heap.size wr w') :=
                          refCheck_any (ff q) wr S ((HFi.out.sub hlq).kept hb4.size fun b hb hl => hb4.block b hl)
                        unfold VT.val at HC
                        clear hat2 hb4
                        go_wp2_with fail
                        refine HC.out.mono ?_
                        rintro e w2 ⟨rfl, hb2⟩
                        have HB2 : Hid (Box w2 wo.heap.size #[.string fs, .slice (some ⟨b2, o2, none⟩) fn fc] 62 ∧ Below wo.heap.size wo w2) := ⟨HY.out.1.below hb2, HY.out.2.trans (hb2.mono hs4)⟩
                        have HB5 : Hid (Below w.heap.size w w2) := HX.out.2.trans (HB2.out.2.mono hsw)
                        clear hb2 z0 z1 z2 z3
                        by_cases hc : (chk (ff q) 0 0).1 = 0
                        · have HF3 : Hid (firstC (fun q => (chk (ff q) 0 0).1) (q + 1) = 0) := by unfold Hid; rw [firstC_succ HF2.out]; exact hc
                          rw [hc]
                          clear hc
                          go_wp2
                          go_roundw
                          case rel => exact ⟨q + 1, by omega, by go_num, HF3.out, HB2.out.1, HB2.out.2⟩
                          case measure => simp [intOf]; omega
                        · have hc' : ¬ ((chk (ff q) 0 0).1 : Int) = 0 := by omega
                          have e : Hid (res = (chk (ff q) 0 0).1) := by unfold Hid; rw [E1.out, firstC_hit HF.out hlt (by rw [HL.out, firstC_hit HF2.out hlq hc]; exact hc), HL.out, firstC_hit HF2.out hlq hc]
                          go_wp2
                          go_ret
                          exact ⟨by rw [e.out]; rfl, HB5.out⟩
                      · have hqe : q = fn := by omega
                        have hlq' : ¬ (q : Int) < (fn : Int) := by omega
                        have HF3 : Hid (firstC (chkCell f) (0 + 1) = 0) := by unfold Hid; rw [firstC_succ HF.out, HL.out, ← hqe]; exact HF2.out
                        have HB2 : Hid (Box wr w.heap.size #[.int .i64 num, .slice (some ⟨bb, o, none⟩) n c] 24 ∧ Below w.heap.size w wr) := ⟨HX.out.1.below hb4, HX.out.2.trans (hb4.mono hsw)⟩
                        clear hb4
                        go_wp2
                        go_roundw
                        case rel => exact ⟨0 + 1, by omega, by go_num, HF3.out, HB2.out.1, HB2.out.2⟩
                        case measure => simp [intOf]; omega
              · obtain ⟨m, rfl⟩ : ∃ m, j = m + 1 := ⟨j - 1, by omega⟩
                have c0 := ((hat m (show m < n by omega)).kept (hbel.block bb hbl)).c0
                simp only at c0
                cases hb : Op.bytesLess (f m).text.toList fs.toList with
                | false =>
                  have hl : chkCell f (m + 1) = 27 := by unfold chkCell; rw [ht, if_neg hk, if_pos ⟨by omega, hb⟩]
                  have e : Hid (res = 27) := by unfold Hid; rw [E1.out, firstC_hit HF.out hlt (by rw [hl]; decide), hl]
                  have HB2 : Hid (Below w.heap.size w (wr.alloc (.cells #[.string fs, .slice fp fn fc] 62)).drew) := (hbel.alloc hsw _).drew
                  clear hat hl hbel hv
                  go_wp2_with fail
                  go_region
                  all_goals
                    go_wp2
                    go_ret
                    exact ⟨by rw [e.out]; rfl, HB2.out⟩
                | true =>
                  have hl : chkCell f (m + 1) = chkVals (f (m + 1)) := by unfold chkCell; rw [ht, if_neg hk, if_neg (by intro h; rw [Nat.add_sub_cancel, hb] at h; cases h.2)]
                  go_wp2_with fail
                  go_region
                  all_goals
                    by_cases h6 : 6 < fn
                    · have h6' : (6 : Int) < (fn : Int) := by omega
                      have e : Hid (res = 27) := by unfold Hid; rw [E1.out, firstC_hit HF.out hlt (by rw [hl, hv, if_pos h6]; decide), hl, hv, if_pos h6]
                      have HB3 : Hid (Below w.heap.size w (wr.alloc (.cells #[.string fs, .slice fp fn fc] 62)).drew) := (hbel.alloc hsw _).drew
                      clear hat hl hv hbel
                      go_wp2
                      go_ret
                      exact ⟨by rw [e.out]; rfl, HB3.out⟩
                    · have h6' : ¬ (6 : Int) < (fn : Int) := by omega
                      have HL : Hid (chkCell f (m + 1) = firstC (fun q => (chk (ff q) 0 0).1) fn) := by unfold Hid; rw [hl, hv, if_neg h6]
                      have hB3 : Box (wr.alloc (.cells #[.string fs, .slice fp fn fc] 62)).drew wr.heap.size #[.string fs, .slice fp fn fc] 62 := hB2.below (Below.refl _ _).drew
                      have hb3 : Below wr.heap.size wr (wr.alloc (.cells #[.string fs, .slice fp fn fc] 62)).drew := ((Below.refl _ _).alloc (Nat.le_refl _) _).drew
                      obtain ⟨wo, hwo⟩ : ∃ wo : World, wo = wr := ⟨wr, rfl⟩
                      subst hwo
                      clear hat hl hv hbel hB2 d0 d1
                      go_wp2_with fail
                      go_loopw [5] (fun x wr => ∃ q : Nat, q ≤ fn ∧ x = .int .i64 q ∧ firstC (fun q => (chk (ff q) 0 0).1) q = 0 ∧ Box wr wo.heap.size #[.string fs, .slice fp fn fc] 62 ∧ Below wo.heap.size wo wr) (fun x _ => fn - (intOf x).toNat)
                      case atStart => exact ⟨0, Nat.zero_le _, rfl, rfl, hB3, hb3⟩
                      case round =>
                        obtain ⟨q, hq, rfl, hf2, hB4, hb4⟩ := hrel
                        clear hB3 hb3
                        have HF2 := hid hf2
                        have y1 := hB4.cell 1
                        simp at y1
                        have hyl := hB4.lt
                        have x1' := (hb4.cell (p := ⟨w.heap.size, 1, none⟩) hxl).trans x1
                        have HY := hid (And.intro hB4 hb4)
                        have hs4 := hb4.size
                        clear hf2 hB4 x1
                        by_cases hlq : q < fn
                        · have hlq' : (q : Int) < (fn : Int) := by omega
                          obtain ⟨b2, o2, hp2, hSb2, hbl2, hat2⟩ := HFi.out.at_ (show 0 < (VT.mk fk fi fs fn fp fc ff).n from by simp only [VT.n]; omega)
                          simp only [VT.p_mk] at hp2
                          subst hp2
                          obtain ⟨z0, z1, z2, z3⟩ := (hat2 q hlq).kept (hb4.block b2 hbl2)
                          simp only [VT.item_mk] at z0 z1 z2 z3
                          have HC : Hid (Calls Try.prog 76 #[(ff q).val] wr fun e w' => e = .returned (.int .i64 (chk (ff q) 0 0).1) ∧ Below wr.heap.size wr w') :=
                            refCheck_any (ff q) wr S ((HFi.out.sub hlq).kept hb4.size fun b hb hl => hb4.block b hl)
                          unfold VT.val at HC
                          clear hat2 hb4
                          go_wp2_with fail
                          refine HC.out.mono ?_
                          rintro e w2 ⟨rfl, hb2⟩
                          have HB2 : Hid (Box w2 wo.heap.size #[.string fs, .slice (some ⟨b2, o2, none⟩) fn fc] 62 ∧ Below wo.heap.size wo w2) := ⟨HY.out.1.below hb2, HY.out.2.trans (hb2.mono hs4)⟩
                          have HB5 : Hid (Below w.heap.size w w2) := HX.out.2.trans (HB2.out.2.mono hsw)
                          clear hb2 z0 z1 z2 z3
                          by_cases hc : (chk (ff q) 0 0).1 = 0
                          · have HF3 : Hid (firstC (fun q => (chk (ff q) 0 0).1) (q + 1) = 0) := by unfold Hid; rw [firstC_succ HF2.out]; exact hc
                            rw [hc]
                            clear hc
                            go_wp2
                            go_roundw
                            case rel => exact ⟨q + 1, by omega, by go_num, HF3.out, HB2.out.1, HB2.out.2⟩
                            case measure => simp [intOf]; omega
                          · have hc' : ¬ ((chk (ff q) 0 0).1 : Int) = 0 := by omega
                            have e : Hid (res = (chk (ff q) 0 0).1) := by unfold Hid; rw [E1.out, firstC_hit HF.out hlt (by rw [HL.out, firstC_hit HF2.out hlq hc]; exact hc), HL.out, firstC_hit HF2.out hlq hc]
                            go_wp2
                            go_ret
                            exact ⟨by rw [e.out]; rfl, HB5.out⟩
                        · have hqe : q = fn := by omega
                          have hlq' : ¬ (q : Int) < (fn : Int) := by omega
                          have HF3 : Hid (firstC (chkCell f) (m + 1 + 1) = 0) := by unfold Hid; rw [firstC_succ HF.out, HL.out, ← hqe]; exact HF2.out
                          have HB2 : Hid (Box wr w.heap.size #[.int .i64 num, .slice (some ⟨bb, o, none⟩) n c] 24 ∧ Below w.heap.size w wr) := ⟨HX.out.1.below hb4, HX.out.2.trans (hb4.mono hsw)⟩
                          clear hb4
                          go_wp2
                          go_roundw
                          case rel => exact ⟨m + 1 + 1, by omega, by go_num, HF3.out, HB2.out.1, HB2.out.2⟩
                          case measure => simp [intOf]; omega
          · have hje : j = n := by omega
            have e : Hid (res = 0) := by unfold Hid; rw [E1.out, ← hje]; exact HF.out
            have hlt' : ¬ (j : Int) < (n : Int) := by omega
            go_wp2
            go_ret
            exact ⟨by rw [e.out]; rfl, hbel⟩
end Go.Proofs.Ytpknlbibijheaaa
