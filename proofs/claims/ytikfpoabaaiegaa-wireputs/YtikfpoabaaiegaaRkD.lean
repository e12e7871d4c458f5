import Derived.Test.YtikfpoabaaiegaaPack38
namespace Go.Proofs.Ytikfpoabaaiegaa
open Go.RowKit
set_option maxRecDepth 8000
set_option maxHeartbeats 4000000 in
theorem fs_rest (g : GI) (w : World) (S : Nat → Prop) (hin : GI.In w S g) (h : bnd g) (ho : other g = false) (res : Nat) (HE : Hid (res = if chkKept g = 0 then (if chkLogs g = 0 then chkRecs g.pend else chkLogs g) else chkKept g)) : Calls Try.prog 47 #[g.val] w fun x w' => errPost (res) w x w' := by
  have hbx := Box.new w #[.int .i64 g.id, .int .i64 g.task, .int .i64 g.base, .int .u32 (g.sum : Int), .int .i64 g.st.num, .slice g.st.p g.st.n g.st.c, .int .i64 g.dnum, .slice g.set.p g.set.n g.set.c, .slice g.gone.p g.gone.n g.gone.c, .slice g.logs.p g.logs.n g.logs.c, .slice g.pend.p g.pend.n g.pend.c] 38
  have c0 := (hbx).cell 0
  have c1 := (hbx).cell 1
  have c2 := (hbx).cell 2
  have c3 := (hbx).cell 3
  have c4 := (hbx).cell 4
  have c5 := (hbx).cell 5
  have c6 := (hbx).cell 6
  have c7 := (hbx).cell 7
  have c8 := (hbx).cell 8
  have c9 := (hbx).cell 9
  have c10 := (hbx).cell 10
  simp only [List.getElem?_toArray, List.getElem?_cons_zero, List.getElem?_cons_succ] at c0 c1 c2 c3 c4 c5 c6 c7 c8 c9 c10
  have HA : Hid (Below w.heap.size w (w.alloc (.cells #[.int .i64 g.id, .int .i64 g.task, .int .i64 g.base, .int .u32 (g.sum : Int), .int .i64 g.st.num, .slice g.st.p g.st.n g.st.c, .int .i64 g.dnum, .slice g.set.p g.set.n g.set.c, .slice g.gone.p g.gone.n g.gone.c, .slice g.logs.p g.logs.n g.logs.c, .slice g.pend.p g.pend.n g.pend.c] 38))) := (Below.refl _ _).alloc (Nat.le_refl _) _
  have HO1 := hid (refOut_any g.id 9999 (w.alloc (.cells #[.int .i64 g.id, .int .i64 g.task, .int .i64 g.base, .int .u32 (g.sum : Int), .int .i64 g.st.num, .slice g.st.p g.st.n g.st.c, .int .i64 g.dnum, .slice g.set.p g.set.n g.set.c, .slice g.gone.p g.gone.n g.gone.c, .slice g.logs.p g.logs.n g.logs.c, .slice g.pend.p g.pend.n g.pend.c] 38)))
  have HO2 := hid (refOut_any g.task 11 (w.alloc (.cells #[.int .i64 g.id, .int .i64 g.task, .int .i64 g.base, .int .u32 (g.sum : Int), .int .i64 g.st.num, .slice g.st.p g.st.n g.st.c, .int .i64 g.dnum, .slice g.set.p g.set.n g.set.c, .slice g.gone.p g.gone.n g.gone.c, .slice g.logs.p g.logs.n g.logs.c, .slice g.pend.p g.pend.n g.pend.c] 38)))
  have HO3 := hid (refOut_any g.base 9999 (w.alloc (.cells #[.int .i64 g.id, .int .i64 g.task, .int .i64 g.base, .int .u32 (g.sum : Int), .int .i64 g.st.num, .slice g.st.p g.st.n g.st.c, .int .i64 g.dnum, .slice g.set.p g.set.n g.set.c, .slice g.gone.p g.gone.n g.gone.c, .slice g.logs.p g.logs.n g.logs.c, .slice g.pend.p g.pend.n g.pend.c] 38)))
  have hal : Below (w.alloc (.cells #[.int .i64 g.id, .int .i64 g.task, .int .i64 g.base, .int .u32 (g.sum : Int), .int .i64 g.st.num, .slice g.st.p g.st.n g.st.c, .int .i64 g.dnum, .slice g.set.p g.set.n g.set.c, .slice g.gone.p g.gone.n g.gone.c, .slice g.logs.p g.logs.n g.logs.c, .slice g.pend.p g.pend.n g.pend.c] 38)).heap.size (w.alloc (.cells #[.int .i64 g.id, .int .i64 g.task, .int .i64 g.base, .int .u32 (g.sum : Int), .int .i64 g.st.num, .slice g.st.p g.st.n g.st.c, .int .i64 g.dnum, .slice g.set.p g.set.n g.set.c, .slice g.gone.p g.gone.n g.gone.c, .slice g.logs.p g.logs.n g.logs.c, .slice g.pend.p g.pend.n g.pend.c] 38)) ((w.alloc (.cells #[.int .i64 g.id, .int .i64 g.task, .int .i64 g.base, .int .u32 (g.sum : Int), .int .i64 g.st.num, .slice g.st.p g.st.n g.st.c, .int .i64 g.dnum, .slice g.set.p g.set.n g.set.c, .slice g.gone.p g.gone.n g.gone.c, .slice g.logs.p g.logs.n g.logs.c, .slice g.pend.p g.pend.n g.pend.c] 38)).alloc (.cells #[.int .i64 g.dnum, .slice g.set.p g.set.n g.set.c, .slice g.gone.p g.gone.n g.gone.c] 34)) := (Below.refl _ _).alloc (Nat.le_refl _) _
  have HB2 : Hid (Below w.heap.size w ((w.alloc (.cells #[.int .i64 g.id, .int .i64 g.task, .int .i64 g.base, .int .u32 (g.sum : Int), .int .i64 g.st.num, .slice g.st.p g.st.n g.st.c, .int .i64 g.dnum, .slice g.set.p g.set.n g.set.c, .slice g.gone.p g.gone.n g.gone.c, .slice g.logs.p g.logs.n g.logs.c, .slice g.pend.p g.pend.n g.pend.c] 38)).alloc (.cells #[.int .i64 g.dnum, .slice g.set.p g.set.n g.set.c, .slice g.gone.p g.gone.n g.gone.c] 34))) := HA.out.trans (hal.mono HA.out.size)
  have hx2 := hbx.below hal
  have hd2 := Box.new (w.alloc (.cells #[.int .i64 g.id, .int .i64 g.task, .int .i64 g.base, .int .u32 (g.sum : Int), .int .i64 g.st.num, .slice g.st.p g.st.n g.st.c, .int .i64 g.dnum, .slice g.set.p g.set.n g.set.c, .slice g.gone.p g.gone.n g.gone.c, .slice g.logs.p g.logs.n g.logs.c, .slice g.pend.p g.pend.n g.pend.c] 38)) #[.int .i64 g.dnum, .slice g.set.p g.set.n g.set.c, .slice g.gone.p g.gone.n g.gone.c] 34
  have hws : (w.alloc (.cells #[.int .i64 g.id, .int .i64 g.task, .int .i64 g.base, .int .u32 (g.sum : Int), .int .i64 g.st.num, .slice g.st.p g.st.n g.st.c, .int .i64 g.dnum, .slice g.set.p g.set.n g.set.c, .slice g.gone.p g.gone.n g.gone.c, .slice g.logs.p g.logs.n g.logs.c, .slice g.pend.p g.pend.n g.pend.c] 38)).heap.size = w.heap.size + 1 := by simp
  rw [hws] at hd2
  have e0 := (hx2).cell 0
  have e1 := (hx2).cell 1
  have e2 := (hx2).cell 2
  have e3 := (hx2).cell 3
  have e4 := (hx2).cell 4
  have e5 := (hx2).cell 5
  have e6 := (hx2).cell 6
  have e7 := (hx2).cell 7
  have e8 := (hx2).cell 8
  have e9 := (hx2).cell 9
  have e10 := (hx2).cell 10
  simp only [List.getElem?_toArray, List.getElem?_cons_zero, List.getElem?_cons_succ] at e0 e1 e2 e3 e4 e5 e6 e7 e8 e9 e10
  have f0 := (hd2).cell 0
  have f1 := (hd2).cell 1
  have f2 := (hd2).cell 2
  simp only [List.getElem?_toArray, List.getElem?_cons_zero, List.getElem?_cons_succ] at f0 f1 f2
  have HX := hid hx2
  have HD := hid hd2
  have hlx := hx2.lt
  unfold GI.val
  clear hbx hal hws hx2 hd2
  go_enter Try.func47, Try.ntmps47
  go_wp2_with fail
  refine HO1.out.mono ?_
  rintro x w1 ⟨rfl, hw1⟩
  subst w1
  rw [dec_in h.1]
  go_wp2_with fail
  refine HO2.out.mono ?_
  rintro x w1 ⟨rfl, hw1⟩
  subst w1
  rw [dec_in h.2.1]
  go_wp2_with fail
  refine HO3.out.mono ?_
  rintro x w1 ⟨rfl, hw1⟩
  subst w1
  rw [dec_in h.2.2]
  clear HO1 HO2 HO3
  go_upto_region 4 with fail
  obtain ⟨W, hW⟩ : ∃ W, W = ((w.alloc (.cells #[.int .i64 g.id, .int .i64 g.task, .int .i64 g.base, .int .u32 (g.sum : Int), .int .i64 g.st.num, .slice g.st.p g.st.n g.st.c, .int .i64 g.dnum, .slice g.set.p g.set.n g.set.c, .slice g.gone.p g.gone.n g.gone.c, .slice g.logs.p g.logs.n g.logs.c, .slice g.pend.p g.pend.n g.pend.c] 38)).alloc (.cells #[.int .i64 g.dnum, .slice g.set.p g.set.n g.set.c, .slice g.gone.p g.gone.n g.gone.c] 34)) := ⟨_, rfl⟩
  rw [← hW] at HB2 HX HD hlx e0 e1 e2 e3 e4 e5 e6 e7 e8 e9 e10 f0 f1 f2 ⊢
  obtain ⟨q, hq⟩ : ∃ q, q = w.heap.size := ⟨_, rfl⟩
  rw [← hq] at HX HD hlx e0 e1 e2 e3 e4 e5 e6 e7 e8 e9 e10 f0 f1 f2 ⊢
  clear hW hq c0 c1 c2 c3 c4 c5 c6 c7 c8 c9 c10
  go_cut [4] (fun s wx => s = .bool ((g.dnum == 0) && (((g.set.n : Int) == 0) && ((g.gone.n : Int) == 0))) ∧ wx = W)
  case first =>
    cases b1 : (g.dnum == 0)
    · go_wp2_with fail
      all_goals go_meet
      all_goals exact ⟨by simp [*], rfl⟩
    · cases b2 : ((g.set.n : Int) == 0)
      · go_wp2_with fail
        all_goals go_meet
        all_goals exact ⟨by simp [*], rfl⟩
      · cases b3 : ((g.gone.n : Int) == 0)
        all_goals go_wp2_with fail
        all_goals go_meet
        all_goals exact ⟨by simp [*], rfl⟩
  case rest =>
    obtain ⟨hs4, hwc⟩ := hcut
    subst hs4
    rw [hwc]
    clear hwc
    go_upto_region 5 with fail
    go_cut [5] (fun s wx => s = .bool ((g.st.num == 0) && ((g.st.n : Int) == 0)) ∧ wx = W)
    case first =>
      cases b1 : (g.st.num == 0)
      · go_wp2_with fail
        all_goals go_meet
        all_goals exact ⟨by simp [*], rfl⟩
      · cases b2 : ((g.st.n : Int) == 0)
        all_goals go_wp2_with fail
        all_goals go_meet
        all_goals exact ⟨by simp [*], rfl⟩
    case rest =>
      obtain ⟨hs5, hwc⟩ := hcut
      subst hs5
      rw [hwc]
      clear hwc
      generalize hnd : ((g.dnum == 0) && (((g.set.n : Int) == 0) && ((g.gone.n : Int) == 0))) = nd
      generalize hns : ((g.st.num == 0) && ((g.st.n : Int) == 0)) = ns
      go_upto_region 6 with fail
      go_cut [69] (fun s wx => s = .bool false ∧ wx = W)
      case first =>
        by_cases hb0 : g.base = 0
        · have b0 : (g.base == 0) = true := by simpa using hb0
          have bp : ¬ (0 : Int) < g.base := by omega
          have hh := ho
          unfold other at hh
          rw [if_pos hb0] at hh
          simp only [Bool.or_eq_false_iff, decide_eq_false_iff_not] at hh
          have s0 : ((g.sum : Int) != 0) = false := hh.1
          have nd1 : nd = true := by
            rw [← hnd]
            have h1 := hh.2.1
            have h2 := hh.2.2.1
            have h3 := hh.2.2.2
            simp at h1
            simp
            omega
          subst nd1
          clear hnd hns hh ho hb0
          go_wp2_with fail
          all_goals go_meet
          all_goals exact ⟨rfl, rfl⟩
        · have b0 : (g.base == 0) = false := by simpa using hb0
          have bp : (0 : Int) < g.base := by have := h.2.2.1; omega
          have hh := ho
          unfold other at hh
          rw [if_neg hb0] at hh
          simp only [Bool.or_eq_false_iff, decide_eq_false_iff_not] at hh
          have ns1 : ns = true := by
            rw [← hns]
            have h1 := hh.1
            have h3 := hh.2
            simp at h1
            simp
            omega
          subst ns1
          clear hnd hns hh ho hb0
          go_wp2_with fail
          all_goals go_meet
          all_goals exact ⟨rfl, rfl⟩
      case rest =>
        obtain ⟨hs69, hwc⟩ := hcut
        subst hs69
        rw [hwc]
        clear hwc
        have HIn : Hid (∀ V, Below w.heap.size w V → GI.In V S g) := fun V hV => hin.below hV
        have HC1 := hid (refCheckState_any g.st W S (HIn.out W HB2.out).st.i)
        unfold ST.val at HC1
        clear hnd hns hin
        go_wp2_with fail
        refine HC1.out.mono ?_
        rintro x w3 ⟨rfl, hb3⟩
        have HB3 := hid (HB2.out.trans (hb3.mono HB2.out.size))
        have hx3 := HX.out.below hb3
        have hd3 := HD.out.below hb3
        have e0 := (hx3).cell 0
        have e1 := (hx3).cell 1
        have e2 := (hx3).cell 2
        have e3 := (hx3).cell 3
        have e4 := (hx3).cell 4
        have e5 := (hx3).cell 5
        have e6 := (hx3).cell 6
        have e7 := (hx3).cell 7
        have e8 := (hx3).cell 8
        have e9 := (hx3).cell 9
        have e10 := (hx3).cell 10
        simp only [List.getElem?_toArray, List.getElem?_cons_zero, List.getElem?_cons_succ] at e0 e1 e2 e3 e4 e5 e6 e7 e8 e9 e10
        have f0 := (hd3).cell 0
        have f1 := (hd3).cell 1
        have f2 := (hd3).cell 2
        simp only [List.getElem?_toArray, List.getElem?_cons_zero, List.getElem?_cons_succ] at f0 f1 f2
        have HX3 := hid hx3
        have HD3 := hid hd3
        clear hb3 hx3 hd3 HX HD HC1
        go_upto_if 75 with fail
        go_cut [6] (fun s wx => s = .int .i64 (chkKept g : Int) ∧ Below w.heap.size w wx ∧ Box wx q #[.int .i64 g.id, .int .i64 g.task, .int .i64 g.base, .int .u32 (g.sum : Int), .int .i64 g.st.num, .slice g.st.p g.st.n g.st.c, .int .i64 g.dnum, .slice g.set.p g.set.n g.set.c, .slice g.gone.p g.gone.n g.gone.c, .slice g.logs.p g.logs.n g.logs.c, .slice g.pend.p g.pend.n g.pend.c] 38)
        case first =>
          by_cases hb0 : g.base = 0
          · have bp : ¬ (0 : Int) < g.base := by omega
            have HK : Hid (chkKept g = chkState g.st) := if_pos hb0
            clear hb0
            go_wp2_with fail
            all_goals go_meet
            all_goals exact ⟨by rw [HK.out], HB3.out, HX3.out⟩
          · have bp : (0 : Int) < g.base := by have := h.2.2.1; omega
            have HK : Hid (chkKept g = if chkState g.dst = 0 then chkGone g.gone else chkState g.dst) := if_neg hb0
            have HC2 := hid (refCheckState_any g.dst w3 S (ST.ofLTi (HIn.out w3 HB3.out).set (HIn.out w3 HB3.out).dnum0 (HIn.out w3 HB3.out).dnum1))
            unfold ST.val GI.dst at HC2
            clear hb0
            go_wp2_with fail
            refine HC2.out.mono ?_
            rintro x w4 ⟨rfl, hb4⟩
            have HB4 := hid (HB3.out.trans (hb4.mono HB3.out.size))
            have HX4 := hid (HX3.out.below hb4)
            have hd4 := HD3.out.below hb4
            have i0 := (hd4).cell 0
            have i1 := (hd4).cell 1
            have i2 := (hd4).cell 2
            simp only [List.getElem?_toArray, List.getElem?_cons_zero, List.getElem?_cons_succ] at i0 i1 i2
            clear hb4 hd4 HC2
            by_cases hk : chkState g.dst = 0
            · have hk' : (((chkState g.dst : Nat) : Int) == 0) = true := by rw [hk]; rfl
              have HC3 := hid (refGone_any g.gone w4 S (HIn.out w4 HB4.out).gone)
              have HK2 : Hid (chkKept g = chkGone g.gone) := by unfold Hid; rw [HK.out, if_pos hk]
              clear hk
              unfold GI.dst at hk'
              go_wp2_with fail
              refine HC3.out.mono ?_
              rintro x w5 ⟨rfl, hb5⟩
              have HB5 := hid (HB4.out.trans (hb5.mono HB4.out.size))
              have HX5 := hid (HX4.out.below hb5)
              clear hb5 HC3
              go_wp2_with fail
              all_goals go_meet
              all_goals exact ⟨by rw [HK2.out], HB5.out, HX5.out⟩
            · have hk' : (((chkState g.dst : Nat) : Int) == 0) = false := by rw [beq_eq_false_iff_ne]; omega
              have HK2 : Hid (chkKept g = chkState g.dst) := by unfold Hid; rw [HK.out, if_neg hk]
              clear hk
              unfold GI.dst at hk'
              go_wp2_with fail
              all_goals go_meet
              all_goals exact ⟨by rw [HK2.out]; rfl, HB4.out, HX4.out⟩
        case rest =>
          obtain ⟨hs6, hbc, hxc⟩ := hcut
          subst hs6
          clear HB3 HX3 HD3 e0 e1 e2 e3 e4 e5 e6 e7 e8 e9 e10 f0 f1 f2
          have HBc := hid hbc
          have HXc := hid hxc
          have e9 := hxc.cell 9
          have e10 := hxc.cell 10
          simp only [List.getElem?_toArray, List.getElem?_cons_zero, List.getElem?_cons_succ] at e9 e10
          clear hbc hxc
          by_cases hk : chkKept g = 0
          · have hk' : (((chkKept g : Nat) : Int) != 0) = false := by rw [hk]; rfl
            have HKk := hid hk
            clear hk
            by_cases h4 : 4 < g.logs.n
            · have h4' : (4 : Int) < (g.logs.n : Int) := by omega
              have HL : Hid (chkLogs g = 43) := if_pos h4
              go_wp2
              go_ret
              rw [HE.out, if_pos HKk.out, HL.out]
              exact ⟨rfl, HBc.out⟩
            have h4' : ¬ (4 : Int) < (g.logs.n : Int) := by omega
            have HL : Hid (chkLogs g = firstC (fun j => chkRecs (g.logs.item j)) g.logs.n) := if_neg h4
            go_wp2_with fail
            go_loopw [6, 7] (fun _ y wr => ∃ j : Nat, j ≤ g.logs.n ∧ y = .int .i64 (j : Int) ∧ firstC (fun j => chkRecs (g.logs.item j)) j = 0 ∧ Below w.heap.size w wr ∧ Box wr q #[.int .i64 g.id, .int .i64 g.task, .int .i64 g.base, .int .u32 (g.sum : Int), .int .i64 g.st.num, .slice g.st.p g.st.n g.st.c, .int .i64 g.dnum, .slice g.set.p g.set.n g.set.c, .slice g.gone.p g.gone.n g.gone.c, .slice g.logs.p g.logs.n g.logs.c, .slice g.pend.p g.pend.n g.pend.c] 38) (fun _ y _ => g.logs.n - (intOf y).toNat)
            case atStart => exact ⟨0, Nat.zero_le _, rfl, rfl, HBc.out, HXc.out⟩
            case round =>
              obtain ⟨j, hj, rfl, hz, hbj, hxj⟩ := hrel
              have HZ := hid hz
              have HBj := hid hbj
              have HXj := hid hxj
              have i9 := hxj.cell 9
              have i10 := hxj.cell 10
              simp only [List.getElem?_toArray, List.getElem?_cons_zero, List.getElem?_cons_succ] at i9 i10
              have hinj := HIn.out wr hbj
              clear hz hbj hxj
              by_cases hlt : j < g.logs.n
              · have hlt' : (j : Int) < (g.logs.n : Int) := by omega
                obtain ⟨b1, o1, hp, hSb, hl1, ha⟩ := hinj.logs.at_ (show 0 < g.logs.n by omega)
                have a0 : wr.cell? ⟨b1, o1 + j, none⟩ = some (.slice (g.logs.item j).p (g.logs.item j).n (g.logs.item j).c) := by
                  have := ha j hlt 0 _ rfl
                  simpa [elRecs] using this
                rw [hp] at i9
                clear hp e9 e10 HXc
                have HC := hid (refRecords_any (g.logs.item j) wr S (hinj.logs.each j hlt))
                clear ha hinj
                go_wp2_with fail
                refine HC.out.mono ?_
                rintro x w6 ⟨rfl, hb6⟩
                have HB6 := hid (HBj.out.trans (hb6.mono HBj.out.size))
                have HX6 := hid (HXj.out.below hb6)
                clear hb6 HC
                by_cases h0 : chkRecs (g.logs.item j) = 0
                · have HZ2 : Hid (firstC (fun j => chkRecs (g.logs.item j)) (j + 1) = 0) := by unfold Hid; rw [firstC_succ HZ.out]; exact h0
                  rw [h0]
                  clear h0
                  go_wp2
                  go_roundw
                  case rel => exact ⟨j + 1, by omega, by go_num, HZ2.out, HB6.out, HX6.out⟩
                  case measure => simp [intOf]; omega
                · have hne : ((chkRecs (g.logs.item j) : Int) != 0) = true := by rw [bne_iff_ne]; omega
                  have HR : Hid (chkLogs g = chkRecs (g.logs.item j)) := HL.out.trans (firstC_hit (g := fun j => chkRecs (g.logs.item j)) HZ.out hlt h0)
                  have HR0 : Hid (chkLogs g ≠ 0) := by unfold Hid; rw [HR.out]; exact h0
                  clear h0
                  go_wp2
                  go_ret
                  rw [HE.out, if_pos HKk.out, if_neg HR0.out, HR.out]
                  exact ⟨rfl, HB6.out⟩
              · obtain rfl : j = g.logs.n := by omega
                have hlt' : ¬ (g.logs.n : Int) < (g.logs.n : Int) := by omega
                have HR : Hid (chkLogs g = 0) := HL.out.trans HZ.out
                have HC := hid (refRecords_any g.pend wr S hinj.pend)
                clear hinj
                go_wp2_with fail
                refine HC.out.mono ?_
                rintro x w6 ⟨rfl, hb6⟩
                have HB6 := hid (HBj.out.trans (hb6.mono HBj.out.size))
                clear hb6 HC
                go_wp2
                go_ret
                rw [HE.out, if_pos HKk.out, if_pos HR.out]
                exact ⟨rfl, HB6.out⟩
          · have hk' : (((chkKept g : Nat) : Int) != 0) = true := by rw [bne_iff_ne]; omega
            have HKk := hid hk
            clear hk
            go_wp2
            go_ret
            rw [HE.out, if_neg HKk.out]
            exact ⟨rfl, HBc.out⟩
end Go.Proofs.Ytikfpoabaaiegaa
