import Derived.Test.YtikfpoabaaiegaaRkD
namespace Go.Proofs.Ytikfpoabaaiegaa
open Go.RowKit
set_option maxRecDepth 8000
set_option maxHeartbeats 4000000 in
theorem fs_other (g : GI) (w : World) (h : bnd g) (ho : other g = true) : Calls Try.prog 47 #[g.val] w fun x w' => errPost (41) w x w' := by
  have hbx := Box.new w #[.int .i64 g.id, .int .i64 g.task, .int .i64 g.base, .int .u32 (g.sum : Int), .int .i64 g.st.num, .slice g.st.p g.st.n g.st.c, .int .i64 g.dnum, .slice g.set.p g.set.n g.set.c, .slice g.gone.p g.gone.n g.gone.c, .slice g.logs.p g.logs.n g.logs.c, .slice g.pend.p g.pend.n g.pend.c] 38
  have c0 := (hbx).cell 0
  have c1 := (hbx).cell 1
  have c2 := (hbx).cell 2
  have c3 := (hbx).cell 3
  have c4 := (hbx).cell 4
  have c5 := (hbx).cell 5
  have c6 := (hbx).cell 6
  have c7 := (hbx).cell 7
  have c8 := (hbx).cell 8
  have c9 := (hbx).cell 9
  have c10 := (hbx).cell 10
  simp only [List.getElem?_toArray, List.getElem?_cons_zero, List.getElem?_cons_succ] at c0 c1 c2 c3 c4 c5 c6 c7 c8 c9 c10
  have HA : Hid (Below w.heap.size w (w.alloc (.cells #[.int .i64 g.id, .int .i64 g.task, .int .i64 g.base, .int .u32 (g.sum : Int), .int .i64 g.st.num, .slice g.st.p g.st.n g.st.c, .int .i64 g.dnum, .slice g.set.p g.set.n g.set.c, .slice g.gone.p g.gone.n g.gone.c, .slice g.logs.p g.logs.n g.logs.c, .slice g.pend.p g.pend.n g.pend.c] 38))) := (Below.refl _ _).alloc (Nat.le_refl _) _
  have HO1 := hid (refOut_any g.id 9999 (w.alloc (.cells #[.int .i64 g.id, .int .i64 g.task, .int .i64 g.base, .int .u32 (g.sum : Int), .int .i64 g.st.num, .slice g.st.p g.st.n g.st.c, .int .i64 g.dnum, .slice g.set.p g.set.n g.set.c, .slice g.gone.p g.gone.n g.gone.c, .slice g.logs.p g.logs.n g.logs.c, .slice g.pend.p g.pend.n g.pend.c] 38)))
  have HO2 := hid (refOut_any g.task 11 (w.alloc (.cells #[.int .i64 g.id, .int .i64 g.task, .int .i64 g.base, .int .u32 (g.sum : Int), .int .i64 g.st.num, .slice g.st.p g.st.n g.st.c, .int .i64 g.dnum, .slice g.set.p g.set.n g.set.c, .slice g.gone.p g.gone.n g.gone.c, .slice g.logs.p g.logs.n g.logs.c, .slice g.pend.p g.pend.n g.pend.c] 38)))
  have HO3 := hid (refOut_any g.base 9999 (w.alloc (.cells #[.int .i64 g.id, .int .i64 g.task, .int .i64 g.base, .int .u32 (g.sum : Int), .int .i64 g.st.num, .slice g.st.p g.st.n g.st.c, .int .i64 g.dnum, .slice g.set.p g.set.n g.set.c, .slice g.gone.p g.gone.n g.gone.c, .slice g.logs.p g.logs.n g.logs.c, .slice g.pend.p g.pend.n g.pend.c] 38)))
  have hal : Below (w.alloc (.cells #[.int .i64 g.id, .int .i64 g.task, .int .i64 g.base, .int .u32 (g.sum : Int), .int .i64 g.st.num, .slice g.st.p g.st.n g.st.c, .int .i64 g.dnum, .slice g.set.p g.set.n g.set.c, .slice g.gone.p g.gone.n g.gone.c, .slice g.logs.p g.logs.n g.logs.c, .slice g.pend.p g.pend.n g.pend.c] 38)).heap.size (w.alloc (.cells #[.int .i64 g.id, .int .i64 g.task, .int .i64 g.base, .int .u32 (g.sum : Int), .int .i64 g.st.num, .slice g.st.p g.st.n g.st.c, .int .i64 g.dnum, .slice g.set.p g.set.n g.set.c, .slice g.gone.p g.gone.n g.gone.c, .slice g.logs.p g.logs.n g.logs.c, .slice g.pend.p g.pend.n g.pend.c] 38)) ((w.alloc (.cells #[.int .i64 g.id, .int .i64 g.task, .int .i64 g.base, .int .u32 (g.sum : Int), .int .i64 g.st.num, .slice g.st.p g.st.n g.st.c, .int .i64 g.dnum, .slice g.set.p g.set.n g.set.c, .slice g.gone.p g.gone.n g.gone.c, .slice g.logs.p g.logs.n g.logs.c, .slice g.pend.p g.pend.n g.pend.c] 38)).alloc (.cells #[.int .i64 g.dnum, .slice g.set.p g.set.n g.set.c, .slice g.gone.p g.gone.n g.gone.c] 34)) := (Below.refl _ _).alloc (Nat.le_refl _) _
  have HB2 : Hid (Below w.heap.size w ((w.alloc (.cells #[.int .i64 g.id, .int .i64 g.task, .int .i64 g.base, .int .u32 (g.sum : Int), .int .i64 g.st.num, .slice g.st.p g.st.n g.st.c, .int .i64 g.dnum, .slice g.set.p g.set.n g.set.c, .slice g.gone.p g.gone.n g.gone.c, .slice g.logs.p g.logs.n g.logs.c, .slice g.pend.p g.pend.n g.pend.c] 38)).alloc (.cells #[.int .i64 g.dnum, .slice g.set.p g.set.n g.set.c, .slice g.gone.p g.gone.n g.gone.c] 34))) := HA.out.trans (hal.mono HA.out.size)
  have hx2 := hbx.below hal
  have hd2 := Box.new (w.alloc (.cells #[.int .i64 g.id, .int .i64 g.task, .int .i64 g.base, .int .u32 (g.sum : Int), .int .i64 g.st.num, .slice g.st.p g.st.n g.st.c, .int .i64 g.dnum, .slice g.set.p g.set.n g.set.c, .slice g.gone.p g.gone.n g.gone.c, .slice g.logs.p g.logs.n g.logs.c, .slice g.pend.p g.pend.n g.pend.c] 38)) #[.int .i64 g.dnum, .slice g.set.p g.set.n g.set.c, .slice g.gone.p g.gone.n g.gone.c] 34
  have hws : (w.alloc (.cells #[.int .i64 g.id, .int .i64 g.task, .int .i64 g.base, .int .u32 (g.sum : Int), .int .i64 g.st.num, .slice g.st.p g.st.n g.st.c, .int .i64 g.dnum, .slice g.set.p g.set.n g.set.c, .slice g.gone.p g.gone.n g.gone.c, .slice g.logs.p g.logs.n g.logs.c, .slice g.pend.p g.pend.n g.pend.c] 38)).heap.size = w.heap.size + 1 := by simp
  rw [hws] at hd2
  have e0 := (hx2).cell 0
  have e1 := (hx2).cell 1
  have e2 := (hx2).cell 2
  have e3 := (hx2).cell 3
  have e4 := (hx2).cell 4
  have e5 := (hx2).cell 5
  have e6 := (hx2).cell 6
  have e7 := (hx2).cell 7
  have e8 := (hx2).cell 8
  have e9 := (hx2).cell 9
  have e10 := (hx2).cell 10
  simp only [List.getElem?_toArray, List.getElem?_cons_zero, List.getElem?_cons_succ] at e0 e1 e2 e3 e4 e5 e6 e7 e8 e9 e10
  have f0 := (hd2).cell 0
  have f1 := (hd2).cell 1
  have f2 := (hd2).cell 2
  simp only [List.getElem?_toArray, List.getElem?_cons_zero, List.getElem?_cons_succ] at f0 f1 f2
  have HX := hid hx2
  have HD := hid hd2
  have hlx := hx2.lt
  unfold GI.val
  clear hbx hal hws hx2 hd2
  go_enter Try.func47, Try.ntmps47
  go_wp2_with fail
  refine HO1.out.mono ?_
  rintro x w1 ⟨rfl, hw1⟩
  subst w1
  rw [dec_in h.1]
  go_wp2_with fail
  refine HO2.out.mono ?_
  rintro x w1 ⟨rfl, hw1⟩
  subst w1
  rw [dec_in h.2.1]
  go_wp2_with fail
  refine HO3.out.mono ?_
  rintro x w1 ⟨rfl, hw1⟩
  subst w1
  rw [dec_in h.2.2]
  clear HO1 HO2 HO3
  go_upto_region 4 with fail
  obtain ⟨W, hW⟩ : ∃ W, W = ((w.alloc (.cells #[.int .i64 g.id, .int .i64 g.task, .int .i64 g.base, .int .u32 (g.sum : Int), .int .i64 g.st.num, .slice g.st.p g.st.n g.st.c, .int .i64 g.dnum, .slice g.set.p g.set.n g.set.c, .slice g.gone.p g.gone.n g.gone.c, .slice g.logs.p g.logs.n g.logs.c, .slice g.pend.p g.pend.n g.pend.c] 38)).alloc (.cells #[.int .i64 g.dnum, .slice g.set.p g.set.n g.set.c, .slice g.gone.p g.gone.n g.gone.c] 34)) := ⟨_, rfl⟩
  rw [← hW] at HB2 HX HD hlx e0 e1 e2 e3 e4 e5 e6 e7 e8 e9 e10 f0 f1 f2 ⊢
  obtain ⟨q, hq⟩ : ∃ q, q = w.heap.size := ⟨_, rfl⟩
  rw [← hq] at HX HD hlx e0 e1 e2 e3 e4 e5 e6 e7 e8 e9 e10 f0 f1 f2 ⊢
  clear hW hq c0 c1 c2 c3 c4 c5 c6 c7 c8 c9 c10
  go_cut [4] (fun s wx => s = .bool ((g.dnum == 0) && (((g.set.n : Int) == 0) && ((g.gone.n : Int) == 0))) ∧ wx = W)
  case first =>
    cases b1 : (g.dnum == 0)
    · go_wp2_with fail
      all_goals go_meet
      all_goals exact ⟨by simp [*], rfl⟩
    · cases b2 : ((g.set.n : Int) == 0)
      · go_wp2_with fail
        all_goals go_meet
        all_goals exact ⟨by simp [*], rfl⟩
      · cases b3 : ((g.gone.n : Int) == 0)
        all_goals go_wp2_with fail
        all_goals go_meet
        all_goals exact ⟨by simp [*], rfl⟩
  case rest =>
    obtain ⟨hs4, hwc⟩ := hcut
    subst hs4
    rw [hwc]
    clear hwc
    go_upto_region 5 with fail
    go_cut [5] (fun s wx => s = .bool ((g.st.num == 0) && ((g.st.n : Int) == 0)) ∧ wx = W)
    case first =>
      cases b1 : (g.st.num == 0)
      · go_wp2_with fail
        all_goals go_meet
        all_goals exact ⟨by simp [*], rfl⟩
      · cases b2 : ((g.st.n : Int) == 0)
        all_goals go_wp2_with fail
        all_goals go_meet
        all_goals exact ⟨by simp [*], rfl⟩
    case rest =>
      obtain ⟨hs5, hwc⟩ := hcut
      subst hs5
      rw [hwc]
      clear hwc
      generalize hnd : ((g.dnum == 0) && (((g.set.n : Int) == 0) && ((g.gone.n : Int) == 0))) = nd
      generalize hns : ((g.st.num == 0) && ((g.st.n : Int) == 0)) = ns
      go_upto_region 6 with fail
      go_cut [69] (fun s wx => s = .bool true ∧ wx = W)
      case first =>
        by_cases hb0 : g.base = 0
        · have b0 : (g.base == 0) = true := by simpa using hb0
          have bp : ¬ (0 : Int) < g.base := by omega
          have hh := ho
          unfold other at hh
          rw [if_pos hb0] at hh
          cases nd with
          | false =>
            clear hnd hns hh ho hb0
            go_wp2_with fail
            all_goals go_meet
            all_goals exact ⟨rfl, rfl⟩
          | true =>
            have s0 : ((g.sum : Int) != 0) = true := by
              simp at hnd hh ⊢
              omega
            clear hnd hns hh ho hb0
            go_wp2_with fail
            all_goals go_meet
            all_goals exact ⟨rfl, rfl⟩
        · have b0 : (g.base == 0) = false := by simpa using hb0
          have bp : (0 : Int) < g.base := by have := h.2.2.1; omega
          have hh := ho
          unfold other at hh
          rw [if_neg hb0] at hh
          have ns1 : ns = false := by
            rw [← hns]
            simp at hh ⊢
            omega
          subst ns1
          clear hnd hns hh ho hb0
          go_wp2_with fail
          all_goals go_meet
          all_goals exact ⟨rfl, rfl⟩
      case rest =>
        obtain ⟨hs69, hwc⟩ := hcut
        subst hs69
        rw [hwc]
        clear hwc hnd hns
        go_wp2
        go_ret
        exact ⟨rfl, HB2.out⟩
theorem refSegment_any (g : GI) (w : World) (S : Nat → Prop) (hin : GI.In w S g) : Calls Try.prog 47 #[g.val] w fun x w' => errPost (chkSeg g) w x w' := by
  by_cases hb : bnd g
  · cases ho : other g
    · exact fs_rest g w S hin hb ho (chkSeg g) (by unfold Hid chkSeg; rw [if_pos hb, ho]; simp)
    · have e : chkSeg g = 41 := by unfold chkSeg; rw [if_pos hb, if_pos ho]
      rw [e]
      exact fs_other g w hb ho
  · have e : chkSeg g = 43 := by unfold chkSeg; rw [if_neg hb]
    rw [e]
    exact fs_bound g w hb
end Go.Proofs.Ytikfpoabaaiegaa
