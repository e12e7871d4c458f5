import Derived.Test.YtikfpoabaaiegaaPack47
namespace Go.Proofs.Ytikfpoabaaiegaa
open Go.RowKit
set_option maxRecDepth 8000
def LogsAlike (l u : LT (LT RT)) : Prop := u.n = l.n ∧ ∀ j, j < l.n → RecsAlike (l.item j) (u.item j)
def ST.lt (s : ST) : LT VT := ⟨s.p, s.n, s.c, s.cell⟩
structure SgAlike (g k : GI) : Prop where
  id : k.id = g.id
  task : k.task = g.task
  base : k.base = g.base
  sum : k.sum = g.sum
  snum : k.st.num = g.st.num
  dnum : k.dnum = g.dnum
  logs : LogsAlike g.logs k.logs
  st : CellsAlike g.st.lt k.st.lt
  set : CellsAlike g.set k.set
  gone : TxsAlike g.gone k.gone
  pend : RecsAlike g.pend k.pend
set_option maxHeartbeats 16000000 in
theorem ySegment (g k : GI) (w : World) (S R : Nat → Prop) (hg : GI.In w S g) (hk : GI.In w R k) :
    Calls Try.prog 36 #[g.val, k.val] w fun e w' => YesNo (SgAlike g k) e w w' := by
  have hb0 : Below w.heap.size w ((w.alloc (.cells #[.int .i64 g.id, .int .i64 g.task, .int .i64 g.base, .int .u32 (g.sum : Int), .int .i64 g.st.num, .slice g.st.p g.st.n g.st.c, .int .i64 g.dnum, .slice g.set.p g.set.n g.set.c, .slice g.gone.p g.gone.n g.gone.c, .slice g.logs.p g.logs.n g.logs.c, .slice g.pend.p g.pend.n g.pend.c] 38)).alloc (.cells #[.int .i64 k.id, .int .i64 k.task, .int .i64 k.base, .int .u32 (k.sum : Int), .int .i64 k.st.num, .slice k.st.p k.st.n k.st.c, .int .i64 k.dnum, .slice k.set.p k.set.n k.set.c, .slice k.gone.p k.gone.n k.gone.c, .slice k.logs.p k.logs.n k.logs.c, .slice k.pend.p k.pend.n k.pend.c] 38)) := ((Below.refl _ _).alloc (Nat.le_refl _) _).alloc (by simp) _
  have hx0 := (Box.new w #[.int .i64 g.id, .int .i64 g.task, .int .i64 g.base, .int .u32 (g.sum : Int), .int .i64 g.st.num, .slice g.st.p g.st.n g.st.c, .int .i64 g.dnum, .slice g.set.p g.set.n g.set.c, .slice g.gone.p g.gone.n g.gone.c, .slice g.logs.p g.logs.n g.logs.c, .slice g.pend.p g.pend.n g.pend.c] 38).below ((Below.refl _ _).alloc (Nat.le_refl _) (.cells #[.int .i64 k.id, .int .i64 k.task, .int .i64 k.base, .int .u32 (k.sum : Int), .int .i64 k.st.num, .slice k.st.p k.st.n k.st.c, .int .i64 k.dnum, .slice k.set.p k.set.n k.set.c, .slice k.gone.p k.gone.n k.gone.c, .slice k.logs.p k.logs.n k.logs.c, .slice k.pend.p k.pend.n k.pend.c] 38))
  have hy0 := Box.new (w.alloc (.cells #[.int .i64 g.id, .int .i64 g.task, .int .i64 g.base, .int .u32 (g.sum : Int), .int .i64 g.st.num, .slice g.st.p g.st.n g.st.c, .int .i64 g.dnum, .slice g.set.p g.set.n g.set.c, .slice g.gone.p g.gone.n g.gone.c, .slice g.logs.p g.logs.n g.logs.c, .slice g.pend.p g.pend.n g.pend.c] 38)) #[.int .i64 k.id, .int .i64 k.task, .int .i64 k.base, .int .u32 (k.sum : Int), .int .i64 k.st.num, .slice k.st.p k.st.n k.st.c, .int .i64 k.dnum, .slice k.set.p k.set.n k.set.c, .slice k.gone.p k.gone.n k.gone.c, .slice k.logs.p k.logs.n k.logs.c, .slice k.pend.p k.pend.n k.pend.c] 38
  rw [show (w.alloc (.cells #[.int .i64 g.id, .int .i64 g.task, .int .i64 g.base, .int .u32 (g.sum : Int), .int .i64 g.st.num, .slice g.st.p g.st.n g.st.c, .int .i64 g.dnum, .slice g.set.p g.set.n g.set.c, .slice g.gone.p g.gone.n g.gone.c, .slice g.logs.p g.logs.n g.logs.c, .slice g.pend.p g.pend.n g.pend.c] 38)).heap.size = w.heap.size + 1 by simp] at hy0
  have HX0 := hid hx0
  have HY0 := hid hy0
  have HB0 := hid hb0
  have HSt : Hid (∀ W, Below w.heap.size w W → Calls Try.prog 34 #[.slice g.st.p g.st.n g.st.c, .slice k.st.p k.st.n k.st.c] W fun e w' => YesNo (CellsAlike g.st.lt k.st.lt) e W w') := fun W hW => yCells g.st.lt k.st.lt W S R ((ST.toLT hg.st.i hg.st.nil).below hW) ((ST.toLT hk.st.i hk.st.nil).below hW)
  have HSet : Hid (∀ W, Below w.heap.size w W → Calls Try.prog 34 #[.slice g.set.p g.set.n g.set.c, .slice k.set.p k.set.n k.set.c] W fun e w' => YesNo (CellsAlike g.set k.set) e W w') := fun W hW => yCells g.set k.set W S R (hg.set.below hW) (hk.set.below hW)
  have HGo : Hid (∀ W, Below w.heap.size w W → Calls Try.prog 86 #[.slice g.gone.p g.gone.n g.gone.c, .slice k.gone.p k.gone.n k.gone.c] W fun e w' => YesNo (TxsAlike g.gone k.gone) e W w') := fun W hW => yTexts g.gone k.gone W S R (hg.gone.below hW) (hk.gone.below hW)
  have HPe : Hid (∀ W, Below w.heap.size w W → Calls Try.prog 85 #[.slice g.pend.p g.pend.n g.pend.c, .slice k.pend.p k.pend.n k.pend.c] W fun e w' => YesNo (RecsAlike g.pend k.pend) e W w') := fun W hW => yRecords g.pend k.pend W S R (hg.pend.below hW) (hk.pend.below hW)
  have hnn := hg.logs.nn
  have H := hid hg.logs
  have H' := hid hk.logs
  unfold GI.val
  clear hx0 hy0 hb0 hg hk
  obtain ⟨id, task, base, sum, ⟨snum, sp, sn, sc, sf⟩, dnum, ⟨tp, tn, tc, tf⟩, ⟨gp, gn, gc, gf⟩, ⟨lp, ln, lc, lf⟩, ⟨pp, pn, pc, pf⟩⟩ := g
  obtain ⟨id2, task2, base2, sum2, ⟨snum2, sp2, sn2, sc2, sf2⟩, dnum2, ⟨tp2, tn2, tc2, tf2⟩, ⟨gp2, gn2, gc2, gf2⟩, ⟨lp2, ln2, lc2, lf2⟩, ⟨pp2, pn2, pc2, pf2⟩⟩ := k
  simp only [ST.lt] at hnn H H' HX0 HY0 HB0 HSt HSet HGo HPe ⊢
  by_cases h1 : id = id2
  case neg =>
    have hne := z_ne h1
    have HN : Hid (¬ SgAlike ⟨id, task, base, sum, ⟨snum, sp, sn, sc, sf⟩, dnum, ⟨tp, tn, tc, tf⟩, ⟨gp, gn, gc, gf⟩, ⟨lp, ln, lc, lf⟩, ⟨pp, pn, pc, pf⟩⟩ ⟨id2, task2, base2, sum2, ⟨snum2, sp2, sn2, sc2, sf2⟩, dnum2, ⟨tp2, tn2, tc2, tf2⟩, ⟨gp2, gn2, gc2, gf2⟩, ⟨lp2, ln2, lc2, lf2⟩, ⟨pp2, pn2, pc2, pf2⟩⟩) := fun h => h1 h.id.symm
    clear h1
    go_enter Try.func36, Try.ntmps36
    go_wp2
    go_ret
    exact yn_no HN.out HB0.out
  subst h1
  by_cases h1 : task = task2
  case neg =>
    have hne := z_ne h1
    have HN : Hid (¬ SgAlike ⟨id, task, base, sum, ⟨snum, sp, sn, sc, sf⟩, dnum, ⟨tp, tn, tc, tf⟩, ⟨gp, gn, gc, gf⟩, ⟨lp, ln, lc, lf⟩, ⟨pp, pn, pc, pf⟩⟩ ⟨id, task2, base2, sum2, ⟨snum2, sp2, sn2, sc2, sf2⟩, dnum2, ⟨tp2, tn2, tc2, tf2⟩, ⟨gp2, gn2, gc2, gf2⟩, ⟨lp2, ln2, lc2, lf2⟩, ⟨pp2, pn2, pc2, pf2⟩⟩) := fun h => h1 h.task.symm
    clear h1
    go_enter Try.func36, Try.ntmps36
    go_wp2
    go_ret
    exact yn_no HN.out HB0.out
  subst h1
  by_cases h1 : base = base2
  case neg =>
    have hne := z_ne h1
    have HN : Hid (¬ SgAlike ⟨id, task, base, sum, ⟨snum, sp, sn, sc, sf⟩, dnum, ⟨tp, tn, tc, tf⟩, ⟨gp, gn, gc, gf⟩, ⟨lp, ln, lc, lf⟩, ⟨pp, pn, pc, pf⟩⟩ ⟨id, task, base2, sum2, ⟨snum2, sp2, sn2, sc2, sf2⟩, dnum2, ⟨tp2, tn2, tc2, tf2⟩, ⟨gp2, gn2, gc2, gf2⟩, ⟨lp2, ln2, lc2, lf2⟩, ⟨pp2, pn2, pc2, pf2⟩⟩) := fun h => h1 h.base.symm
    clear h1
    go_enter Try.func36, Try.ntmps36
    go_wp2
    go_ret
    exact yn_no HN.out HB0.out
  subst h1
  by_cases h1 : sum = sum2
  case neg =>
    have hne := int_ne h1
    have HN : Hid (¬ SgAlike ⟨id, task, base, sum, ⟨snum, sp, sn, sc, sf⟩, dnum, ⟨tp, tn, tc, tf⟩, ⟨gp, gn, gc, gf⟩, ⟨lp, ln, lc, lf⟩, ⟨pp, pn, pc, pf⟩⟩ ⟨id, task, base, sum2, ⟨snum2, sp2, sn2, sc2, sf2⟩, dnum2, ⟨tp2, tn2, tc2, tf2⟩, ⟨gp2, gn2, gc2, gf2⟩, ⟨lp2, ln2, lc2, lf2⟩, ⟨pp2, pn2, pc2, pf2⟩⟩) := fun h => h1 h.sum.symm
    clear h1
    go_enter Try.func36, Try.ntmps36
    go_wp2
    go_ret
    exact yn_no HN.out HB0.out
  subst h1
  by_cases h1 : ln = ln2
  case neg =>
    have hne := int_ne h1
    have HN : Hid (¬ SgAlike ⟨id, task, base, sum, ⟨snum, sp, sn, sc, sf⟩, dnum, ⟨tp, tn, tc, tf⟩, ⟨gp, gn, gc, gf⟩, ⟨lp, ln, lc, lf⟩, ⟨pp, pn, pc, pf⟩⟩ ⟨id, task, base, sum, ⟨snum2, sp2, sn2, sc2, sf2⟩, dnum2, ⟨tp2, tn2, tc2, tf2⟩, ⟨gp2, gn2, gc2, gf2⟩, ⟨lp2, ln2, lc2, lf2⟩, ⟨pp2, pn2, pc2, pf2⟩⟩) := fun h => h1 h.logs.1.symm
    clear h1
    go_enter Try.func36, Try.ntmps36
    go_wp2
    go_ret
    exact yn_no HN.out HB0.out
  subst h1
  by_cases h1 : snum = snum2
  case neg =>
    have hne := z_ne h1
    have HN : Hid (¬ SgAlike ⟨id, task, base, sum, ⟨snum, sp, sn, sc, sf⟩, dnum, ⟨tp, tn, tc, tf⟩, ⟨gp, gn, gc, gf⟩, ⟨lp, ln, lc, lf⟩, ⟨pp, pn, pc, pf⟩⟩ ⟨id, task, base, sum, ⟨snum2, sp2, sn2, sc2, sf2⟩, dnum2, ⟨tp2, tn2, tc2, tf2⟩, ⟨gp2, gn2, gc2, gf2⟩, ⟨lp2, ln, lc2, lf2⟩, ⟨pp2, pn2, pc2, pf2⟩⟩) := fun h => h1 h.snum.symm
    clear h1
    go_enter Try.func36, Try.ntmps36
    go_wp2
    go_ret
    exact yn_no HN.out HB0.out
  subst h1
  by_cases h1 : dnum = dnum2
  case neg =>
    have hne := z_ne h1
    have HN : Hid (¬ SgAlike ⟨id, task, base, sum, ⟨snum, sp, sn, sc, sf⟩, dnum, ⟨tp, tn, tc, tf⟩, ⟨gp, gn, gc, gf⟩, ⟨lp, ln, lc, lf⟩, ⟨pp, pn, pc, pf⟩⟩ ⟨id, task, base, sum, ⟨snum, sp2, sn2, sc2, sf2⟩, dnum2, ⟨tp2, tn2, tc2, tf2⟩, ⟨gp2, gn2, gc2, gf2⟩, ⟨lp2, ln, lc2, lf2⟩, ⟨pp2, pn2, pc2, pf2⟩⟩) := fun h => h1 h.dnum.symm
    clear h1
    go_enter Try.func36, Try.ntmps36
    go_wp2
    go_ret
    exact yn_no HN.out HB0.out
  subst h1
  go_enter Try.func36, Try.ntmps36
  go_wp2_with fail
  go_loopw [5] (fun x wr => ∃ j : Nat, j ≤ ln ∧ x = .int .i64 j ∧ (∀ q, q < j → RecsAlike (lf q) (lf2 q)) ∧ Box wr w.heap.size #[.int .i64 id, .int .i64 task, .int .i64 base, .int .u32 (sum : Int), .int .i64 snum, .slice sp sn sc, .int .i64 dnum, .slice tp tn tc, .slice gp gn gc, .slice lp ln lc, .slice pp pn pc] 38 ∧ Box wr (w.heap.size + 1) #[.int .i64 id, .int .i64 task, .int .i64 base, .int .u32 (sum : Int), .int .i64 snum, .slice sp2 sn2 sc2, .int .i64 dnum, .slice tp2 tn2 tc2, .slice gp2 gn2 gc2, .slice lp2 ln lc2, .slice pp2 pn2 pc2] 38 ∧ Below w.heap.size w wr) (fun x _ => ln - (intOf x).toNat)
  case atStart => exact ⟨0, Nat.zero_le _, rfl, fun q hq => absurd hq (by omega), HX0.out, HY0.out, HB0.out⟩
  case round =>
    obtain ⟨j, hj, rfl, hA, hB1, hB2, hbel⟩ := hrel
    have HA := hid hA
    have HB := hid hbel
    have HX1 := hid hB1
    have HY1 := hid hB2
    have x9 := hB1.cell 9
    have y9 := hB2.cell 9
    simp only [List.getElem?_toArray, List.getElem?_cons_zero, List.getElem?_cons_succ] at x9 y9
    clear hA hB1 hB2 HX0 HY0
    by_cases hlt : j < ln
    · have hlt' : (j : Int) < (ln : Int) := by omega
      obtain ⟨b1, o1, hp, _, hl1, ha⟩ := H.out.at_ (show 0 < ln by omega)
      obtain ⟨b2, o2, hp', _, hl2, ha'⟩ := H'.out.at_ (show 0 < ln by omega)
      simp only at hp hp'
      subst hp hp'
      have q0 := ha j hlt 0 _ rfl
      have r0 := ha' j hlt 0 _ rfl
      simp [elRecs] at q0 r0
      have a0 := (World.cell?_of_block (a := ⟨b1, o1 + j, none⟩) (hbel.block b1 hl1)).trans q0
      have e0 := (World.cell?_of_block (a := ⟨b2, o2 + j, none⟩) (hbel.block b2 hl2)).trans r0
      have HC : Hid (∀ W, Below wr.heap.size wr W → Calls Try.prog 85 #[.slice (lf j).p (lf j).n (lf j).c, .slice (lf2 j).p (lf2 j).n (lf2 j).c] W fun e w' => YesNo (RecsAlike (lf j) (lf2 j)) e W w') := fun W hW =>
        yRecords (lf j) (lf2 j) W S R ((show LT.In elRec w S (lf j) from H.out.each j hlt).below (HB.out.trans (hW.mono HB.out.size))) ((show LT.In elRec w R (lf2 j) from H'.out.each j hlt).below (HB.out.trans (hW.mono HB.out.size)))
      have HW : Hid (∀ w4, Below wr.heap.size wr.drew w4 → Box w4 w.heap.size #[.int .i64 id, .int .i64 task, .int .i64 base, .int .u32 (sum : Int), .int .i64 snum, .slice sp sn sc, .int .i64 dnum, .slice tp tn tc, .slice gp gn gc, .slice (some ⟨b1, o1, none⟩) ln lc, .slice pp pn pc] 38 ∧ Box w4 (w.heap.size + 1) #[.int .i64 id, .int .i64 task, .int .i64 base, .int .u32 (sum : Int), .int .i64 snum, .slice sp2 sn2 sc2, .int .i64 dnum, .slice tp2 tn2 tc2, .slice gp2 gn2 gc2, .slice (some ⟨b2, o2, none⟩) ln lc2, .slice pp2 pn2 pc2] 38 ∧ Below w.heap.size w w4) := fun w4 hb4 => by
        have hk : Below wr.heap.size wr w4 := (Below.refl wr.heap.size wr).drew.trans hb4
        exact ⟨HX1.out.below hk, HY1.out.below hk, HB.out.trans (hk.mono HB.out.size)⟩
      clear ha ha' hbel q0 r0 HSt HSet HGo HPe HX1 HY1
      go_wp2_with fail
      go_region_with (go_at_call 85; refine (HC.out _ ?_).mono ?_; exact (Below.refl _ _).drew; intro e w4 hP4; obtain ⟨r4, rfl, hr4, hb4⟩ := hP4)
      all_goals
        cases r4 with
        | false =>
          have HN : Hid (¬ SgAlike ⟨id, task, base, sum, ⟨snum, sp, sn, sc, sf⟩, dnum, ⟨tp, tn, tc, tf⟩, ⟨gp, gn, gc, gf⟩, ⟨some ⟨b1, o1, none⟩, ln, lc, lf⟩, ⟨pp, pn, pc, pf⟩⟩ ⟨id, task, base, sum, ⟨snum, sp2, sn2, sc2, sf2⟩, dnum, ⟨tp2, tn2, tc2, tf2⟩, ⟨gp2, gn2, gc2, gf2⟩, ⟨some ⟨b2, o2, none⟩, ln, lc2, lf2⟩, ⟨pp2, pn2, pc2, pf2⟩⟩) := fun h => absurd (hr4.2 (h.logs.2 j hlt)) (by decide)
          have HBe := hid (HW.out w4 hb4)
          clear hr4 hb4
          go_wp2
          go_ret
          exact yn_no HN.out HBe.out.2.2
        | true =>
          have HA2 : Hid (∀ q, q < j + 1 → RecsAlike (lf q) (lf2 q)) := fun q hq => by
            by_cases h : q < j
            · exact HA.out q h
            · obtain rfl : q = j := by omega
              exact hr4.1 rfl
          have HBe := hid (HW.out w4 hb4)
          clear hr4 hb4
          go_wp2
          go_roundw
          case rel => exact ⟨j + 1, by omega, by go_num, HA2.out, HBe.out.1, HBe.out.2.1, HBe.out.2.2⟩
          case measure => simp [intOf]; omega
    · obtain rfl : j = ln := by omega
      have hlt' : ¬ (j : Int) < (j : Int) := by omega
      have x5 := HX1.out.cell 5
      have y5 := HY1.out.cell 5
      simp only [List.getElem?_toArray, List.getElem?_cons_zero, List.getElem?_cons_succ] at x5 y5
      clear hbel
      go_wp2_with fail
      refine (HSt.out _ HB.out).mono ?_
      rintro x w1 ⟨r1, rfl, hr1, hb1⟩
      have HB1 := hid (HB.out.trans (hb1.mono HB.out.size))
      have HX2 := hid (HX1.out.below hb1)
      have HY2 := hid (HY1.out.below hb1)
      clear HSt HB x5 y5 x9 y9 HX1 HY1 hb1
      cases r1 with
      | false =>
        have HN : Hid (¬ SgAlike ⟨id, task, base, sum, ⟨snum, sp, sn, sc, sf⟩, dnum, ⟨tp, tn, tc, tf⟩, ⟨gp, gn, gc, gf⟩, ⟨lp, j, lc, lf⟩, ⟨pp, pn, pc, pf⟩⟩ ⟨id, task, base, sum, ⟨snum, sp2, sn2, sc2, sf2⟩, dnum, ⟨tp2, tn2, tc2, tf2⟩, ⟨gp2, gn2, gc2, gf2⟩, ⟨lp2, j, lc2, lf2⟩, ⟨pp2, pn2, pc2, pf2⟩⟩) := fun h => absurd (hr1.2 h.st) (by decide)
        clear hr1
        go_wp2
        go_ret
        exact yn_no HN.out HB1.out
      | true =>
      have HE1 := hid (hr1.1 rfl)
      have x7 := HX2.out.cell 7
      have y7 := HY2.out.cell 7
      simp only [List.getElem?_toArray, List.getElem?_cons_zero, List.getElem?_cons_succ] at x7 y7
      clear hr1
      go_wp2_with fail
      refine (HSet.out _ HB1.out).mono ?_
      rintro x w2 ⟨r2, rfl, hr2, hb2⟩
      have HB2 := hid (HB1.out.trans (hb2.mono HB1.out.size))
      have HX3 := hid (HX2.out.below hb2)
      have HY3 := hid (HY2.out.below hb2)
      clear HSet HB1 x7 y7 HX2 HY2 hb2
      cases r2 with
      | false =>
        have HN : Hid (¬ SgAlike ⟨id, task, base, sum, ⟨snum, sp, sn, sc, sf⟩, dnum, ⟨tp, tn, tc, tf⟩, ⟨gp, gn, gc, gf⟩, ⟨lp, j, lc, lf⟩, ⟨pp, pn, pc, pf⟩⟩ ⟨id, task, base, sum, ⟨snum, sp2, sn2, sc2, sf2⟩, dnum, ⟨tp2, tn2, tc2, tf2⟩, ⟨gp2, gn2, gc2, gf2⟩, ⟨lp2, j, lc2, lf2⟩, ⟨pp2, pn2, pc2, pf2⟩⟩) := fun h => absurd (hr2.2 h.set) (by decide)
        clear hr2
        go_wp2
        go_ret
        exact yn_no HN.out HB2.out
      | true =>
      have HE2 := hid (hr2.1 rfl)
      have x8 := HX3.out.cell 8
      have y8 := HY3.out.cell 8
      simp only [List.getElem?_toArray, List.getElem?_cons_zero, List.getElem?_cons_succ] at x8 y8
      clear hr2
      go_wp2_with fail
      refine (HGo.out _ HB2.out).mono ?_
      rintro x w3 ⟨r3, rfl, hr3, hb3⟩
      have HB3 := hid (HB2.out.trans (hb3.mono HB2.out.size))
      have HX4 := hid (HX3.out.below hb3)
      have HY4 := hid (HY3.out.below hb3)
      clear HGo HB2 x8 y8 HX3 HY3 hb3
      cases r3 with
      | false =>
        have HN : Hid (¬ SgAlike ⟨id, task, base, sum, ⟨snum, sp, sn, sc, sf⟩, dnum, ⟨tp, tn, tc, tf⟩, ⟨gp, gn, gc, gf⟩, ⟨lp, j, lc, lf⟩, ⟨pp, pn, pc, pf⟩⟩ ⟨id, task, base, sum, ⟨snum, sp2, sn2, sc2, sf2⟩, dnum, ⟨tp2, tn2, tc2, tf2⟩, ⟨gp2, gn2, gc2, gf2⟩, ⟨lp2, j, lc2, lf2⟩, ⟨pp2, pn2, pc2, pf2⟩⟩) := fun h => absurd (hr3.2 h.gone) (by decide)
        clear hr3
        go_wp2
        go_ret
        exact yn_no HN.out HB3.out
      | true =>
      have HE3 := hid (hr3.1 rfl)
      have x10 := HX4.out.cell 10
      have y10 := HY4.out.cell 10
      simp only [List.getElem?_toArray, List.getElem?_cons_zero, List.getElem?_cons_succ] at x10 y10
      clear hr3
      go_wp2_with fail
      refine (HPe.out _ HB3.out).mono ?_
      rintro x w4 ⟨r4, rfl, hr4, hb4⟩
      have HB4 := hid (HB3.out.trans (hb4.mono HB3.out.size))
      have HFin : Hid (r4 = true ↔ SgAlike ⟨id, task, base, sum, ⟨snum, sp, sn, sc, sf⟩, dnum, ⟨tp, tn, tc, tf⟩, ⟨gp, gn, gc, gf⟩, ⟨lp, j, lc, lf⟩, ⟨pp, pn, pc, pf⟩⟩ ⟨id, task, base, sum, ⟨snum, sp2, sn2, sc2, sf2⟩, dnum, ⟨tp2, tn2, tc2, tf2⟩, ⟨gp2, gn2, gc2, gf2⟩, ⟨lp2, j, lc2, lf2⟩, ⟨pp2, pn2, pc2, pf2⟩⟩) := ⟨fun h => ⟨rfl, rfl, rfl, rfl, rfl, rfl, ⟨rfl, HA.out⟩, HE1.out, HE2.out, HE3.out, hr4.1 h⟩, fun h => hr4.2 h.pend⟩
      clear hr4 hb4 HPe HB3 x10 y10 HX4 HY4
      go_wp2
      go_ret
      exact ⟨_, rfl, HFin.out, HB4.out⟩
end Go.Proofs.Ytikfpoabaaiegaa
