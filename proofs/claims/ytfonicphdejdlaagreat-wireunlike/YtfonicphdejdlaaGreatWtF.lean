import Derived.Test.YtfonicphdejdlaaGreatWtE
import Derived.Test.YtfonicphdejdlaaGreatPack23
namespace Go.Proofs.YtfonicphdejdlaaGreat
open Go.RowKit
set_option maxRecDepth 8000
/-- two things alike (their kinds aside) -/
structure ThAlike (t u : HI) : Prop where
  r : RT.Alike t.r u.r
  snum : u.s.num = t.s.num
  s : CellsAlike t.s.lt u.s.lt
  onum : u.o.num = t.o.num
  o : RT.Alike t.o.rec_ u.o.rec_
  g : SgAlike t.g u.g
  m : MnAlike t.m u.m
theorem z_eq_no {i k : Int} (h : ¬ i = k) : (i == k) = false := by simpa using h
set_option maxHeartbeats 16000000 in
theorem yThing (t u : HI) (w : World) (S R : Nat → Prop) (ht : HI.In w S t) (hu : HI.In w R u) :
    Calls Tryz.prog 13 #[.agg t.cells, .agg u.cells] w fun e w' => YesNo (ThAlike t u) e w w' := by
  have HSc : Hid (∀ W, Below w.heap.size w W → Calls Tryz.prog 29 #[.slice t.s.p t.s.n t.s.c, .slice u.s.p u.s.n u.s.c] W fun e w' => YesNo (CellsAlike t.s.lt u.s.lt) e W w') := fun W hW => yCells t.s.lt u.s.lt W S R ((ST.toLT ht.s.i ht.s.nil).below hW) ((ST.toLT hu.s.i hu.s.nil).below hW)
  have HO : Hid (∀ W, Below w.heap.size w W → Calls Tryz.prog 16 #[t.o.rec_.val, u.o.rec_.val] W fun e w' => YesNo (RT.Alike t.o.rec_ u.o.rec_) e W w') := fun W hW => yRecord t.o.rec_ u.o.rec_ W S R (ht.o.below hW) (hu.o.below hW)
  have HR : Hid (∀ W, Below w.heap.size w W → Calls Tryz.prog 16 #[t.r.val, u.r.val] W fun e w' => YesNo (RT.Alike t.r u.r) e W w') := fun W hW => yRecord t.r u.r W S R (ht.r.below hW) (hu.r.below hW)
  have HG : Hid (∀ W, Below w.heap.size w W → Calls Tryz.prog 30 #[t.g.val, u.g.val] W fun e w' => YesNo (SgAlike t.g u.g) e W w') := fun W hW => ySegment t.g u.g W S R (ht.g.below hW) (hu.g.below hW)
  have HM : Hid (∀ W, Below w.heap.size w W → Calls Tryz.prog 31 #[t.m.val, u.m.val] W fun e w' => YesNo (MnAlike t.m u.m) e W w') := fun W hW => yManifest t.m u.m W S R (ht.m.below hW) (hu.m.below hW)
  unfold RT.val at HO HR
  unfold GI.val at HG
  unfold MI.val at HM
  clear ht hu
  obtain ⟨cT, hcT⟩ : ∃ c, c = t.cells := ⟨_, rfl⟩
  obtain ⟨cU, hcU⟩ : ∃ c, c = u.cells := ⟨_, rfl⟩
  rw [← hcT, ← hcU]
  have HcT := hid hcT
  have HcU := hid hcU
  clear hcT hcU
  have hb0 : Below w.heap.size w ((w.alloc (.cells cT 45)).alloc (.cells cU 45)) := ((Below.refl _ _).alloc (Nat.le_refl _) _).alloc (by simp) _
  have hx0 := (Box.new w cT 45).below ((Below.refl _ _).alloc (Nat.le_refl _) (.cells cU 45))
  have hy0 := Box.new (w.alloc (.cells cT 45)) cU 45
  rw [show (w.alloc (.cells cT 45)).heap.size = w.heap.size + 1 by simp] at hy0
  have HX0 := hid hx0
  have HY0 := hid hy0
  have HB0 := hid hb0
  clear hx0 hy0 hb0
  by_cases h7 : t.s.num = u.s.num
  case neg =>
    have hne := z_eq_no h7
    have sx7 := (HX0.out.cell 7).trans (show cT[7]? = some (.int .i64 t.s.num) by rw [HcT.out]; rfl)
    have sy7 := (HY0.out.cell 7).trans (show cU[7]? = some (.int .i64 u.s.num) by rw [HcU.out]; rfl)
    go_enter Tryz.func13, Tryz.ntmps13
    by_cases h23 : t.o.num = u.o.num
    case neg =>
      have hne2 := z_eq_no h23
      have ox23 := (HX0.out.cell 23).trans (show cT[23]? = some (.int .i64 t.o.num) by rw [HcT.out]; rfl)
      have oy23 := (HY0.out.cell 23).trans (show cU[23]? = some (.int .i64 u.o.num) by rw [HcU.out]; rfl)
      have rx1 := (HX0.out.cell 1).trans (show cT[1]? = some (.string t.r.key) by rw [HcT.out]; rfl)
      have ry1 := (HY0.out.cell 1).trans (show cU[1]? = some (.string u.r.key) by rw [HcU.out]; rfl)
      have rx2 := (HX0.out.cell 2).trans (show cT[2]? = some (.int .i64 t.r.v.kind) by rw [HcT.out]; rfl)
      have ry2 := (HY0.out.cell 2).trans (show cU[2]? = some (.int .i64 u.r.v.kind) by rw [HcU.out]; rfl)
      have rx3 := (HX0.out.cell 3).trans (show cT[3]? = some (.int .i64 t.r.v.int) by rw [HcT.out]; rfl)
      have ry3 := (HY0.out.cell 3).trans (show cU[3]? = some (.int .i64 u.r.v.int) by rw [HcU.out]; rfl)
      have rx4 := (HX0.out.cell 4).trans (show cT[4]? = some (.string t.r.v.text) by rw [HcT.out]; rfl)
      have ry4 := (HY0.out.cell 4).trans (show cU[4]? = some (.string u.r.v.text) by rw [HcU.out]; rfl)
      have rx5 := (HX0.out.cell 5).trans (show cT[5]? = some (.slice t.r.v.p t.r.v.n t.r.v.c) by rw [HcT.out]; rfl)
      have ry5 := (HY0.out.cell 5).trans (show cU[5]? = some (.slice u.r.v.p u.r.v.n u.r.v.c) by rw [HcU.out]; rfl)
      have rx6 := (HX0.out.cell 6).trans (show cT[6]? = some (.slice t.r.p t.r.n t.r.c) by rw [HcT.out]; rfl)
      have ry6 := (HY0.out.cell 6).trans (show cU[6]? = some (.slice u.r.p u.r.n u.r.c) by rw [HcU.out]; rfl)
      go_wp2_with fail
      refine (HR.out _ HB0.out).mono ?_
      rintro x w3 ⟨r3, rfl, hr3, hb3⟩
      have HB3 := hid (HB0.out.trans (hb3.mono HB0.out.size))
      have HX3 := hid (HX0.out.below hb3)
      have HY3 := hid (HY0.out.below hb3)
      clear rx1 ry1 rx2 ry2 rx3 ry3 rx4 ry4 rx5 ry5 rx6 ry6 hb3
      cases r3 with
      | false =>
        have HN : Hid (¬ ThAlike t u) := fun h => absurd (hr3.2 h.r) (by decide)
        clear hr3
        go_wp2_with fail
        go_ret
        exact yn_no HN.out HB3.out
      | true =>
      have HN : Hid (¬ ThAlike t u) := fun h => h7 h.snum.symm
      clear hr3
      go_wp2_with fail
      go_ret
      exact yn_no HN.out HB3.out
    have ox23 := (HX0.out.cell 23).trans (show cT[23]? = some (.int .i64 t.o.num) by rw [HcT.out]; rfl)
    have oy23 := (HY0.out.cell 23).trans (show cU[23]? = some (.int .i64 u.o.num) by rw [HcU.out]; rfl)
    have ox24 := (HX0.out.cell 24).trans (show cT[24]? = some (.string t.o.rec_.key) by rw [HcT.out]; rfl)
    have oy24 := (HY0.out.cell 24).trans (show cU[24]? = some (.string u.o.rec_.key) by rw [HcU.out]; rfl)
    have ox25 := (HX0.out.cell 25).trans (show cT[25]? = some (.int .i64 t.o.rec_.v.kind) by rw [HcT.out]; rfl)
    have oy25 := (HY0.out.cell 25).trans (show cU[25]? = some (.int .i64 u.o.rec_.v.kind) by rw [HcU.out]; rfl)
    have ox26 := (HX0.out.cell 26).trans (show cT[26]? = some (.int .i64 t.o.rec_.v.int) by rw [HcT.out]; rfl)
    have oy26 := (HY0.out.cell 26).trans (show cU[26]? = some (.int .i64 u.o.rec_.v.int) by rw [HcU.out]; rfl)
    have ox27 := (HX0.out.cell 27).trans (show cT[27]? = some (.string t.o.rec_.v.text) by rw [HcT.out]; rfl)
    have oy27 := (HY0.out.cell 27).trans (show cU[27]? = some (.string u.o.rec_.v.text) by rw [HcU.out]; rfl)
    have ox28 := (HX0.out.cell 28).trans (show cT[28]? = some (.slice t.o.rec_.v.p t.o.rec_.v.n t.o.rec_.v.c) by rw [HcT.out]; rfl)
    have oy28 := (HY0.out.cell 28).trans (show cU[28]? = some (.slice u.o.rec_.v.p u.o.rec_.v.n u.o.rec_.v.c) by rw [HcU.out]; rfl)
    have ox29 := (HX0.out.cell 29).trans (show cT[29]? = some (.slice t.o.rec_.p t.o.rec_.n t.o.rec_.c) by rw [HcT.out]; rfl)
    have oy29 := (HY0.out.cell 29).trans (show cU[29]? = some (.slice u.o.rec_.p u.o.rec_.n u.o.rec_.c) by rw [HcU.out]; rfl)
    rw [← h23] at oy23
    go_wp2_with fail
    refine (HO.out _ HB0.out).mono ?_
    rintro x w2 ⟨r2, rfl, hr2, hb2⟩
    have HB2 := hid (HB0.out.trans (hb2.mono HB0.out.size))
    have HX2 := hid (HX0.out.below hb2)
    have HY2 := hid (HY0.out.below hb2)
    clear ox23 oy23 ox24 oy24 ox25 oy25 ox26 oy26 ox27 oy27 ox28 oy28 ox29 oy29 hb2
    have rx1 := (HX2.out.cell 1).trans (show cT[1]? = some (.string t.r.key) by rw [HcT.out]; rfl)
    have ry1 := (HY2.out.cell 1).trans (show cU[1]? = some (.string u.r.key) by rw [HcU.out]; rfl)
    have rx2 := (HX2.out.cell 2).trans (show cT[2]? = some (.int .i64 t.r.v.kind) by rw [HcT.out]; rfl)
    have ry2 := (HY2.out.cell 2).trans (show cU[2]? = some (.int .i64 u.r.v.kind) by rw [HcU.out]; rfl)
    have rx3 := (HX2.out.cell 3).trans (show cT[3]? = some (.int .i64 t.r.v.int) by rw [HcT.out]; rfl)
    have ry3 := (HY2.out.cell 3).trans (show cU[3]? = some (.int .i64 u.r.v.int) by rw [HcU.out]; rfl)
    have rx4 := (HX2.out.cell 4).trans (show cT[4]? = some (.string t.r.v.text) by rw [HcT.out]; rfl)
    have ry4 := (HY2.out.cell 4).trans (show cU[4]? = some (.string u.r.v.text) by rw [HcU.out]; rfl)
    have rx5 := (HX2.out.cell 5).trans (show cT[5]? = some (.slice t.r.v.p t.r.v.n t.r.v.c) by rw [HcT.out]; rfl)
    have ry5 := (HY2.out.cell 5).trans (show cU[5]? = some (.slice u.r.v.p u.r.v.n u.r.v.c) by rw [HcU.out]; rfl)
    have rx6 := (HX2.out.cell 6).trans (show cT[6]? = some (.slice t.r.p t.r.n t.r.c) by rw [HcT.out]; rfl)
    have ry6 := (HY2.out.cell 6).trans (show cU[6]? = some (.slice u.r.p u.r.n u.r.c) by rw [HcU.out]; rfl)
    go_wp2_with fail
    refine (HR.out _ HB2.out).mono ?_
    rintro x w3 ⟨r3, rfl, hr3, hb3⟩
    have HB3 := hid (HB2.out.trans (hb3.mono HB2.out.size))
    have HX3 := hid (HX2.out.below hb3)
    have HY3 := hid (HY2.out.below hb3)
    clear rx1 ry1 rx2 ry2 rx3 ry3 rx4 ry4 rx5 ry5 rx6 ry6 hb3
    cases r3 with
    | false =>
      cases r2 with
      | false =>
        have HN : Hid (¬ ThAlike t u) := fun h => absurd (hr3.2 h.r) (by decide)
        clear hr3 hr2
        go_wp2_with fail
        go_ret
        exact yn_no HN.out HB3.out
      | true =>
        have HN : Hid (¬ ThAlike t u) := fun h => absurd (hr3.2 h.r) (by decide)
        clear hr3 hr2
        go_wp2_with fail
        go_ret
        exact yn_no HN.out HB3.out
    | true =>
    cases r2 with
    | false =>
      have HN : Hid (¬ ThAlike t u) := fun h => absurd (hr2.2 h.o) (by decide)
      clear hr3 hr2
      go_wp2_with fail
      go_ret
      exact yn_no HN.out HB3.out
    | true =>
    have HN : Hid (¬ ThAlike t u) := fun h => h7 h.snum.symm
    clear hr3 hr2
    go_wp2_with fail
    go_ret
    exact yn_no HN.out HB3.out
  have sx7 := (HX0.out.cell 7).trans (show cT[7]? = some (.int .i64 t.s.num) by rw [HcT.out]; rfl)
  have sy7 := (HY0.out.cell 7).trans (show cU[7]? = some (.int .i64 u.s.num) by rw [HcU.out]; rfl)
  have sx8 := (HX0.out.cell 8).trans (show cT[8]? = some (.slice t.s.p t.s.n t.s.c) by rw [HcT.out]; rfl)
  have sy8 := (HY0.out.cell 8).trans (show cU[8]? = some (.slice u.s.p u.s.n u.s.c) by rw [HcU.out]; rfl)
  rw [← h7] at sy7
  go_enter Tryz.func13, Tryz.ntmps13
  go_wp2_with fail
  refine (HSc.out _ HB0.out).mono ?_
  rintro x w1 ⟨r1, rfl, hr1, hb1⟩
  have HB1 := hid (HB0.out.trans (hb1.mono HB0.out.size))
  have HX1 := hid (HX0.out.below hb1)
  have HY1 := hid (HY0.out.below hb1)
  clear sx7 sy7 sx8 sy8 hb1
  by_cases h23 : t.o.num = u.o.num
  case neg =>
    have hne2 := z_eq_no h23
    have ox23 := (HX1.out.cell 23).trans (show cT[23]? = some (.int .i64 t.o.num) by rw [HcT.out]; rfl)
    have oy23 := (HY1.out.cell 23).trans (show cU[23]? = some (.int .i64 u.o.num) by rw [HcU.out]; rfl)
    have rx1 := (HX1.out.cell 1).trans (show cT[1]? = some (.string t.r.key) by rw [HcT.out]; rfl)
    have ry1 := (HY1.out.cell 1).trans (show cU[1]? = some (.string u.r.key) by rw [HcU.out]; rfl)
    have rx2 := (HX1.out.cell 2).trans (show cT[2]? = some (.int .i64 t.r.v.kind) by rw [HcT.out]; rfl)
    have ry2 := (HY1.out.cell 2).trans (show cU[2]? = some (.int .i64 u.r.v.kind) by rw [HcU.out]; rfl)
    have rx3 := (HX1.out.cell 3).trans (show cT[3]? = some (.int .i64 t.r.v.int) by rw [HcT.out]; rfl)
    have ry3 := (HY1.out.cell 3).trans (show cU[3]? = some (.int .i64 u.r.v.int) by rw [HcU.out]; rfl)
    have rx4 := (HX1.out.cell 4).trans (show cT[4]? = some (.string t.r.v.text) by rw [HcT.out]; rfl)
    have ry4 := (HY1.out.cell 4).trans (show cU[4]? = some (.string u.r.v.text) by rw [HcU.out]; rfl)
    have rx5 := (HX1.out.cell 5).trans (show cT[5]? = some (.slice t.r.v.p t.r.v.n t.r.v.c) by rw [HcT.out]; rfl)
    have ry5 := (HY1.out.cell 5).trans (show cU[5]? = some (.slice u.r.v.p u.r.v.n u.r.v.c) by rw [HcU.out]; rfl)
    have rx6 := (HX1.out.cell 6).trans (show cT[6]? = some (.slice t.r.p t.r.n t.r.c) by rw [HcT.out]; rfl)
    have ry6 := (HY1.out.cell 6).trans (show cU[6]? = some (.slice u.r.p u.r.n u.r.c) by rw [HcU.out]; rfl)
    go_wp2_with fail
    refine (HR.out _ HB1.out).mono ?_
    rintro x w3 ⟨r3, rfl, hr3, hb3⟩
    have HB3 := hid (HB1.out.trans (hb3.mono HB1.out.size))
    have HX3 := hid (HX1.out.below hb3)
    have HY3 := hid (HY1.out.below hb3)
    clear rx1 ry1 rx2 ry2 rx3 ry3 rx4 ry4 rx5 ry5 rx6 ry6 hb3
    cases r3 with
    | false =>
      cases r1 with
      | false =>
        have HN : Hid (¬ ThAlike t u) := fun h => absurd (hr3.2 h.r) (by decide)
        clear hr3 hr1
        go_wp2_with fail
        go_ret
        exact yn_no HN.out HB3.out
      | true =>
        have HN : Hid (¬ ThAlike t u) := fun h => absurd (hr3.2 h.r) (by decide)
        clear hr3 hr1
        go_wp2_with fail
        go_ret
        exact yn_no HN.out HB3.out
    | true =>
    cases r1 with
    | false =>
      have HN : Hid (¬ ThAlike t u) := fun h => absurd (hr1.2 h.s) (by decide)
      clear hr3 hr1
      go_wp2_with fail
      go_ret
      exact yn_no HN.out HB3.out
    | true =>
    have HN : Hid (¬ ThAlike t u) := fun h => h23 h.onum.symm
    clear hr3 hr1
    go_wp2_with fail
    go_ret
    exact yn_no HN.out HB3.out
  have ox23 := (HX1.out.cell 23).trans (show cT[23]? = some (.int .i64 t.o.num) by rw [HcT.out]; rfl)
  have oy23 := (HY1.out.cell 23).trans (show cU[23]? = some (.int .i64 u.o.num) by rw [HcU.out]; rfl)
  have ox24 := (HX1.out.cell 24).trans (show cT[24]? = some (.string t.o.rec_.key) by rw [HcT.out]; rfl)
  have oy24 := (HY1.out.cell 24).trans (show cU[24]? = some (.string u.o.rec_.key) by rw [HcU.out]; rfl)
  have ox25 := (HX1.out.cell 25).trans (show cT[25]? = some (.int .i64 t.o.rec_.v.kind) by rw [HcT.out]; rfl)
  have oy25 := (HY1.out.cell 25).trans (show cU[25]? = some (.int .i64 u.o.rec_.v.kind) by rw [HcU.out]; rfl)
  have ox26 := (HX1.out.cell 26).trans (show cT[26]? = some (.int .i64 t.o.rec_.v.int) by rw [HcT.out]; rfl)
  have oy26 := (HY1.out.cell 26).trans (show cU[26]? = some (.int .i64 u.o.rec_.v.int) by rw [HcU.out]; rfl)
  have ox27 := (HX1.out.cell 27).trans (show cT[27]? = some (.string t.o.rec_.v.text) by rw [HcT.out]; rfl)
  have oy27 := (HY1.out.cell 27).trans (show cU[27]? = some (.string u.o.rec_.v.text) by rw [HcU.out]; rfl)
  have ox28 := (HX1.out.cell 28).trans (show cT[28]? = some (.slice t.o.rec_.v.p t.o.rec_.v.n t.o.rec_.v.c) by rw [HcT.out]; rfl)
  have oy28 := (HY1.out.cell 28).trans (show cU[28]? = some (.slice u.o.rec_.v.p u.o.rec_.v.n u.o.rec_.v.c) by rw [HcU.out]; rfl)
  have ox29 := (HX1.out.cell 29).trans (show cT[29]? = some (.slice t.o.rec_.p t.o.rec_.n t.o.rec_.c) by rw [HcT.out]; rfl)
  have oy29 := (HY1.out.cell 29).trans (show cU[29]? = some (.slice u.o.rec_.p u.o.rec_.n u.o.rec_.c) by rw [HcU.out]; rfl)
  rw [← h23] at oy23
  go_wp2_with fail
  refine (HO.out _ HB1.out).mono ?_
  rintro x w2 ⟨r2, rfl, hr2, hb2⟩
  have HB2 := hid (HB1.out.trans (hb2.mono HB1.out.size))
  have HX2 := hid (HX1.out.below hb2)
  have HY2 := hid (HY1.out.below hb2)
  clear ox23 oy23 ox24 oy24 ox25 oy25 ox26 oy26 ox27 oy27 ox28 oy28 ox29 oy29 hb2
  have rx1 := (HX2.out.cell 1).trans (show cT[1]? = some (.string t.r.key) by rw [HcT.out]; rfl)
  have ry1 := (HY2.out.cell 1).trans (show cU[1]? = some (.string u.r.key) by rw [HcU.out]; rfl)
  have rx2 := (HX2.out.cell 2).trans (show cT[2]? = some (.int .i64 t.r.v.kind) by rw [HcT.out]; rfl)
  have ry2 := (HY2.out.cell 2).trans (show cU[2]? = some (.int .i64 u.r.v.kind) by rw [HcU.out]; rfl)
  have rx3 := (HX2.out.cell 3).trans (show cT[3]? = some (.int .i64 t.r.v.int) by rw [HcT.out]; rfl)
  have ry3 := (HY2.out.cell 3).trans (show cU[3]? = some (.int .i64 u.r.v.int) by rw [HcU.out]; rfl)
  have rx4 := (HX2.out.cell 4).trans (show cT[4]? = some (.string t.r.v.text) by rw [HcT.out]; rfl)
  have ry4 := (HY2.out.cell 4).trans (show cU[4]? = some (.string u.r.v.text) by rw [HcU.out]; rfl)
  have rx5 := (HX2.out.cell 5).trans (show cT[5]? = some (.slice t.r.v.p t.r.v.n t.r.v.c) by rw [HcT.out]; rfl)
  have ry5 := (HY2.out.cell 5).trans (show cU[5]? = some (.slice u.r.v.p u.r.v.n u.r.v.c) by rw [HcU.out]; rfl)
  have rx6 := (HX2.out.cell 6).trans (show cT[6]? = some (.slice t.r.p t.r.n t.r.c) by rw [HcT.out]; rfl)
  have ry6 := (HY2.out.cell 6).trans (show cU[6]? = some (.slice u.r.p u.r.n u.r.c) by rw [HcU.out]; rfl)
  go_wp2_with fail
  refine (HR.out _ HB2.out).mono ?_
  rintro x w3 ⟨r3, rfl, hr3, hb3⟩
  have HB3 := hid (HB2.out.trans (hb3.mono HB2.out.size))
  have HX3 := hid (HX2.out.below hb3)
  have HY3 := hid (HY2.out.below hb3)
  clear rx1 ry1 rx2 ry2 rx3 ry3 rx4 ry4 rx5 ry5 rx6 ry6 hb3
  cases r3 with
  | false =>
    cases r1 with
    | false =>
      cases r2 with
      | false =>
        have HN : Hid (¬ ThAlike t u) := fun h => absurd (hr3.2 h.r) (by decide)
        clear hr3 hr1 hr2
        go_wp2_with fail
        go_ret
        exact yn_no HN.out HB3.out
      | true =>
        have HN : Hid (¬ ThAlike t u) := fun h => absurd (hr3.2 h.r) (by decide)
        clear hr3 hr1 hr2
        go_wp2_with fail
        go_ret
        exact yn_no HN.out HB3.out
    | true =>
      cases r2 with
      | false =>
        have HN : Hid (¬ ThAlike t u) := fun h => absurd (hr3.2 h.r) (by decide)
        clear hr3 hr1 hr2
        go_wp2_with fail
        go_ret
        exact yn_no HN.out HB3.out
      | true =>
        have HN : Hid (¬ ThAlike t u) := fun h => absurd (hr3.2 h.r) (by decide)
        clear hr3 hr1 hr2
        go_wp2_with fail
        go_ret
        exact yn_no HN.out HB3.out
  | true =>
  cases r1 with
  | false =>
    cases r2 with
    | false =>
      have HN : Hid (¬ ThAlike t u) := fun h => absurd (hr1.2 h.s) (by decide)
      clear hr3 hr1 hr2
      go_wp2_with fail
      go_ret
      exact yn_no HN.out HB3.out
    | true =>
      have HN : Hid (¬ ThAlike t u) := fun h => absurd (hr1.2 h.s) (by decide)
      clear hr3 hr1 hr2
      go_wp2_with fail
      go_ret
      exact yn_no HN.out HB3.out
  | true =>
  cases r2 with
  | false =>
    have HN : Hid (¬ ThAlike t u) := fun h => absurd (hr2.2 h.o) (by decide)
    clear hr3 hr1 hr2
    go_wp2_with fail
    go_ret
    exact yn_no HN.out HB3.out
  | true =>
  have HA := hid (And.intro (hr3.1 rfl) (And.intro (hr1.1 rfl) (hr2.1 rfl)))
  clear hr3 hr1 hr2
  have gx9 := (HX3.out.cell 9).trans (show cT[9]? = some (.int .i64 t.g.id) by rw [HcT.out]; rfl)
  have gy9 := (HY3.out.cell 9).trans (show cU[9]? = some (.int .i64 u.g.id) by rw [HcU.out]; rfl)
  have gx10 := (HX3.out.cell 10).trans (show cT[10]? = some (.int .i64 t.g.task) by rw [HcT.out]; rfl)
  have gy10 := (HY3.out.cell 10).trans (show cU[10]? = some (.int .i64 u.g.task) by rw [HcU.out]; rfl)
  have gx11 := (HX3.out.cell 11).trans (show cT[11]? = some (.int .i64 t.g.base) by rw [HcT.out]; rfl)
  have gy11 := (HY3.out.cell 11).trans (show cU[11]? = some (.int .i64 u.g.base) by rw [HcU.out]; rfl)
  have gx12 := (HX3.out.cell 12).trans (show cT[12]? = some (.int .u32 (t.g.sum : Int)) by rw [HcT.out]; rfl)
  have gy12 := (HY3.out.cell 12).trans (show cU[12]? = some (.int .u32 (u.g.sum : Int)) by rw [HcU.out]; rfl)
  have gx13 := (HX3.out.cell 13).trans (show cT[13]? = some (.int .i64 t.g.st.num) by rw [HcT.out]; rfl)
  have gy13 := (HY3.out.cell 13).trans (show cU[13]? = some (.int .i64 u.g.st.num) by rw [HcU.out]; rfl)
  have gx14 := (HX3.out.cell 14).trans (show cT[14]? = some (.slice t.g.st.p t.g.st.n t.g.st.c) by rw [HcT.out]; rfl)
  have gy14 := (HY3.out.cell 14).trans (show cU[14]? = some (.slice u.g.st.p u.g.st.n u.g.st.c) by rw [HcU.out]; rfl)
  have gx15 := (HX3.out.cell 15).trans (show cT[15]? = some (.int .i64 t.g.dnum) by rw [HcT.out]; rfl)
  have gy15 := (HY3.out.cell 15).trans (show cU[15]? = some (.int .i64 u.g.dnum) by rw [HcU.out]; rfl)
  have gx16 := (HX3.out.cell 16).trans (show cT[16]? = some (.slice t.g.set.p t.g.set.n t.g.set.c) by rw [HcT.out]; rfl)
  have gy16 := (HY3.out.cell 16).trans (show cU[16]? = some (.slice u.g.set.p u.g.set.n u.g.set.c) by rw [HcU.out]; rfl)
  have gx17 := (HX3.out.cell 17).trans (show cT[17]? = some (.slice t.g.gone.p t.g.gone.n t.g.gone.c) by rw [HcT.out]; rfl)
  have gy17 := (HY3.out.cell 17).trans (show cU[17]? = some (.slice u.g.gone.p u.g.gone.n u.g.gone.c) by rw [HcU.out]; rfl)
  have gx18 := (HX3.out.cell 18).trans (show cT[18]? = some (.slice t.g.logs.p t.g.logs.n t.g.logs.c) by rw [HcT.out]; rfl)
  have gy18 := (HY3.out.cell 18).trans (show cU[18]? = some (.slice u.g.logs.p u.g.logs.n u.g.logs.c) by rw [HcU.out]; rfl)
  have gx19 := (HX3.out.cell 19).trans (show cT[19]? = some (.slice t.g.pend.p t.g.pend.n t.g.pend.c) by rw [HcT.out]; rfl)
  have gy19 := (HY3.out.cell 19).trans (show cU[19]? = some (.slice u.g.pend.p u.g.pend.n u.g.pend.c) by rw [HcU.out]; rfl)
  go_wp2_with fail
  refine (HG.out _ HB3.out).mono ?_
  rintro x w4 ⟨r4, rfl, hr4, hb4⟩
  have HB4 := hid (HB3.out.trans (hb4.mono HB3.out.size))
  have HX4 := hid (HX3.out.below hb4)
  have HY4 := hid (HY3.out.below hb4)
  clear gx9 gy9 gx10 gy10 gx11 gy11 gx12 gy12 gx13 gy13 gx14 gy14 gx15 gy15 gx16 gy16 gx17 gy17 gx18 gy18 gx19 gy19 hb4
  cases r4 with
  | false =>
    have HN : Hid (¬ ThAlike t u) := fun h => absurd (hr4.2 h.g) (by decide)
    clear hr4
    go_wp2_with fail
    go_ret
    exact yn_no HN.out HB4.out
  | true =>
  have HA4 := hid (hr4.1 rfl)
  clear hr4
  have mx20 := (HX4.out.cell 20).trans (show cT[20]? = some (.int .i64 t.m.id) by rw [HcT.out]; rfl)
  have my20 := (HY4.out.cell 20).trans (show cU[20]? = some (.int .i64 u.m.id) by rw [HcU.out]; rfl)
  have mx21 := (HX4.out.cell 21).trans (show cT[21]? = some (.int .u32 (t.m.sum : Int)) by rw [HcT.out]; rfl)
  have my21 := (HY4.out.cell 21).trans (show cU[21]? = some (.int .u32 (u.m.sum : Int)) by rw [HcU.out]; rfl)
  have mx22 := (HX4.out.cell 22).trans (show cT[22]? = some (.slice t.m.rows.p t.m.rows.n t.m.rows.c) by rw [HcT.out]; rfl)
  have my22 := (HY4.out.cell 22).trans (show cU[22]? = some (.slice u.m.rows.p u.m.rows.n u.m.rows.c) by rw [HcU.out]; rfl)
  go_wp2_with fail
  refine (HM.out _ HB4.out).mono ?_
  rintro x w5 ⟨r5, rfl, hr5, hb5⟩
  have HB5 := hid (HB4.out.trans (hb5.mono HB4.out.size))
  have HFin : Hid (r5 = true ↔ ThAlike t u) := ⟨fun h => ⟨HA.out.1, h7.symm, HA.out.2.1, h23.symm, HA.out.2.2, HA4.out, hr5.1 h⟩, fun h => hr5.2 h.m⟩
  clear mx20 my20 mx21 my21 mx22 my22 hb5 hr5
  go_wp2_with fail
  go_ret
  exact ⟨_, rfl, HFin.out, HB5.out⟩
end Go.Proofs.YtfonicphdejdlaaGreat
