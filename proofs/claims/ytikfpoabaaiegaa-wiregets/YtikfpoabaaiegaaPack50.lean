import Derived.Test.YtikfpoabaaiegaaPack49
import Derived.Test.YtikfpoabaaiegaaWtE
import Derived.Test.YtikfpoabaaiegaaPack32
import Derived.Test.YtikfpoabaaiegaaPack33
import Derived.Test.YtikfpoabaaiegaaGsF
import Derived.Test.YtikfpoabaaiegaaPack38
import Derived.Test.YtikfpoabaaiegaaPack39
import Derived.Test.YtikfpoabaaiegaaPack41
import Derived.Test.YtikfpoabaaiegaaPack42
import Derived.Test.YtikfpoabaaiegaaPack44
namespace Go.Proofs.Ytikfpoabaaiegaa
open Go.RowKit
set_option maxRecDepth 8000

end Go.Proofs.Ytikfpoabaaiegaa

namespace Go.Proofs.Ytikfpoabaaiegaa
open Go.RowKit
set_option maxRecDepth 8000

structure HI where
  kind : Int
  r : RT
  s : ST
  g : GI
  m : MI
  o : OI
def HI.cells (t : HI) : Array Value := #[.int .i64 t.kind, .string t.r.key, .int .i64 t.r.v.kind, .int .i64 t.r.v.int, .string t.r.v.text, .slice t.r.v.p t.r.v.n t.r.v.c, .slice t.r.p t.r.n t.r.c, .int .i64 t.s.num, .slice t.s.p t.s.n t.s.c, .int .i64 t.g.id, .int .i64 t.g.task, .int .i64 t.g.base, .int .u32 (t.g.sum : Int), .int .i64 t.g.st.num, .slice t.g.st.p t.g.st.n t.g.st.c, .int .i64 t.g.dnum, .slice t.g.set.p t.g.set.n t.g.set.c, .slice t.g.gone.p t.g.gone.n t.g.gone.c, .slice t.g.logs.p t.g.logs.n t.g.logs.c, .slice t.g.pend.p t.g.pend.n t.g.pend.c, .int .i64 t.m.id, .int .u32 (t.m.sum : Int), .slice t.m.rows.p t.m.rows.n t.m.rows.c, .int .i64 t.o.num, .string t.o.rec_.key, .int .i64 t.o.rec_.v.kind, .int .i64 t.o.rec_.v.int, .string t.o.rec_.v.text, .slice t.o.rec_.v.p t.o.rec_.v.n t.o.rec_.v.c, .slice t.o.rec_.p t.o.rec_.n t.o.rec_.c]
structure HI.In (w : World) (S : Nat → Prop) (t : HI) : Prop where
  k0 : -9223372036854775808 ≤ t.kind
  k1 : t.kind ≤ 9223372036854775807
  r : RT.In w S t.r
  s : ST.In2 w S t.s
  g : GI.In w S t.g
  m : LT.In elRowI w S t.m.rows
  msum : t.m.sum < 4294967296
  m0 : -9223372036854775808 ≤ t.m.id
  m1 : t.m.id ≤ 9223372036854775807
  o : RT.In w S t.o.rec_
  o0 : -9223372036854775808 ≤ t.o.num
  o1 : t.o.num ≤ 9223372036854775807
theorem HI.In.below {w w' : World} {S : Nat → Prop} {t : HI} (h : HI.In w S t) (hb : Below w.heap.size w w') : HI.In w' S t :=
  ⟨h.k0, h.k1, h.r.below hb, h.s.below hb, h.g.below hb, h.m.below hb, h.msum, h.m0, h.m1, h.o.below hb, h.o0, h.o1⟩
theorem HI.size (t : HI) : t.cells.size = 30 := rfl
theorem HI.one (t : HI) : t.cells.all (·.oneCell') = true := by simp [HI.cells, Value.oneCell']
end Go.Proofs.Ytikfpoabaaiegaa

namespace Go.Proofs.Ytikfpoabaaiegaa
open Go.RowKit
set_option maxRecDepth 8000
structure ThAlike (t u : HI) : Prop where
  r : RT.Alike t.r u.r
  snum : u.s.num = t.s.num
  s : CellsAlike t.s.lt u.s.lt
  onum : u.o.num = t.o.num
  o : RT.Alike t.o.rec_ u.o.rec_
  g : SgAlike t.g u.g
  m : MnAlike t.m u.m
theorem z_eq_no {i k : Int} (h : ¬ i = k) : (i == k) = false := by simpa using h
set_option maxHeartbeats 16000000 in
theorem yThing (t u : HI) (w : World) (S R : Nat → Prop) (ht : HI.In w S t) (hu : HI.In w R u) :
    Calls Try.prog 11 #[.agg t.cells, .agg u.cells] w fun e w' => YesNo (ThAlike t u) e w w' := by
  have HSc : Hid (∀ W, Below w.heap.size w W → Calls Try.prog 34 #[.slice t.s.p t.s.n t.s.c, .slice u.s.p u.s.n u.s.c] W fun e w' => YesNo (CellsAlike t.s.lt u.s.lt) e W w') := fun W hW => yCells t.s.lt u.s.lt W S R ((ST.toLT ht.s.i ht.s.nil).below hW) ((ST.toLT hu.s.i hu.s.nil).below hW)
  have HO : Hid (∀ W, Below w.heap.size w W → Calls Try.prog 35 #[t.o.rec_.val, u.o.rec_.val] W fun e w' => YesNo (RT.Alike t.o.rec_ u.o.rec_) e W w') := fun W hW => yRecord t.o.rec_ u.o.rec_ W S R (ht.o.below hW) (hu.o.below hW)
  have HR : Hid (∀ W, Below w.heap.size w W → Calls Try.prog 35 #[t.r.val, u.r.val] W fun e w' => YesNo (RT.Alike t.r u.r) e W w') := fun W hW => yRecord t.r u.r W S R (ht.r.below hW) (hu.r.below hW)
  have HG : Hid (∀ W, Below w.heap.size w W → Calls Try.prog 36 #[t.g.val, u.g.val] W fun e w' => YesNo (SgAlike t.g u.g) e W w') := fun W hW => ySegment t.g u.g W S R (ht.g.below hW) (hu.g.below hW)
  have HM : Hid (∀ W, Below w.heap.size w W → Calls Try.prog 37 #[t.m.val, u.m.val] W fun e w' => YesNo (MnAlike t.m u.m) e W w') := fun W hW => yManifest t.m u.m W S R (ht.m.below hW) (hu.m.below hW)
  unfold RT.val at HO HR
  unfold GI.val at HG
  unfold MI.val at HM
  clear ht hu
  obtain ⟨cT, hcT⟩ : ∃ c, c = t.cells := ⟨_, rfl⟩
  obtain ⟨cU, hcU⟩ : ∃ c, c = u.cells := ⟨_, rfl⟩
  rw [← hcT, ← hcU]
  have HcT := hid hcT
  have HcU := hid hcU
  clear hcT hcU
  have hb0 : Below w.heap.size w ((w.alloc (.cells cT 45)).alloc (.cells cU 45)) := ((Below.refl _ _).alloc (Nat.le_refl _) _).alloc (by simp) _
  have hx0 := (Box.new w cT 45).below ((Below.refl _ _).alloc (Nat.le_refl _) (.cells cU 45))
  have hy0 := Box.new (w.alloc (.cells cT 45)) cU 45
  rw [show (w.alloc (.cells cT 45)).heap.size = w.heap.size + 1 by simp] at hy0
  have HX0 := hid hx0
  have HY0 := hid hy0
  have HB0 := hid hb0
  clear hx0 hy0 hb0
  by_cases h7 : t.s.num = u.s.num
  case neg =>
    have hne := z_eq_no h7
    have sx7 := (HX0.out.cell 7).trans (show cT[7]? = some (.int .i64 t.s.num) by rw [HcT.out]; rfl)
    have sy7 := (HY0.out.cell 7).trans (show cU[7]? = some (.int .i64 u.s.num) by rw [HcU.out]; rfl)
    go_enter Try.func11, Try.ntmps11
    by_cases h23 : t.o.num = u.o.num
    case neg =>
      have hne2 := z_eq_no h23
      have ox23 := (HX0.out.cell 23).trans (show cT[23]? = some (.int .i64 t.o.num) by rw [HcT.out]; rfl)
      have oy23 := (HY0.out.cell 23).trans (show cU[23]? = some (.int .i64 u.o.num) by rw [HcU.out]; rfl)
      have rx1 := (HX0.out.cell 1).trans (show cT[1]? = some (.string t.r.key) by rw [HcT.out]; rfl)
      have ry1 := (HY0.out.cell 1).trans (show cU[1]? = some (.string u.r.key) by rw [HcU.out]; rfl)
      have rx2 := (HX0.out.cell 2).trans (show cT[2]? = some (.int .i64 t.r.v.kind) by rw [HcT.out]; rfl)
      have ry2 := (HY0.out.cell 2).trans (show cU[2]? = some (.int .i64 u.r.v.kind) by rw [HcU.out]; rfl)
      have rx3 := (HX0.out.cell 3).trans (show cT[3]? = some (.int .i64 t.r.v.int) by rw [HcT.out]; rfl)
      have ry3 := (HY0.out.cell 3).trans (show cU[3]? = some (.int .i64 u.r.v.int) by rw [HcU.out]; rfl)
      have rx4 := (HX0.out.cell 4).trans (show cT[4]? = some (.string t.r.v.text) by rw [HcT.out]; rfl)
      have ry4 := (HY0.out.cell 4).trans (show cU[4]? = some (.string u.r.v.text) by rw [HcU.out]; rfl)
      have rx5 := (HX0.out.cell 5).trans (show cT[5]? = some (.slice t.r.v.p t.r.v.n t.r.v.c) by rw [HcT.out]; rfl)
      have ry5 := (HY0.out.cell 5).trans (show cU[5]? = some (.slice u.r.v.p u.r.v.n u.r.v.c) by rw [HcU.out]; rfl)
      have rx6 := (HX0.out.cell 6).trans (show cT[6]? = some (.slice t.r.p t.r.n t.r.c) by rw [HcT.out]; rfl)
      have ry6 := (HY0.out.cell 6).trans (show cU[6]? = some (.slice u.r.p u.r.n u.r.c) by rw [HcU.out]; rfl)
      go_wp2_with fail
      refine (HR.out _ HB0.out).mono ?_
      rintro x w3 ⟨r3, rfl, hr3, hb3⟩
      have HB3 := hid (HB0.out.trans (hb3.mono HB0.out.size))
      have HX3 := hid (HX0.out.below hb3)
      have HY3 := hid (HY0.out.below hb3)
      clear rx1 ry1 rx2 ry2 rx3 ry3 rx4 ry4 rx5 ry5 rx6 ry6 hb3
      cases r3 with
      | false =>
        have HN : Hid (¬ ThAlike t u) := fun h => absurd (hr3.2 h.r) (by decide)
        clear hr3
        go_wp2_with fail
        go_ret
        exact yn_no HN.out HB3.out
      | true =>
      have HN : Hid (¬ ThAlike t u) := fun h => h7 h.snum.symm
      clear hr3
      go_wp2_with fail
      go_ret
      exact yn_no HN.out HB3.out
    have ox23 := (HX0.out.cell 23).trans (show cT[23]? = some (.int .i64 t.o.num) by rw [HcT.out]; rfl)
    have oy23 := (HY0.out.cell 23).trans (show cU[23]? = some (.int .i64 u.o.num) by rw [HcU.out]; rfl)
    have ox24 := (HX0.out.cell 24).trans (show cT[24]? = some (.string t.o.rec_.key) by rw [HcT.out]; rfl)
    have oy24 := (HY0.out.cell 24).trans (show cU[24]? = some (.string u.o.rec_.key) by rw [HcU.out]; rfl)
    have ox25 := (HX0.out.cell 25).trans (show cT[25]? = some (.int .i64 t.o.rec_.v.kind) by rw [HcT.out]; rfl)
    have oy25 := (HY0.out.cell 25).trans (show cU[25]? = some (.int .i64 u.o.rec_.v.kind) by rw [HcU.out]; rfl)
    have ox26 := (HX0.out.cell 26).trans (show cT[26]? = some (.int .i64 t.o.rec_.v.int) by rw [HcT.out]; rfl)
    have oy26 := (HY0.out.cell 26).trans (show cU[26]? = some (.int .i64 u.o.rec_.v.int) by rw [HcU.out]; rfl)
    have ox27 := (HX0.out.cell 27).trans (show cT[27]? = some (.string t.o.rec_.v.text) by rw [HcT.out]; rfl)
    have oy27 := (HY0.out.cell 27).trans (show cU[27]? = some (.string u.o.rec_.v.text) by rw [HcU.out]; rfl)
    have ox28 := (HX0.out.cell 28).trans (show cT[28]? = some (.slice t.o.rec_.v.p t.o.rec_.v.n t.o.rec_.v.c) by rw [HcT.out]; rfl)
    have oy28 := (HY0.out.cell 28).trans (show cU[28]? = some (.slice u.o.rec_.v.p u.o.rec_.v.n u.o.rec_.v.c) by rw [HcU.out]; rfl)
    have ox29 := (HX0.out.cell 29).trans (show cT[29]? = some (.slice t.o.rec_.p t.o.rec_.n t.o.rec_.c) by rw [HcT.out]; rfl)
    have oy29 := (HY0.out.cell 29).trans (show cU[29]? = some (.slice u.o.rec_.p u.o.rec_.n u.o.rec_.c) by rw [HcU.out]; rfl)
    rw [← h23] at oy23
    go_wp2_with fail
    refine (HO.out _ HB0.out).mono ?_
    rintro x w2 ⟨r2, rfl, hr2, hb2⟩
    have HB2 := hid (HB0.out.trans (hb2.mono HB0.out.size))
    have HX2 := hid (HX0.out.below hb2)
    have HY2 := hid (HY0.out.below hb2)
    clear ox23 oy23 ox24 oy24 ox25 oy25 ox26 oy26 ox27 oy27 ox28 oy28 ox29 oy29 hb2
    have rx1 := (HX2.out.cell 1).trans (show cT[1]? = some (.string t.r.key) by rw [HcT.out]; rfl)
    have ry1 := (HY2.out.cell 1).trans (show cU[1]? = some (.string u.r.key) by rw [HcU.out]; rfl)
    have rx2 := (HX2.out.cell 2).trans (show cT[2]? = some (.int .i64 t.r.v.kind) by rw [HcT.out]; rfl)
    have ry2 := (HY2.out.cell 2).trans (show cU[2]? = some (.int .i64 u.r.v.kind) by rw [HcU.out]; rfl)
    have rx3 := (HX2.out.cell 3).trans (show cT[3]? = some (.int .i64 t.r.v.int) by rw [HcT.out]; rfl)
    have ry3 := (HY2.out.cell 3).trans (show cU[3]? = some (.int .i64 u.r.v.int) by rw [HcU.out]; rfl)
    have rx4 := (HX2.out.cell 4).trans (show cT[4]? = some (.string t.r.v.text) by rw [HcT.out]; rfl)
    have ry4 := (HY2.out.cell 4).trans (show cU[4]? = some (.string u.r.v.text) by rw [HcU.out]; rfl)
    have rx5 := (HX2.out.cell 5).trans (show cT[5]? = some (.slice t.r.v.p t.r.v.n t.r.v.c) by rw [HcT.out]; rfl)
    have ry5 := (HY2.out.cell 5).trans (show cU[5]? = some (.slice u.r.v.p u.r.v.n u.r.v.c) by rw [HcU.out]; rfl)
    have rx6 := (HX2.out.cell 6).trans (show cT[6]? = some (.slice t.r.p t.r.n t.r.c) by rw [HcT.out]; rfl)
    have ry6 := (HY2.out.cell 6).trans (show cU[6]? = some (.slice u.r.p u.r.n u.r.c) by rw [HcU.out]; rfl)
    go_wp2_with fail
    refine (HR.out _ HB2.out).mono ?_
    rintro x w3 ⟨r3, rfl, hr3, hb3⟩
    have HB3 := hid (HB2.out.trans (hb3.mono HB2.out.size))
    have HX3 := hid (HX2.out.below hb3)
    have HY3 := hid (HY2.out.below hb3)
    clear rx1 ry1 rx2 ry2 rx3 ry3 rx4 ry4 rx5 ry5 rx6 ry6 hb3
    cases r3 with
    | false =>
      cases r2 with
      | false =>
        have HN : Hid (¬ ThAlike t u) := fun h => absurd (hr3.2 h.r) (by decide)
        clear hr3 hr2
        go_wp2_with fail
        go_ret
        exact yn_no HN.out HB3.out
      | true =>
        have HN : Hid (¬ ThAlike t u) := fun h => absurd (hr3.2 h.r) (by decide)
        clear hr3 hr2
        go_wp2_with fail
        go_ret
        exact yn_no HN.out HB3.out
    | true =>
    cases r2 with
    | false =>
      have HN : Hid (¬ ThAlike t u) := fun h => absurd (hr2.2 h.o) (by decide)
      clear hr3 hr2
      go_wp2_with fail
      go_ret
      exact yn_no HN.out HB3.out
    | true =>
    have HN : Hid (¬ ThAlike t u) := fun h => h7 h.snum.symm
    clear hr3 hr2
    go_wp2_with fail
    go_ret
    exact yn_no HN.out HB3.out
  have sx7 := (HX0.out.cell 7).trans (show cT[7]? = some (.int .i64 t.s.num) by rw [HcT.out]; rfl)
  have sy7 := (HY0.out.cell 7).trans (show cU[7]? = some (.int .i64 u.s.num) by rw [HcU.out]; rfl)
  have sx8 := (HX0.out.cell 8).trans (show cT[8]? = some (.slice t.s.p t.s.n t.s.c) by rw [HcT.out]; rfl)
  have sy8 := (HY0.out.cell 8).trans (show cU[8]? = some (.slice u.s.p u.s.n u.s.c) by rw [HcU.out]; rfl)
  rw [← h7] at sy7
  go_enter Try.func11, Try.ntmps11
  go_wp2_with fail
  refine (HSc.out _ HB0.out).mono ?_
  rintro x w1 ⟨r1, rfl, hr1, hb1⟩
  have HB1 := hid (HB0.out.trans (hb1.mono HB0.out.size))
  have HX1 := hid (HX0.out.below hb1)
  have HY1 := hid (HY0.out.below hb1)
  clear sx7 sy7 sx8 sy8 hb1
  by_cases h23 : t.o.num = u.o.num
  case neg =>
    have hne2 := z_eq_no h23
    have ox23 := (HX1.out.cell 23).trans (show cT[23]? = some (.int .i64 t.o.num) by rw [HcT.out]; rfl)
    have oy23 := (HY1.out.cell 23).trans (show cU[23]? = some (.int .i64 u.o.num) by rw [HcU.out]; rfl)
    have rx1 := (HX1.out.cell 1).trans (show cT[1]? = some (.string t.r.key) by rw [HcT.out]; rfl)
    have ry1 := (HY1.out.cell 1).trans (show cU[1]? = some (.string u.r.key) by rw [HcU.out]; rfl)
    have rx2 := (HX1.out.cell 2).trans (show cT[2]? = some (.int .i64 t.r.v.kind) by rw [HcT.out]; rfl)
    have ry2 := (HY1.out.cell 2).trans (show cU[2]? = some (.int .i64 u.r.v.kind) by rw [HcU.out]; rfl)
    have rx3 := (HX1.out.cell 3).trans (show cT[3]? = some (.int .i64 t.r.v.int) by rw [HcT.out]; rfl)
    have ry3 := (HY1.out.cell 3).trans (show cU[3]? = some (.int .i64 u.r.v.int) by rw [HcU.out]; rfl)
    have rx4 := (HX1.out.cell 4).trans (show cT[4]? = some (.string t.r.v.text) by rw [HcT.out]; rfl)
    have ry4 := (HY1.out.cell 4).trans (show cU[4]? = some (.string u.r.v.text) by rw [HcU.out]; rfl)
    have rx5 := (HX1.out.cell 5).trans (show cT[5]? = some (.slice t.r.v.p t.r.v.n t.r.v.c) by rw [HcT.out]; rfl)
    have ry5 := (HY1.out.cell 5).trans (show cU[5]? = some (.slice u.r.v.p u.r.v.n u.r.v.c) by rw [HcU.out]; rfl)
    have rx6 := (HX1.out.cell 6).trans (show cT[6]? = some (.slice t.r.p t.r.n t.r.c) by rw [HcT.out]; rfl)
    have ry6 := (HY1.out.cell 6).trans (show cU[6]? = some (.slice u.r.p u.r.n u.r.c) by rw [HcU.out]; rfl)
    go_wp2_with fail
    refine (HR.out _ HB1.out).mono ?_
    rintro x w3 ⟨r3, rfl, hr3, hb3⟩
    have HB3 := hid (HB1.out.trans (hb3.mono HB1.out.size))
    have HX3 := hid (HX1.out.below hb3)
    have HY3 := hid (HY1.out.below hb3)
    clear rx1 ry1 rx2 ry2 rx3 ry3 rx4 ry4 rx5 ry5 rx6 ry6 hb3
    cases r3 with
    | false =>
      cases r1 with
      | false =>
        have HN : Hid (¬ ThAlike t u) := fun h => absurd (hr3.2 h.r) (by decide)
        clear hr3 hr1
        go_wp2_with fail
        go_ret
        exact yn_no HN.out HB3.out
      | true =>
        have HN : Hid (¬ ThAlike t u) := fun h => absurd (hr3.2 h.r) (by decide)
        clear hr3 hr1
        go_wp2_with fail
        go_ret
        exact yn_no HN.out HB3.out
    | true =>
    cases r1 with
    | false =>
      have HN : Hid (¬ ThAlike t u) := fun h => absurd (hr1.2 h.s) (by decide)
      clear hr3 hr1
      go_wp2_with fail
      go_ret
      exact yn_no HN.out HB3.out
    | true =>
    have HN : Hid (¬ ThAlike t u) := fun h => h23 h.onum.symm
    clear hr3 hr1
    go_wp2_with fail
    go_ret
    exact yn_no HN.out HB3.out
  have ox23 := (HX1.out.cell 23).trans (show cT[23]? = some (.int .i64 t.o.num) by rw [HcT.out]; rfl)
  have oy23 := (HY1.out.cell 23).trans (show cU[23]? = some (.int .i64 u.o.num) by rw [HcU.out]; rfl)
  have ox24 := (HX1.out.cell 24).trans (show cT[24]? = some (.string t.o.rec_.key) by rw [HcT.out]; rfl)
  have oy24 := (HY1.out.cell 24).trans (show cU[24]? = some (.string u.o.rec_.key) by rw [HcU.out]; rfl)
  have ox25 := (HX1.out.cell 25).trans (show cT[25]? = some (.int .i64 t.o.rec_.v.kind) by rw [HcT.out]; rfl)
  have oy25 := (HY1.out.cell 25).trans (show cU[25]? = some (.int .i64 u.o.rec_.v.kind) by rw [HcU.out]; rfl)
  have ox26 := (HX1.out.cell 26).trans (show cT[26]? = some (.int .i64 t.o.rec_.v.int) by rw [HcT.out]; rfl)
  have oy26 := (HY1.out.cell 26).trans (show cU[26]? = some (.int .i64 u.o.rec_.v.int) by rw [HcU.out]; rfl)
  have ox27 := (HX1.out.cell 27).trans (show cT[27]? = some (.string t.o.rec_.v.text) by rw [HcT.out]; rfl)
  have oy27 := (HY1.out.cell 27).trans (show cU[27]? = some (.string u.o.rec_.v.text) by rw [HcU.out]; rfl)
  have ox28 := (HX1.out.cell 28).trans (show cT[28]? = some (.slice t.o.rec_.v.p t.o.rec_.v.n t.o.rec_.v.c) by rw [HcT.out]; rfl)
  have oy28 := (HY1.out.cell 28).trans (show cU[28]? = some (.slice u.o.rec_.v.p u.o.rec_.v.n u.o.rec_.v.c) by rw [HcU.out]; rfl)
  have ox29 := (HX1.out.cell 29).trans (show cT[29]? = some (.slice t.o.rec_.p t.o.rec_.n t.o.rec_.c) by rw [HcT.out]; rfl)
  have oy29 := (HY1.out.cell 29).trans (show cU[29]? = some (.slice u.o.rec_.p u.o.rec_.n u.o.rec_.c) by rw [HcU.out]; rfl)
  rw [← h23] at oy23
  go_wp2_with fail
  refine (HO.out _ HB1.out).mono ?_
  rintro x w2 ⟨r2, rfl, hr2, hb2⟩
  have HB2 := hid (HB1.out.trans (hb2.mono HB1.out.size))
  have HX2 := hid (HX1.out.below hb2)
  have HY2 := hid (HY1.out.below hb2)
  clear ox23 oy23 ox24 oy24 ox25 oy25 ox26 oy26 ox27 oy27 ox28 oy28 ox29 oy29 hb2
  have rx1 := (HX2.out.cell 1).trans (show cT[1]? = some (.string t.r.key) by rw [HcT.out]; rfl)
  have ry1 := (HY2.out.cell 1).trans (show cU[1]? = some (.string u.r.key) by rw [HcU.out]; rfl)
  have rx2 := (HX2.out.cell 2).trans (show cT[2]? = some (.int .i64 t.r.v.kind) by rw [HcT.out]; rfl)
  have ry2 := (HY2.out.cell 2).trans (show cU[2]? = some (.int .i64 u.r.v.kind) by rw [HcU.out]; rfl)
  have rx3 := (HX2.out.cell 3).trans (show cT[3]? = some (.int .i64 t.r.v.int) by rw [HcT.out]; rfl)
  have ry3 := (HY2.out.cell 3).trans (show cU[3]? = some (.int .i64 u.r.v.int) by rw [HcU.out]; rfl)
  have rx4 := (HX2.out.cell 4).trans (show cT[4]? = some (.string t.r.v.text) by rw [HcT.out]; rfl)
  have ry4 := (HY2.out.cell 4).trans (show cU[4]? = some (.string u.r.v.text) by rw [HcU.out]; rfl)
  have rx5 := (HX2.out.cell 5).trans (show cT[5]? = some (.slice t.r.v.p t.r.v.n t.r.v.c) by rw [HcT.out]; rfl)
  have ry5 := (HY2.out.cell 5).trans (show cU[5]? = some (.slice u.r.v.p u.r.v.n u.r.v.c) by rw [HcU.out]; rfl)
  have rx6 := (HX2.out.cell 6).trans (show cT[6]? = some (.slice t.r.p t.r.n t.r.c) by rw [HcT.out]; rfl)
  have ry6 := (HY2.out.cell 6).trans (show cU[6]? = some (.slice u.r.p u.r.n u.r.c) by rw [HcU.out]; rfl)
  go_wp2_with fail
  refine (HR.out _ HB2.out).mono ?_
  rintro x w3 ⟨r3, rfl, hr3, hb3⟩
  have HB3 := hid (HB2.out.trans (hb3.mono HB2.out.size))
  have HX3 := hid (HX2.out.below hb3)
  have HY3 := hid (HY2.out.below hb3)
  clear rx1 ry1 rx2 ry2 rx3 ry3 rx4 ry4 rx5 ry5 rx6 ry6 hb3
  cases r3 with
  | false =>
    cases r1 with
    | false =>
      cases r2 with
      | false =>
        have HN : Hid (¬ ThAlike t u) := fun h => absurd (hr3.2 h.r) (by decide)
        clear hr3 hr1 hr2
        go_wp2_with fail
        go_ret
        exact yn_no HN.out HB3.out
      | true =>
        have HN : Hid (¬ ThAlike t u) := fun h => absurd (hr3.2 h.r) (by decide)
        clear hr3 hr1 hr2
        go_wp2_with fail
        go_ret
        exact yn_no HN.out HB3.out
    | true =>
      cases r2 with
      | false =>
        have HN : Hid (¬ ThAlike t u) := fun h => absurd (hr3.2 h.r) (by decide)
        clear hr3 hr1 hr2
        go_wp2_with fail
        go_ret
        exact yn_no HN.out HB3.out
      | true =>
        have HN : Hid (¬ ThAlike t u) := fun h => absurd (hr3.2 h.r) (by decide)
        clear hr3 hr1 hr2
        go_wp2_with fail
        go_ret
        exact yn_no HN.out HB3.out
  | true =>
  cases r1 with
  | false =>
    cases r2 with
    | false =>
      have HN : Hid (¬ ThAlike t u) := fun h => absurd (hr1.2 h.s) (by decide)
      clear hr3 hr1 hr2
      go_wp2_with fail
      go_ret
      exact yn_no HN.out HB3.out
    | true =>
      have HN : Hid (¬ ThAlike t u) := fun h => absurd (hr1.2 h.s) (by decide)
      clear hr3 hr1 hr2
      go_wp2_with fail
      go_ret
      exact yn_no HN.out HB3.out
  | true =>
  cases r2 with
  | false =>
    have HN : Hid (¬ ThAlike t u) := fun h => absurd (hr2.2 h.o) (by decide)
    clear hr3 hr1 hr2
    go_wp2_with fail
    go_ret
    exact yn_no HN.out HB3.out
  | true =>
  have HA := hid (And.intro (hr3.1 rfl) (And.intro (hr1.1 rfl) (hr2.1 rfl)))
  clear hr3 hr1 hr2
  have gx9 := (HX3.out.cell 9).trans (show cT[9]? = some (.int .i64 t.g.id) by rw [HcT.out]; rfl)
  have gy9 := (HY3.out.cell 9).trans (show cU[9]? = some (.int .i64 u.g.id) by rw [HcU.out]; rfl)
  have gx10 := (HX3.out.cell 10).trans (show cT[10]? = some (.int .i64 t.g.task) by rw [HcT.out]; rfl)
  have gy10 := (HY3.out.cell 10).trans (show cU[10]? = some (.int .i64 u.g.task) by rw [HcU.out]; rfl)
  have gx11 := (HX3.out.cell 11).trans (show cT[11]? = some (.int .i64 t.g.base) by rw [HcT.out]; rfl)
  have gy11 := (HY3.out.cell 11).trans (show cU[11]? = some (.int .i64 u.g.base) by rw [HcU.out]; rfl)
  have gx12 := (HX3.out.cell 12).trans (show cT[12]? = some (.int .u32 (t.g.sum : Int)) by rw [HcT.out]; rfl)
  have gy12 := (HY3.out.cell 12).trans (show cU[12]? = some (.int .u32 (u.g.sum : Int)) by rw [HcU.out]; rfl)
  have gx13 := (HX3.out.cell 13).trans (show cT[13]? = some (.int .i64 t.g.st.num) by rw [HcT.out]; rfl)
  have gy13 := (HY3.out.cell 13).trans (show cU[13]? = some (.int .i64 u.g.st.num) by rw [HcU.out]; rfl)
  have gx14 := (HX3.out.cell 14).trans (show cT[14]? = some (.slice t.g.st.p t.g.st.n t.g.st.c) by rw [HcT.out]; rfl)
  have gy14 := (HY3.out.cell 14).trans (show cU[14]? = some (.slice u.g.st.p u.g.st.n u.g.st.c) by rw [HcU.out]; rfl)
  have gx15 := (HX3.out.cell 15).trans (show cT[15]? = some (.int .i64 t.g.dnum) by rw [HcT.out]; rfl)
  have gy15 := (HY3.out.cell 15).trans (show cU[15]? = some (.int .i64 u.g.dnum) by rw [HcU.out]; rfl)
  have gx16 := (HX3.out.cell 16).trans (show cT[16]? = some (.slice t.g.set.p t.g.set.n t.g.set.c) by rw [HcT.out]; rfl)
  have gy16 := (HY3.out.cell 16).trans (show cU[16]? = some (.slice u.g.set.p u.g.set.n u.g.set.c) by rw [HcU.out]; rfl)
  have gx17 := (HX3.out.cell 17).trans (show cT[17]? = some (.slice t.g.gone.p t.g.gone.n t.g.gone.c) by rw [HcT.out]; rfl)
  have gy17 := (HY3.out.cell 17).trans (show cU[17]? = some (.slice u.g.gone.p u.g.gone.n u.g.gone.c) by rw [HcU.out]; rfl)
  have gx18 := (HX3.out.cell 18).trans (show cT[18]? = some (.slice t.g.logs.p t.g.logs.n t.g.logs.c) by rw [HcT.out]; rfl)
  have gy18 := (HY3.out.cell 18).trans (show cU[18]? = some (.slice u.g.logs.p u.g.logs.n u.g.logs.c) by rw [HcU.out]; rfl)
  have gx19 := (HX3.out.cell 19).trans (show cT[19]? = some (.slice t.g.pend.p t.g.pend.n t.g.pend.c) by rw [HcT.out]; rfl)
  have gy19 := (HY3.out.cell 19).trans (show cU[19]? = some (.slice u.g.pend.p u.g.pend.n u.g.pend.c) by rw [HcU.out]; rfl)
  go_wp2_with fail
  refine (HG.out _ HB3.out).mono ?_
  rintro x w4 ⟨r4, rfl, hr4, hb4⟩
  have HB4 := hid (HB3.out.trans (hb4.mono HB3.out.size))
  have HX4 := hid (HX3.out.below hb4)
  have HY4 := hid (HY3.out.below hb4)
  clear gx9 gy9 gx10 gy10 gx11 gy11 gx12 gy12 gx13 gy13 gx14 gy14 gx15 gy15 gx16 gy16 gx17 gy17 gx18 gy18 gx19 gy19 hb4
  cases r4 with
  | false =>
    have HN : Hid (¬ ThAlike t u) := fun h => absurd (hr4.2 h.g) (by decide)
    clear hr4
    go_wp2_with fail
    go_ret
    exact yn_no HN.out HB4.out
  | true =>
  have HA4 := hid (hr4.1 rfl)
  clear hr4
  have mx20 := (HX4.out.cell 20).trans (show cT[20]? = some (.int .i64 t.m.id) by rw [HcT.out]; rfl)
  have my20 := (HY4.out.cell 20).trans (show cU[20]? = some (.int .i64 u.m.id) by rw [HcU.out]; rfl)
  have mx21 := (HX4.out.cell 21).trans (show cT[21]? = some (.int .u32 (t.m.sum : Int)) by rw [HcT.out]; rfl)
  have my21 := (HY4.out.cell 21).trans (show cU[21]? = some (.int .u32 (u.m.sum : Int)) by rw [HcU.out]; rfl)
  have mx22 := (HX4.out.cell 22).trans (show cT[22]? = some (.slice t.m.rows.p t.m.rows.n t.m.rows.c) by rw [HcT.out]; rfl)
  have my22 := (HY4.out.cell 22).trans (show cU[22]? = some (.slice u.m.rows.p u.m.rows.n u.m.rows.c) by rw [HcU.out]; rfl)
  go_wp2_with fail
  refine (HM.out _ HB4.out).mono ?_
  rintro x w5 ⟨r5, rfl, hr5, hb5⟩
  have HB5 := hid (HB4.out.trans (hb5.mono HB4.out.size))
  have HFin : Hid (r5 = true ↔ ThAlike t u) := ⟨fun h => ⟨HA.out.1, h7.symm, HA.out.2.1, h23.symm, HA.out.2.2, HA4.out, hr5.1 h⟩, fun h => hr5.2 h.m⟩
  clear mx20 my20 mx21 my21 mx22 my22 hb5 hr5
  go_wp2_with fail
  go_ret
  exact ⟨_, rfl, HFin.out, HB5.out⟩
end Go.Proofs.Ytikfpoabaaiegaa

namespace Go.Proofs.Ytikfpoabaaiegaa
open Go.RowKit
set_option maxRecDepth 8000
theorem ra_refl (r : RT) : RT.Alike r r := ⟨rfl, VT.Alike.refl _, rfl, fun _ _ => rfl⟩
theorem ca_refl (b : VT) : CAlike b b := ⟨rfl, rfl, fun _ _ => VT.Alike.refl _⟩
theorem cs_refl (l : LT VT) : CellsAlike l l := ⟨rfl, fun _ _ => ca_refl _⟩
theorem rs_refl (l : LT RT) : RecsAlike l l := ⟨rfl, fun _ _ => ra_refl _⟩
theorem sg_refl (g : GI) : SgAlike g g := ⟨rfl, rfl, rfl, rfl, rfl, rfl, ⟨rfl, fun _ _ => rs_refl _⟩, cs_refl _, cs_refl _, ⟨rfl, fun _ _ => rfl⟩, rs_refl _⟩
theorem mn_refl (m : MI) : MnAlike m m := ⟨rfl, rfl, rfl, fun _ _ => rfl⟩
theorem th_refl (t : HI) : ThAlike t t := ⟨ra_refl _, rfl, cs_refl _, rfl, ra_refl _, sg_refl _, mn_refl _⟩
def GT.of (u : GT) : GI := ⟨u.id, u.task, u.base, u.sum, u.st, u.d.num, u.d.set, u.d.gone, u.logs, u.pend⟩
def MT.of (u : MT) : MI := ⟨u.id, u.sum, ⟨u.rows.p, u.rows.n, u.rows.c, fun j => (((u.rows.item j).1 : Int), (u.rows.item j).2)⟩⟩
def OT.of (u : OT) : OI := ⟨u.num, u.rec_⟩
theorem GT.of_in {w : World} {S : Nat → Prop} {u : GT} (h : GT.In w S u) : GI.In w S u.of := by
  have h1 := h.id
  have h2 := h.task
  have h3 := h.base
  have h4 := h.d.n
  exact ⟨h.sum, by show _ ≤ (u.id : Int); omega, by show (u.id : Int) ≤ _; omega, by show _ ≤ (u.task : Int); omega, by show (u.task : Int) ≤ _; omega, by show _ ≤ (u.base : Int); omega, by show (u.base : Int) ≤ _; omega, h.st, by show _ ≤ (u.d.num : Int); omega, by show (u.d.num : Int) ≤ _; omega, h.d.set, h.d.gone, h.logs, h.pend⟩
theorem MT.of_in {w : World} {S : Nat → Prop} {u : MT} (h : MT.In w S u) : LT.In elRowI w S u.of.rows := by
  refine ⟨h.2.2.at_, fun j hj => ?_, h.2.2.nc, h.2.2.nn, h.2.2.cc, h.2.2.nil⟩
  have h1 : (u.rows.item j).1 ≤ 9223372036854775807 ∧ (u.rows.item j).2 < 4294967296 := h.2.2.each j hj
  exact ⟨⟨by show _ ≤ ((u.rows.item j).1 : Int); omega, by show ((u.rows.item j).1 : Int) ≤ _; omega⟩, h1.2⟩
theorem va_two {w : World} {S : Nat → Prop} {y a b : VT} (ha : VT.In w S a) (h : VT.Alike y a) (k : VT.Alike y b) : VT.Alike a b := (h.symm ha).trans k
theorem ra_two {w : World} {S : Nat → Prop} {y a b : RT} (ha : RT.In w S a) (h : RT.Alike y a) (k : RT.Alike y b) : RT.Alike a b :=
  ⟨k.key.trans h.key.symm, va_two ha.v h.v k.v, k.n.trans h.n.symm, fun j hj => (k.loop j (by rw [← h.n]; exact hj)).trans (h.loop j (by rw [← h.n]; exact hj)).symm⟩
theorem ca_two {w : World} {S : Nat → Prop} {y a b : VT} (ha : VT.In w S a) (h : VT.Alike y a) (k : VT.Alike y b) : CAlike a b := by
  have e := va_two ha h k
  exact ⟨e.text, e.n, fun _ hj => e.item hj⟩
theorem isl_two {α : Type} {E : El α} {Al T : α → α → Prop} {w : World} {S : Nat → Prop} {l u : LT α} {ys : List α} (hl : LT.In E w S l) (h : Isl Al l ys) (k : Isl Al u ys) (hc : ∀ y a b, E.In w S a → Al y a → Al y b → T a b) : u.n = l.n ∧ ∀ j, j < l.n → T (l.item j) (u.item j) := by
  refine ⟨k.1.trans h.1.symm, fun j hj => ?_⟩
  have hj' : j < ys.length := by rw [← h.1]; exact hj
  exact hc ys[j] _ _ (hl.each j hj) (h.2 j _ (List.getElem?_eq_getElem hj')) (k.2 j _ (List.getElem?_eq_getElem hj'))
theorem rs_two {w : World} {S : Nat → Prop} {y a b : LT RT} (ha : LT.In elRec w S a) (h : RecsAlike y a) (k : RecsAlike y b) : RecsAlike a b :=
  ⟨k.1.trans h.1.symm, fun j hj => ra_two (ha.each j hj) (h.2 j (by rw [← h.1]; exact hj)) (k.2 j (by rw [← h.1]; exact hj))⟩
theorem st_two {w : World} {S : Nat → Prop} {y a b : ST} (ha : ST.In2 w S a) (h : ST.Alike y a) (k : ST.Alike y b) : b.num = a.num ∧ CellsAlike a.lt b.lt :=
  ⟨k.num.trans h.num.symm, k.n.trans h.n.symm, fun j hj => ca_two (ha.i.each j hj) (h.cell j (by rw [← h.n]; exact hj)) (k.cell j (by rw [← h.n]; exact hj))⟩
theorem seg_two {w : World} {S : Nat → Prop} {y : GP} {a b : GT} (ha : GT.In w S a) (h : a.Is y) (k : b.Is y) : SgAlike a.of b.of := by
  have hs := st_two ha.st h.st k.st
  exact ⟨by show (b.id : Int) = a.id; rw [k.id, h.id], by show (b.task : Int) = a.task; rw [k.task, h.task], by show (b.base : Int) = a.base; rw [k.base, h.base], k.sum.trans h.sum.symm, hs.1, by show (b.d.num : Int) = a.d.num; rw [k.d.1, h.d.1],
    isl_two ha.logs h.logs k.logs fun _ _ _ h1 h2 h3 => rs_two h1 h2 h3, hs.2, isl_two ha.d.set h.d.2.1 k.d.2.1 fun _ _ _ h1 h2 h3 => ca_two h1 h2 h3, isl_two ha.d.gone h.d.2.2 k.d.2.2 fun _ _ _ _ h2 h3 => h3.trans h2.symm, isl_two ha.pend h.pend k.pend fun _ _ _ h1 h2 h3 => ra_two h1 h2 h3⟩
theorem man_two {w : World} {S : Nat → Prop} {y : Nat × Nat × List (Nat × Nat)} {a b : MT} (ha : MT.In w S a) (h : a.Is y) (k : b.Is y) : MnAlike a.of b.of := by
  have hl := isl_two (T := fun a c => c = a) ha.2.2 h.2.2 k.2.2 fun _ _ _ _ h2 h3 => h3.trans h2.symm
  refine ⟨by show (b.id : Int) = a.id; rw [k.1, h.1], k.2.1.trans h.2.1.symm, hl.1, fun j hj => ?_⟩
  show (((b.rows.item j).1 : Int), (b.rows.item j).2) = (((a.rows.item j).1 : Int), (a.rows.item j).2)
  rw [hl.2 j hj]
theorem two_get {α β : Type} {s : RS α} {val val2 : β → Value} {zero : β} {In : World → (Nat → Prop) → β → Prop} {Is : β → α → Prop} {w w2 : World} {B : List Int} {t t2 : β} {k k2 : Int} {w' w2' : World} (h : GetP s val zero In Is w B t k w') (h2 : GetP s val2 zero In Is w2 B t2 k2 w2') : k2 = k ∧ ((t = zero ∧ t2 = zero) ∨ ∃ y, Is t y ∧ Is t2 y) := by
  cases hZ : s B with
  | error e =>
    obtain ⟨a, _, b⟩ := h.bad e hZ
    obtain ⟨a2, _, b2⟩ := h2.bad e hZ
    exact ⟨a2.trans a.symm, .inl ⟨b, b2⟩⟩
  | ok z =>
    obtain ⟨y, R⟩ := z
    cases R with
    | nil =>
      obtain ⟨a, b⟩ := h.good y hZ
      obtain ⟨a2, b2⟩ := h2.good y hZ
      exact ⟨a2.trans a.symm, .inr ⟨y, b, b2⟩⟩
    | cons z R =>
      obtain ⟨a, b⟩ := h.more y z R hZ
      obtain ⟨a2, b2⟩ := h2.more y z R hZ
      exact ⟨a2.trans a.symm, .inl ⟨b, b2⟩⟩
def GetQ (R : HI → Int → Prop) (W : World) (x : Ending) (w' : World) : Prop := ∃ (u : HI) (e : Int), x = .returned (.tuple #[.agg u.cells, .int .i64 e]) ∧ HI.In w' (fun b => b < w'.heap.size) u ∧ Below W.heap.size W w' ∧ R u e
def GetsP (k : Int) (p : Option Addr) (c : Nat) (B : List Int) (w : World) : Prop := ∃ R : HI → Int → Prop, (∀ t e u f, R t e → R u f → f = e ∧ ThAlike t u) ∧ (∀ W, Below w.heap.size w W → Calls Try.prog 10 #[.int .i64 k, .slice p B.length c] W fun x w' => GetQ R W x w') ∧ (∀ W, Below w.heap.size w W → Calls Try.prog 9 #[.int .i64 k, .slice p B.length c] W fun x w' => GetQ R W x w')
def RRec (k : Int) (B : List Int) : HI → Int → Prop := fun (u : HI) (e : Int) => ∃ (t : RT) (W w' : World), u = ⟨k, t, noS, zGT.of, zMT.of, zOT.of⟩ ∧ GetP recS RT.val zRT RT.In (fun t y => RT.Alike y t) W B t e w'
theorem qRec (k : Int) (hk0 : -9223372036854775808 ≤ k) (hk1 : k ≤ 9223372036854775807) {B : List Int} {W : World} {x : Ending} {w' : World} (h : ∃ t e W1 wg, x = .returned (.tuple #[.agg (thRT k t), .int .i64 e]) ∧ Below W.heap.size W W1 ∧ W1.heap.size = W.heap.size + 2 ∧ GetP recS RT.val zRT RT.In (fun t y => RT.Alike y t) W1 B t e wg ∧ But (fun y => y = W.heap.size ∨ y = W.heap.size + 1) wg w') : GetQ (RRec k B) W x w' := by
  obtain ⟨t, e, W1, wg, rfl, hbW, hWs, hg, hkg⟩ := h
  have hsg := hg.bel.size
  have hsW := hbW.size
  have hb : Below W.heap.size W w' := (hbW.trans (hg.bel.mono (by omega))).trans (hkg.below (by omega) (fun k hk h => by omega))
  have hin : RT.In w' (fun b => W1.heap.size ≤ b) t := RT.In.but hg.inn hkg (fun b hb _ h => by omega)
  have hin2 := RT.In.mono (S' := fun b => b < w'.heap.size) hin (fun b _ hl => hl)
  exact ⟨⟨k, t, noS, zGT.of, zMT.of, zOT.of⟩, e, rfl, ⟨hk0, hk1, hin2, in_noS _ _, GT.of_in (in_zGT _ _), MT.of_in (in_zMT _ _), (in_zMT w' (fun _ => True)).2.1, by show (-9223372036854775808 : Int) ≤ 0; decide, by show (0 : Int) ≤ 9223372036854775807; decide, in_zRT _ _, by show (-9223372036854775808 : Int) ≤ 0; decide, by show (0 : Int) ≤ 9223372036854775807; decide⟩, hb, t, W1, wg, rfl, hg⟩
theorem RRec.two {k : Int} {B : List Int} (t : HI) (e : Int) (u : HI) (f : Int) (h : RRec k B t e) (h' : RRec k B u f) : f = e ∧ ThAlike t u := by
  obtain ⟨t1, W1, w1, rfl, h1⟩ := h
  obtain ⟨t2, W2, w2, rfl, h2⟩ := h'
  obtain ⟨he, hz⟩ := two_get h1 h2
  refine ⟨he, ?_⟩
  rcases hz with ⟨rfl, rfl⟩ | ⟨y, a, b⟩
  · exact th_refl _
  · exact ⟨ra_two h1.inn a b, rfl, cs_refl _, rfl, ra_refl _, sg_refl _, mn_refl _⟩
def RSt (B : List Int) : HI → Int → Prop := fun (u : HI) (e : Int) => ∃ (t : ST) (W w' : World), u = ⟨2, zRT, t, zGT.of, zMT.of, zOT.of⟩ ∧ GetP stateS ST.val noS ST.In2 (fun t y => ST.Alike y t) W B t e w'
theorem qSt  {B : List Int} {W : World} {x : Ending} {w' : World} (h : ∃ t e W1 wg, x = .returned (.tuple #[.agg (thST 2 t), .int .i64 e]) ∧ Below W.heap.size W W1 ∧ W1.heap.size = W.heap.size + 2 ∧ GetP stateS ST.val noS ST.In2 (fun t y => ST.Alike y t) W1 B t e wg ∧ But (fun y => y = W.heap.size ∨ y = W.heap.size + 1) wg w') : GetQ (RSt B) W x w' := by
  have hk0 : -9223372036854775808 ≤ (2 : Int) := by decide
  have hk1 : (2 : Int) ≤ 9223372036854775807 := by decide
  obtain ⟨t, e, W1, wg, rfl, hbW, hWs, hg, hkg⟩ := h
  have hsg := hg.bel.size
  have hsW := hbW.size
  have hb : Below W.heap.size W w' := (hbW.trans (hg.bel.mono (by omega))).trans (hkg.below (by omega) (fun k hk h => by omega))
  have hin : ST.In2 w' (fun b => W1.heap.size ≤ b) t := ST.In2.but hg.inn hkg (fun b hb _ h => by omega)
  have hin2 := ST.In2.mono (S' := fun b => b < w'.heap.size) hin (fun b _ hl => hl)
  exact ⟨⟨2, zRT, t, zGT.of, zMT.of, zOT.of⟩, e, rfl, ⟨hk0, hk1, in_zRT _ _, hin2, GT.of_in (in_zGT _ _), MT.of_in (in_zMT _ _), (in_zMT w' (fun _ => True)).2.1, by show (-9223372036854775808 : Int) ≤ 0; decide, by show (0 : Int) ≤ 9223372036854775807; decide, in_zRT _ _, by show (-9223372036854775808 : Int) ≤ 0; decide, by show (0 : Int) ≤ 9223372036854775807; decide⟩, hb, t, W1, wg, rfl, hg⟩
theorem RSt.two {B : List Int} (t : HI) (e : Int) (u : HI) (f : Int) (h : RSt B t e) (h' : RSt B u f) : f = e ∧ ThAlike t u := by
  obtain ⟨t1, W1, w1, rfl, h1⟩ := h
  obtain ⟨t2, W2, w2, rfl, h2⟩ := h'
  obtain ⟨he, hz⟩ := two_get h1 h2
  refine ⟨he, ?_⟩
  rcases hz with ⟨rfl, rfl⟩ | ⟨y, a, b⟩
  · exact th_refl _
  · exact ⟨ra_refl _, (st_two h1.inn a b).1, (st_two h1.inn a b).2, rfl, ra_refl _, sg_refl _, mn_refl _⟩
def RSeg (B : List Int) : HI → Int → Prop := fun (u : HI) (e : Int) => ∃ (t : GT) (W w' : World), u = ⟨3, zRT, noS, t.of, zMT.of, zOT.of⟩ ∧ GetP segS GT.val zGT GT.In GT.Is W B t e w'
theorem qSeg  {B : List Int} {W : World} {x : Ending} {w' : World} (h : ∃ t e W1 wg, x = .returned (.tuple #[.agg (thGT 3 t), .int .i64 e]) ∧ Below W.heap.size W W1 ∧ W1.heap.size = W.heap.size + 2 ∧ GetP segS GT.val zGT GT.In GT.Is W1 B t e wg ∧ But (fun y => y = W.heap.size ∨ y = W.heap.size + 1) wg w') : GetQ (RSeg B) W x w' := by
  have hk0 : -9223372036854775808 ≤ (3 : Int) := by decide
  have hk1 : (3 : Int) ≤ 9223372036854775807 := by decide
  obtain ⟨t, e, W1, wg, rfl, hbW, hWs, hg, hkg⟩ := h
  have hsg := hg.bel.size
  have hsW := hbW.size
  have hb : Below W.heap.size W w' := (hbW.trans (hg.bel.mono (by omega))).trans (hkg.below (by omega) (fun k hk h => by omega))
  have hin : GT.In w' (fun b => W1.heap.size ≤ b) t := GT.In.but hg.inn hkg (fun b hb _ h => by omega)
  have hin2 := GT.In.mono (S' := fun b => b < w'.heap.size) hin (fun b _ hl => hl)
  exact ⟨⟨3, zRT, noS, t.of, zMT.of, zOT.of⟩, e, rfl, ⟨hk0, hk1, in_zRT _ _, in_noS _ _, GT.of_in hin2, MT.of_in (in_zMT _ _), (in_zMT w' (fun _ => True)).2.1, by show (-9223372036854775808 : Int) ≤ 0; decide, by show (0 : Int) ≤ 9223372036854775807; decide, in_zRT _ _, by show (-9223372036854775808 : Int) ≤ 0; decide, by show (0 : Int) ≤ 9223372036854775807; decide⟩, hb, t, W1, wg, rfl, hg⟩
theorem RSeg.two {B : List Int} (t : HI) (e : Int) (u : HI) (f : Int) (h : RSeg B t e) (h' : RSeg B u f) : f = e ∧ ThAlike t u := by
  obtain ⟨t1, W1, w1, rfl, h1⟩ := h
  obtain ⟨t2, W2, w2, rfl, h2⟩ := h'
  obtain ⟨he, hz⟩ := two_get h1 h2
  refine ⟨he, ?_⟩
  rcases hz with ⟨rfl, rfl⟩ | ⟨y, a, b⟩
  · exact th_refl _
  · exact ⟨ra_refl _, rfl, cs_refl _, rfl, ra_refl _, seg_two h1.inn a b, mn_refl _⟩
def RMan (B : List Int) : HI → Int → Prop := fun (u : HI) (e : Int) => ∃ (t : MT) (W w' : World), u = ⟨4, zRT, noS, zGT.of, t.of, zOT.of⟩ ∧ GetP manS MT.val zMT MT.In MT.Is W B t e w'
theorem qMan  {B : List Int} {W : World} {x : Ending} {w' : World} (h : ∃ t e W1 wg, x = .returned (.tuple #[.agg (thMT 4 t), .int .i64 e]) ∧ Below W.heap.size W W1 ∧ W1.heap.size = W.heap.size + 2 ∧ GetP manS MT.val zMT MT.In MT.Is W1 B t e wg ∧ But (fun y => y = W.heap.size ∨ y = W.heap.size + 1) wg w') : GetQ (RMan B) W x w' := by
  have hk0 : -9223372036854775808 ≤ (4 : Int) := by decide
  have hk1 : (4 : Int) ≤ 9223372036854775807 := by decide
  obtain ⟨t, e, W1, wg, rfl, hbW, hWs, hg, hkg⟩ := h
  have hsg := hg.bel.size
  have hsW := hbW.size
  have hb : Below W.heap.size W w' := (hbW.trans (hg.bel.mono (by omega))).trans (hkg.below (by omega) (fun k hk h => by omega))
  have hin : MT.In w' (fun b => W1.heap.size ≤ b) t := MT.In.but hg.inn hkg (fun b hb _ h => by omega)
  have hin2 := MT.In.mono (S' := fun b => b < w'.heap.size) hin (fun b _ hl => hl)
  exact ⟨⟨4, zRT, noS, zGT.of, t.of, zOT.of⟩, e, rfl, ⟨hk0, hk1, in_zRT _ _, in_noS _ _, GT.of_in (in_zGT _ _), MT.of_in hin2, hin2.2.1, by show _ ≤ (t.id : Int); omega, by show (t.id : Int) ≤ _; have := hin2.1; omega, in_zRT _ _, by show (-9223372036854775808 : Int) ≤ 0; decide, by show (0 : Int) ≤ 9223372036854775807; decide⟩, hb, t, W1, wg, rfl, hg⟩
theorem RMan.two {B : List Int} (t : HI) (e : Int) (u : HI) (f : Int) (h : RMan B t e) (h' : RMan B u f) : f = e ∧ ThAlike t u := by
  obtain ⟨t1, W1, w1, rfl, h1⟩ := h
  obtain ⟨t2, W2, w2, rfl, h2⟩ := h'
  obtain ⟨he, hz⟩ := two_get h1 h2
  refine ⟨he, ?_⟩
  rcases hz with ⟨rfl, rfl⟩ | ⟨y, a, b⟩
  · exact th_refl _
  · exact ⟨ra_refl _, rfl, cs_refl _, rfl, ra_refl _, sg_refl _, man_two h1.inn a b⟩
def RRow (B : List Int) : HI → Int → Prop := fun (u : HI) (e : Int) => ∃ (t : OT) (W w' : World), u = ⟨5, zRT, noS, zGT.of, zMT.of, t.of⟩ ∧ GetP outS OT.val zOT OT.In (fun o y => o.num = y.1 ∧ RT.Alike y.2 o.rec_) W B t e w'
theorem qRow  {B : List Int} {W : World} {x : Ending} {w' : World} (h : ∃ t e W1 wg, x = .returned (.tuple #[.agg (thOT 5 t), .int .i64 e]) ∧ Below W.heap.size W W1 ∧ W1.heap.size = W.heap.size + 2 ∧ GetP outS OT.val zOT OT.In (fun o y => o.num = y.1 ∧ RT.Alike y.2 o.rec_) W1 B t e wg ∧ But (fun y => y = W.heap.size ∨ y = W.heap.size + 1) wg w') : GetQ (RRow B) W x w' := by
  have hk0 : -9223372036854775808 ≤ (5 : Int) := by decide
  have hk1 : (5 : Int) ≤ 9223372036854775807 := by decide
  obtain ⟨t, e, W1, wg, rfl, hbW, hWs, hg, hkg⟩ := h
  have hsg := hg.bel.size
  have hsW := hbW.size
  have hb : Below W.heap.size W w' := (hbW.trans (hg.bel.mono (by omega))).trans (hkg.below (by omega) (fun k hk h => by omega))
  have hin : OT.In w' (fun b => W1.heap.size ≤ b) t := OT.In.but hg.inn hkg (fun b hb _ h => by omega)
  have hin2 := OT.In.mono (S' := fun b => b < w'.heap.size) hin (fun b _ hl => hl)
  exact ⟨⟨5, zRT, noS, zGT.of, zMT.of, t.of⟩, e, rfl, ⟨hk0, hk1, in_zRT _ _, in_noS _ _, GT.of_in (in_zGT _ _), MT.of_in (in_zMT _ _), (in_zMT w' (fun _ => True)).2.1, by show (-9223372036854775808 : Int) ≤ 0; decide, by show (0 : Int) ≤ 9223372036854775807; decide, hin2.2, by show _ ≤ (t.num : Int); omega, by show (t.num : Int) ≤ _; have := hin2.1; omega⟩, hb, t, W1, wg, rfl, hg⟩
theorem RRow.two {B : List Int} (t : HI) (e : Int) (u : HI) (f : Int) (h : RRow B t e) (h' : RRow B u f) : f = e ∧ ThAlike t u := by
  obtain ⟨t1, W1, w1, rfl, h1⟩ := h
  obtain ⟨t2, W2, w2, rfl, h2⟩ := h'
  obtain ⟨he, hz⟩ := two_get h1 h2
  refine ⟨he, ?_⟩
  rcases hz with ⟨rfl, rfl⟩ | ⟨y, a, b⟩
  · exact th_refl _
  · exact ⟨ra_refl _, rfl, cs_refl _, by show (t2.num : Int) = t1.num; rw [b.1, a.1], ra_two h1.inn.2 a.2 b.2, sg_refl _, mn_refl _⟩
theorem gets_any (k : Int) (hk0 : -9223372036854775808 ≤ k) (hk1 : k ≤ 9223372036854775807) (w : World) (S : Nat → Prop) (p : Option Addr) (c : Nat) (B : List Int) (hB : Byts w S p B.length c (fun j => B.getD j 0)) (hS : ∀ b, S b → b < w.heap.size) (hl : B.length ≤ 1000000) (hBy : Byt B) : GetsP k p c B w := by
  by_cases n2 : k = 2
  · subst n2
    exact ⟨RSt B, RSt.two, fun W hW => (lawgetSt W (.slice p B.length c) (fun W t k w' => GetP stateS ST.val noS ST.In2 (fun t y => ST.Alike y t) W B t k w') (fun _ _ _ _ h => h.bel) (fun W2 hW2 => getSt W2 S p c B (hB.kept (Nat.le_trans hW.size hW2.size) fun b _ hl => (hW2.block b (Nat.lt_of_lt_of_le hl hW.size)).trans (hW.block b hl)) (fun b hb => Nat.lt_of_lt_of_le (hS b hb) (Nat.le_trans hW.size hW2.size)))).mono fun x w' h => qSt h,
      fun W hW => (lawrgetSt W (.slice p B.length c) (fun W t k w' => GetP stateS ST.val noS ST.In2 (fun t y => ST.Alike y t) W B t k w') (fun _ _ _ _ h => h.bel) (fun W2 hW2 => refGetSt W2 S p c B (hB.kept (Nat.le_trans hW.size hW2.size) fun b _ hl => (hW2.block b (Nat.lt_of_lt_of_le hl hW.size)).trans (hW.block b hl)) (fun b hb => Nat.lt_of_lt_of_le (hS b hb) (Nat.le_trans hW.size hW2.size)) hl hBy)).mono fun x w' h => qSt h⟩
  by_cases n3 : k = 3
  · subst n3
    exact ⟨RSeg B, RSeg.two, fun W hW => (lawgetSeg W (.slice p B.length c) (fun W t k w' => GetP segS GT.val zGT GT.In GT.Is W B t k w') (fun _ _ _ _ h => h.bel) (fun W2 hW2 => getSeg W2 S p c B (hB.kept (Nat.le_trans hW.size hW2.size) fun b _ hl => (hW2.block b (Nat.lt_of_lt_of_le hl hW.size)).trans (hW.block b hl)) (fun b hb => Nat.lt_of_lt_of_le (hS b hb) (Nat.le_trans hW.size hW2.size)))).mono fun x w' h => qSeg h,
      fun W hW => (lawrgetSeg W (.slice p B.length c) (fun W t k w' => GetP segS GT.val zGT GT.In GT.Is W B t k w') (fun _ _ _ _ h => h.bel) (fun W2 hW2 => refGetSeg W2 S p c B (hB.kept (Nat.le_trans hW.size hW2.size) fun b _ hl => (hW2.block b (Nat.lt_of_lt_of_le hl hW.size)).trans (hW.block b hl)) (fun b hb => Nat.lt_of_lt_of_le (hS b hb) (Nat.le_trans hW.size hW2.size)) hl hBy)).mono fun x w' h => qSeg h⟩
  by_cases n4 : k = 4
  · subst n4
    exact ⟨RMan B, RMan.two, fun W hW => (lawgetMan W (.slice p B.length c) (fun W t k w' => GetP manS MT.val zMT MT.In MT.Is W B t k w') (fun _ _ _ _ h => h.bel) (fun W2 hW2 => getMan W2 S p c B (hB.kept (Nat.le_trans hW.size hW2.size) fun b _ hl => (hW2.block b (Nat.lt_of_lt_of_le hl hW.size)).trans (hW.block b hl)) (fun b hb => Nat.lt_of_lt_of_le (hS b hb) (Nat.le_trans hW.size hW2.size)))).mono fun x w' h => qMan h,
      fun W hW => (lawrgetMan W (.slice p B.length c) (fun W t k w' => GetP manS MT.val zMT MT.In MT.Is W B t k w') (fun _ _ _ _ h => h.bel) (fun W2 hW2 => refGetMan W2 S p c B (hB.kept (Nat.le_trans hW.size hW2.size) fun b _ hl => (hW2.block b (Nat.lt_of_lt_of_le hl hW.size)).trans (hW.block b hl)) (fun b hb => Nat.lt_of_lt_of_le (hS b hb) (Nat.le_trans hW.size hW2.size)) hl hBy)).mono fun x w' h => qMan h⟩
  by_cases n5 : k = 5
  · subst n5
    exact ⟨RRow B, RRow.two, fun W hW => (lawgetRow W (.slice p B.length c) (fun W t k w' => GetP outS OT.val zOT OT.In (fun o y => o.num = y.1 ∧ RT.Alike y.2 o.rec_) W B t k w') (fun _ _ _ _ h => h.bel) (fun W2 hW2 => getRow W2 S p c B (hB.kept (Nat.le_trans hW.size hW2.size) fun b _ hl => (hW2.block b (Nat.lt_of_lt_of_le hl hW.size)).trans (hW.block b hl)) (fun b hb => Nat.lt_of_lt_of_le (hS b hb) (Nat.le_trans hW.size hW2.size)))).mono fun x w' h => qRow h,
      fun W hW => (lawrgetRow W (.slice p B.length c) (fun W t k w' => GetP outS OT.val zOT OT.In (fun o y => o.num = y.1 ∧ RT.Alike y.2 o.rec_) W B t k w') (fun _ _ _ _ h => h.bel) (fun W2 hW2 => refGetRow W2 S p c B (hB.kept (Nat.le_trans hW.size hW2.size) fun b _ hl => (hW2.block b (Nat.lt_of_lt_of_le hl hW.size)).trans (hW.block b hl)) (fun b hb => Nat.lt_of_lt_of_le (hS b hb) (Nat.le_trans hW.size hW2.size)) hl hBy)).mono fun x w' h => qRow h⟩
  exact ⟨RRec k B, RRec.two, fun W hW => (lawgetRec k n2 n3 n4 n5 W (.slice p B.length c) (fun W t k w' => GetP recS RT.val zRT RT.In (fun t y => RT.Alike y t) W B t k w') (fun _ _ _ _ h => h.bel) (fun W2 hW2 => getRec W2 S p c B (hB.kept (Nat.le_trans hW.size hW2.size) fun b _ hl => (hW2.block b (Nat.lt_of_lt_of_le hl hW.size)).trans (hW.block b hl)) (fun b hb => Nat.lt_of_lt_of_le (hS b hb) (Nat.le_trans hW.size hW2.size)))).mono fun x w' h => qRec k hk0 hk1 h,
      fun W hW => (lawrgetRec k n2 n3 n4 n5 W (.slice p B.length c) (fun W t k w' => GetP recS RT.val zRT RT.In (fun t y => RT.Alike y t) W B t k w') (fun _ _ _ _ h => h.bel) (fun W2 hW2 => refGetRec W2 S p c B (hB.kept (Nat.le_trans hW.size hW2.size) fun b _ hl => (hW2.block b (Nat.lt_of_lt_of_le hl hW.size)).trans (hW.block b hl)) (fun b hb => Nat.lt_of_lt_of_le (hS b hb) (Nat.le_trans hW.size hW2.size)) hl hBy)).mono fun x w' h => qRec k hk0 hk1 h⟩
end Go.Proofs.Ytikfpoabaaiegaa

namespace Go.Proofs.Ytikfpoabaaiegaa
open Go.RowKit
set_option maxRecDepth 8000

end Go.Proofs.Ytikfpoabaaiegaa
