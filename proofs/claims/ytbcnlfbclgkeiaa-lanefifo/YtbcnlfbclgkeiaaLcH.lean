import Derived.Test.YtbcnlfbclgkeiaaLcG
import Derived.Test.YtbcnlfbclgkeiaaKfD
namespace Go.Proofs.Ytbcnlfbclgkeiaa
open Go.RowKit Go.Conc
set_option maxRecDepth 8000
theorem VT.Alike.total : ∀ {t u : VT}, VT.Alike t u → u.total = t.total := by
  intro t
  induction t with
  | nil => intro u h; rw [show u = .nil from h]
  | mk k i s n p c f ih =>
    intro u h
    cases u with
    | nil =>
      have e := h.n
      simp only [VT.n] at e
      subst e
      simp [VT.total]
    | mk k2 i2 s2 n2 p2 c2 f2 =>
      have e : n2 = n := h.n
      subst e
      simp only [VT.total]
      congr 2
      refine List.map_congr_left fun j hj => ?_
      exact ih j (h.item (List.mem_range.1 hj))
/-- a copy of an item: a marker leaves its record behind -/
structure CopyI (x u : IT) : Prop where
  m : u.mark = x.mark
  r : x.mark = 0 → RT.Alike x.r u.r
  z : x.mark ≠ 0 → u.r = rz
theorem CopyI.fine {x u : IT} (h : CopyI x u) (hs : x.r.n + x.r.v.total ≤ 10000) (hm : 0 ≤ x.mark) : IT.Fine u := by
  by_cases h0 : x.mark = 0
  · have ha := h.r h0
    exact ⟨by rw [ha.n, ha.v.total]; exact hs, by rw [h.m]; exact hm, fun e => absurd (h.m.trans h0) e⟩
  · have hz := h.z h0
    refine ⟨by rw [hz]; decide, by rw [h.m]; exact hm, fun _ => hz⟩
theorem CopyI.refl {x : IT} (h : IT.Fine x) : CopyI x x := ⟨rfl, fun _ => ⟨rfl, VT.Alike.refl _, rfl, fun _ _ => rfl⟩, h.z⟩
def CpQ (w : World) (x : IT) (e : Ending) (w' : World) : Prop := ∃ u : IT, e = .returned (.agg #[.int .i64 u.mark, .string u.r.key, .int .i64 u.r.v.kind, .int .i64 u.r.v.int, .string u.r.v.text, .slice u.r.v.p u.r.v.n u.r.v.c, .slice u.r.p u.r.n u.r.c]) ∧ CopyI x u ∧ IT.In w' (fun k => w.heap.size ≤ k) u ∧ Below w.heap.size w w'
set_option maxRecDepth 60000 in
set_option maxHeartbeats 4000000 in
/-- copied -/
theorem copied_any (x : IT) (w : World) (S : Nat → Prop) (hx : IT.In w S x) (hs : x.r.n + x.r.v.total ≤ 10000) : Calls Try.prog 31 #[.agg #[.int .i64 x.mark, .string x.r.key, .int .i64 x.r.v.kind, .int .i64 x.r.v.int, .string x.r.v.text, .slice x.r.v.p x.r.v.n x.r.v.c, .slice x.r.p x.r.n x.r.c]] w fun e w' => CpQ w x e w' := by
  obtain ⟨W, hW⟩ : ∃ W, W = (w.alloc (.cells #[.int .i64 x.mark, .string x.r.key, .int .i64 x.r.v.kind, .int .i64 x.r.v.int, .string x.r.v.text, .slice x.r.v.p x.r.v.n x.r.v.c, .slice x.r.p x.r.n x.r.c] 35)).alloc (.cells #[.int .i64 0, .string ⟨#[]⟩, .int .i64 0, .int .i64 0, .string ⟨#[]⟩, .slice none 0 0, .slice none 0 0] 35) := ⟨_, rfl⟩
  have hT := TwoK.start w #[.int .i64 x.mark, .string x.r.key, .int .i64 x.r.v.kind, .int .i64 x.r.v.int, .string x.r.v.text, .slice x.r.v.p x.r.v.n x.r.v.c, .slice x.r.p x.r.n x.r.c] #[.int .i64 0, .string ⟨#[]⟩, .int .i64 0, .int .i64 0, .string ⟨#[]⟩, .slice none 0 0, .slice none 0 0] 35
  rw [← hW] at hT
  have HW := hid hW
  have HT := hid hT
  have HR := hid (isRec_any x W)
  have HX := hid hx
  have z0 := hT.ba.cell 0
  have z1 := hT.ba.cell 1
  have z2 := hT.ba.cell 2
  have z3 := hT.ba.cell 3
  have z4 := hT.ba.cell 4
  have z5 := hT.ba.cell 5
  have z6 := hT.ba.cell 6
  simp at z0 z1 z2 z3 z4 z5 z6
  clear hT hW hx
  go_enter Try.func31, Try.ntmps31
  go_upto_region 1 with fail
  rw [← HW.out]
  go_wp2_with fail
  refine HR.out.mono ?_
  rintro e w1 ⟨rfl, hB1⟩
  have HT1 := hid (HT.out.below hB1)
  clear z0 z1 z2 z3 z4 z5 z6 hB1 HT HR
  have z0 := HT1.out.ba.cell 0
  have z1 := HT1.out.ba.cell 1
  have z2 := HT1.out.ba.cell 2
  have z3 := HT1.out.ba.cell 3
  have z4 := HT1.out.ba.cell 4
  have z5 := HT1.out.ba.cell 5
  have z6 := HT1.out.ba.cell 6
  simp at z0 z1 z2 z3 z4 z5 z6
  by_cases hm : x.mark = 0
  · have hm' : (x.mark == 0) = true := by simp [hm]
    rw [hm']
    have HM := hid hm
    have hr1 : RT.In w1 (fun k => k < w.heap.size) x.r := (HX.out.r.mono (S' := fun k => k < w.heap.size) fun k _ hl => hl).kept HT1.out.bel.size (fun k hk _ => HT1.out.bel.block k hk)
    have HF := hid (freshR x.r w1 _ hr1 hs)
    clear hm' hm hr1
    go_wp2_with fail
    refine HF.out.mono ?_
    rintro e w2 ⟨u, rfl, hal, hin, hB2⟩
    have hT2 := HT1.out.below hB2
    have HT2 := hid hT2
    have HU := hid (And.intro hal hin)
    have y0 := hT2.bb.cell 0
    have y1 := hT2.bb.cell 1
    have y2 := hT2.bb.cell 2
    have y3 := hT2.bb.cell 3
    have y4 := hT2.bb.cell 4
    have y5 := hT2.bb.cell 5
    have y6 := hT2.bb.cell 6
    simp at y0 y1 y2 y3 y4 y5 y6
    have f0 := hT2.bb.frozen 0
    have f1 := hT2.bb.frozen 1
    have f2 := hT2.bb.frozen 2
    have f3 := hT2.bb.frozen 3
    have f4 := hT2.bb.frozen 4
    have f5 := hT2.bb.frozen 5
    have f6 := hT2.bb.frozen 6
    have yl := hT2.bb.lt
    have hs1 := HT1.out.bb.lt
    clear hal hin hB2 hT2 HF z0 z1 z2 z3 z4 z5 z6
    go_wp2
    have hp := put7_but w2 (w.heap.size + 1) ⟨0, u⟩
    refine bodyPost_ret (v := .agg #[.int .i64 0, .string u.key, .int .i64 u.v.kind, .int .i64 u.v.int, .string u.v.text, .slice u.v.p u.v.n u.v.c, .slice u.p u.n u.c]) (by simp [results, Try.results31, go_sem, y0, y1, y2, y3, y4, y5, y6]) rfl ⟨⟨0, u⟩, rfl, ⟨HM.out.symm, fun _ => HU.out.1, fun e => absurd HM.out e⟩, ?_, ?_⟩
    · change IT.In (put7 w2 (w.heap.size + 1) ⟨0, u⟩) _ _
      exact ⟨(HU.out.2.kept hp.size fun k hk hl => hp.block k hl (by omega)).mono fun k hk _ => by omega, (by show (-9223372036854775808 : Int) ≤ 0; omega), (by show (0 : Int) ≤ 9223372036854775807; omega)⟩
    · change Below w.heap.size w (put7 w2 (w.heap.size + 1) ⟨0, u⟩)
      exact HT2.out.bel.trans (hp.below (by have := HT2.out.bel.size; omega) (fun k hk e => by omega))
  · have hm' : (x.mark == 0) = false := by simp [hm]
    rw [hm']
    have HM := hid hm
    have y0 := HT1.out.bb.cell 0
    have y1 := HT1.out.bb.cell 1
    have y2 := HT1.out.bb.cell 2
    have y3 := HT1.out.bb.cell 3
    have y4 := HT1.out.bb.cell 4
    have y5 := HT1.out.bb.cell 5
    have y6 := HT1.out.bb.cell 6
    simp at y0 y1 y2 y3 y4 y5 y6
    have f0 := HT1.out.bb.frozen 0
    have f1 := HT1.out.bb.frozen 1
    have f2 := HT1.out.bb.frozen 2
    have f3 := HT1.out.bb.frozen 3
    have f4 := HT1.out.bb.frozen 4
    have f5 := HT1.out.bb.frozen 5
    have f6 := HT1.out.bb.frozen 6
    have yl := HT1.out.bb.lt
    clear hm' hm z1 z2 z3 z4 z5 z6
    go_wp2
    have hp := put7_but w1 (w.heap.size + 1) ⟨x.mark, rz⟩
    refine bodyPost_ret (v := .agg #[.int .i64 x.mark, .string ⟨#[]⟩, .int .i64 0, .int .i64 0, .string ⟨#[]⟩, .slice none 0 0, .slice none 0 0]) (by simp [results, Try.results31, go_sem, y0, y1, y2, y3, y4, y5, y6]) rfl ⟨⟨x.mark, rz⟩, rfl, ⟨rfl, fun e => absurd e HM.out, fun _ => rfl⟩, ⟨rz_in _ _, HX.out.m0, HX.out.m1⟩, ?_⟩
    change Below w.heap.size w (put7 w1 (w.heap.size + 1) ⟨x.mark, rz⟩)
    exact HT1.out.bel.trans (hp.below (by have := HT1.out.bel.size; omega) (fun k hk e => by omega))
end Go.Proofs.Ytbcnlfbclgkeiaa
