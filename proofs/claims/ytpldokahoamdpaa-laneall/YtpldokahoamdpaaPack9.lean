import Derived.Test.YtpldokahoamdpaaPack8
import Derived.Test.YtpldokahoamdpaaPack6
namespace Go.Proofs.Ytpldokahoamdpaa
open Go.RowKit
set_option maxRecDepth 8000
theorem kindIc : ∃ i, Kind 31 3 i (.int .i64 0) 1 8 := by
  obtain ⟨i0, hi, hz0, hz1, hz2⟩ := info_parts (show (Try.prog.info? 3).map (fun i => (i.zero, i.size, i.bytes)) = some (some (.int .i64 0), 1, 8) by kernel_rfl)
  exact ⟨i0, Try.underlying31, hi, hz0, hz1, hz2, rfl, by decide⟩

set_option maxHeartbeats 4000000 in
/-- fresh.Record -/
theorem freshR (r : RT) (w : World) (S : Nat → Prop) (hin : RT.In w S r) (ht : r.n + r.v.total ≤ 10000) :
    Calls Try.prog 34 #[.agg #[.string r.key, .int .i64 r.v.kind, .int .i64 r.v.int, .string r.v.text, .slice r.v.p r.v.n r.v.c, .slice r.p r.n r.c]] w fun e w' => ∃ u : RT, e = .returned (.agg #[.string u.key, .int .i64 u.v.kind, .int .i64 u.v.int, .string u.v.text, .slice u.v.p u.v.n u.v.c, .slice u.p u.n u.c]) ∧ RT.Alike r u ∧ RT.In w' (fun b => w.heap.size ≤ b) u ∧ Below w.heap.size w w' := by
  obtain ⟨i0, Kd⟩ := kindIc
  have hn1 : r.n ≤ 10000 := by omega
  have HV : Hid (∀ W, Below w.heap.size w W → Calls Try.prog 59 #[.agg #[.int .i64 r.v.kind, .int .i64 r.v.int, .string r.v.text, .slice r.v.p r.v.n r.v.c]] W fun e w' => ∃ u : VT, e = .returned (.agg #[.int .i64 u.kind, .int .i64 u.int, .string u.text, .slice u.p u.n u.c]) ∧ VT.Alike r.v u ∧ VT.In w' (fun b => W.heap.size ≤ b) u ∧ Below W.heap.size W w') := fun W hW =>
    freshV r.v W (fun b => S b ∧ b < w.heap.size) ((hin.v.mono fun b hb hl => ⟨hb, hl⟩).kept hW.size (fun b hb _ => hW.block b hb.2)) (by omega)
  have HS : Hid (∀ W, Below w.heap.size w W → Src W r.p r.n r.c 1 ((List.range r.n).map fun j => .int .i64 (r.loop j))) := fun W hW =>
    ((hin.l.mono (S' := fun b => S b ∧ b < w.heap.size) fun b hb hl => ⟨hb, hl⟩).kept hW.size (fun b hb _ => hW.block b hb.2)).src
  have HF := hid hin.l.fit
  have HK := hid hin.k
  have HT := hid (TwoK.start w #[.string r.key, .int .i64 r.v.kind, .int .i64 r.v.int, .string r.v.text, .slice r.v.p r.v.n r.v.c, .slice r.p r.n r.c] #[.string ⟨#[]⟩, .int .i64 0, .int .i64 0, .string ⟨#[]⟩, .slice none 0 0, .slice none 0 0] 33)
  have HCl := hid (fun W => clone_any r.key W hin.k)
  clear hin ht
  go_enter Try.func34, Try.ntmps34
  go_wp2_with fail
  refine (HCl.out _).mono ?_
  rintro e w1 ⟨rfl, hb1⟩
  have HT1 := hid (HT.out.below hb1)
  have l0 := HT1.out.ba.lt
  have l1 := HT1.out.bb.lt
  have x0 := HT1.out.ba.cell 0
  have f0 := HT1.out.ba.frozen 0
  have x1 := HT1.out.ba.cell 1
  have x2 := HT1.out.ba.cell 2
  have x3 := HT1.out.ba.cell 3
  have x4 := HT1.out.ba.cell 4
  simp at x0 x1 x2 x3 x4
  clear hb1 HT HCl
  go_wp2_with fail
  have HT2 := hid (HT1.out.setA 0 (.string r.key))
  refine (HV.out _ HT2.out.bel).mono ?_
  rintro e w2 ⟨u, rfl, hal, hin2, hb2⟩
  have HT3 := hid (HT2.out.below hb2)
  have HU := hid (And.intro hal hin2)
  have m0 := HT3.out.ba.lt
  have m1 := HT3.out.bb.lt
  have y1 := HT3.out.ba.cell 1
  have y2 := HT3.out.ba.cell 2
  have y3 := HT3.out.ba.cell 3
  have y4 := HT3.out.ba.cell 4
  have y5 := HT3.out.ba.cell 5
  have g1 := HT3.out.ba.frozen 1
  have g2 := HT3.out.ba.frozen 2
  have g3 := HT3.out.ba.frozen 3
  have g4 := HT3.out.ba.frozen 4
  simp at y1 y2 y3 y4 y5
  have hsz := hb2.size
  have hsz1 : w.heap.size + 2 ≤ w1.heap.size := by omega
  simp [World.setCell] at hsz
  have hin2' : VT.In w2 (fun b => w1.heap.size ≤ b) u := hin2.mono (fun b hb _ => by simpa [World.setCell] using hb)
  have HU2 := hid hin2'
  clear hin2' hal hin2 hb2 HT1 HT2 HV x0 x1 x2 x3 x4 f0
  have HT4 := hid ((((HT3.out.setA 1 (.int .i64 u.kind)).setA 2 (.int .i64 u.int)).setA 3 (.string u.text)).setA 4 (.slice u.p u.n u.c))
  have hsz2 : w.heap.size + 2 ≤ ((((w2.setCell ⟨w.heap.size, 1, none⟩ (.int .i64 u.kind)).setCell ⟨w.heap.size, 2, none⟩ (.int .i64 u.int)).setCell ⟨w.heap.size, 3, none⟩ (.string u.text)).setCell ⟨w.heap.size, 4, none⟩ (.slice u.p u.n u.c)).heap.size := by simp [World.setCell]; omega
  go_wp2_with (at_builtin; refine wpList_appS rfl (.const (.slice none 0 0)) (.tmp 12) 31 3 i0 _ 1 8 Kd rfl (w.heap.size + 2) (.slice none 0 0) 0 [] rfl (World.ownsRow_nil _ _ _ _) r.p r.n r.c ((List.range r.n).map fun j => .int .i64 (r.loop j)) rfl (HS.out _ HT4.out.bel) (oneCell_ints _ _) (by omega) (by omega) hsz2 ?_)
  intro v3 w3 ho3 hg3 _
  have ho3 : w3.ownsRow (w.heap.size + 2) 3 1 v3 r.n ((List.range r.n).map fun j => .int .i64 (r.loop j)) := by simpa using ho3
  obtain ⟨p3, c3, rfl, hI3⟩ := Ints.own ho3 (by omega) HF.out
  have hb3 : Below ((((w2.setCell ⟨w.heap.size, 1, none⟩ (.int .i64 u.kind)).setCell ⟨w.heap.size, 2, none⟩ (.int .i64 u.int)).setCell ⟨w.heap.size, 3, none⟩ (.string u.text)).setCell ⟨w.heap.size, 4, none⟩ (.slice u.p u.n u.c)).heap.size _ w3 := ⟨hg3.os, hg3.tape, hg3.output, hg3.size, fun k hk => hg3.block k hk (by simp [Value.ownBlock])⟩
  have HT5 := hid (HT4.out.below hb3)
  have hbt0 : But (fun x => x = w.heap.size) w2 ((((w2.setCell ⟨w.heap.size, 1, none⟩ (.int .i64 u.kind)).setCell ⟨w.heap.size, 2, none⟩ (.int .i64 u.int)).setCell ⟨w.heap.size, 3, none⟩ (.string u.text)).setCell ⟨w.heap.size, 4, none⟩ (.slice u.p u.n u.c)) := ((((But.one w2 _).setAt 1 _).setAt 2 _).setAt 3 _).setAt 4 _
  have HU3 : Hid (VT.In w3 (fun b => w1.heap.size ≤ b) u) := (HU2.out.kept hbt0.size (fun b hb hl => hbt0.block b hl (by omega))).below hb3
  have HI3 := hid hI3
  have n0 := HT5.out.ba.lt
  have n1 := HT5.out.bb.lt
  have a0 := HT5.out.ba.cell 0
  have a1 := HT5.out.ba.cell 1
  have a2 := HT5.out.ba.cell 2
  have a3 := HT5.out.ba.cell 3
  have a4 := HT5.out.ba.cell 4
  have a5 := HT5.out.ba.cell 5
  have b5 := HT5.out.ba.frozen 5
  have z0 := HT5.out.bb.cell 0
  have z1 := HT5.out.bb.cell 1
  have z2 := HT5.out.bb.cell 2
  have z3 := HT5.out.bb.cell 3
  have z4 := HT5.out.bb.cell 4
  have z5 := HT5.out.bb.cell 5
  have k0 := HT5.out.bb.frozen 0
  have k1 := HT5.out.bb.frozen 1
  have k2 := HT5.out.bb.frozen 2
  have k3 := HT5.out.bb.frozen 3
  have k4 := HT5.out.bb.frozen 4
  have k5 := HT5.out.bb.frozen 5
  simp at a0 a1 a2 a3 a4 a5 z0 z1 z2 z3 z4 z5
  clear ho3 hg3 hI3 hb3 hbt0 HT4 HT3 HU2 y1 y2 y3 y4 y5 g1 g2 g3 g4 HS
  go_wp2
  have HT6 := (((((((HT5.out.setA 5 (.slice p3 r.n c3)).setB 0 (.string r.key)).setB 1 (.int .i64 u.kind)).setB 2 (.int .i64 u.int)).setB 3 (.string u.text)).setB 4 (.slice u.p u.n u.c)).setB 5 (.slice p3 r.n c3))
  have hbt : But (fun x => x = w.heap.size ∨ x = w.heap.size + 1) w3 (((((((w3.setCell ⟨w.heap.size, 5, none⟩ (.slice p3 r.n c3)).setCell ⟨w.heap.size + 1, 0, none⟩ (.string r.key)).setCell ⟨w.heap.size + 1, 1, none⟩ (.int .i64 u.kind)).setCell ⟨w.heap.size + 1, 2, none⟩ (.int .i64 u.int)).setCell ⟨w.heap.size + 1, 3, none⟩ (.string u.text)).setCell ⟨w.heap.size + 1, 4, none⟩ (.slice u.p u.n u.c)).setCell ⟨w.heap.size + 1, 5, none⟩ (.slice p3 r.n c3)) :=
    (((((((But.refl _ w3).setCell (fun _ => Or.inl rfl) _).setCell (fun _ => Or.inr rfl) _).setCell (fun _ => Or.inr rfl) _).setCell (fun _ => Or.inr rfl) _).setCell (fun _ => Or.inr rfl) _).setCell (fun _ => Or.inr rfl) _).setCell (fun _ => Or.inr rfl) _
  refine bodyPost_ret (v := .agg #[.string r.key, .int .i64 u.kind, .int .i64 u.int, .string u.text, .slice u.p u.n u.c, .slice p3 r.n c3]) (by simp [results, Try.results34, go_sem, z0, z1, z2, z3, z4, z5]) rfl ⟨⟨r.key, u, p3, r.n, c3, r.loop⟩, rfl, ⟨rfl, HU.out.1, rfl, fun _ _ => rfl⟩, ⟨?_, ?_, HK.out⟩, HT6.bel⟩
  · exact (HU3.out.kept hbt.size (fun b hb hl => hbt.block b hl (by omega))).mono fun b hb _ => by omega
  · exact (HI3.out.kept hbt.size (fun b hb hl => hbt.block b hl (by omega))).mono fun b hb _ => by omega

/-- how many parts a list of records has -/
def RT.size (r : RT) : Nat := r.n + r.v.total
end Go.Proofs.Ytpldokahoamdpaa

namespace Go.Proofs.Ytpldokahoamdpaa
open Go.RowKit Go.Conc
set_option maxRecDepth 8000
theorem VT.Alike.total : ∀ {t u : VT}, VT.Alike t u → u.total = t.total := by
  intro t
  induction t with
  | nil => intro u h; rw [show u = .nil from h]
  | mk k i s n p c f ih =>
    intro u h
    cases u with
    | nil =>
      have e := h.n
      simp only [VT.n] at e
      subst e
      simp [VT.total]
    | mk k2 i2 s2 n2 p2 c2 f2 =>
      have e : n2 = n := h.n
      subst e
      simp only [VT.total]
      congr 2
      refine List.map_congr_left fun j hj => ?_
      exact ih j (h.item (List.mem_range.1 hj))
/-- a copy of an item: a marker leaves its record behind -/
structure CopyI (x u : IT) : Prop where
  m : u.mark = x.mark
  r : x.mark = 0 → RT.Alike x.r u.r
  z : x.mark ≠ 0 → u.r = rz
theorem CopyI.fine {x u : IT} (h : CopyI x u) (hs : x.r.n + x.r.v.total ≤ 10000) (hm : 0 ≤ x.mark) : IT.Fine u := by
  by_cases h0 : x.mark = 0
  · have ha := h.r h0
    exact ⟨by rw [ha.n, ha.v.total]; exact hs, by rw [h.m]; exact hm, fun e => absurd (h.m.trans h0) e⟩
  · have hz := h.z h0
    refine ⟨by rw [hz]; decide, by rw [h.m]; exact hm, fun _ => hz⟩
theorem CopyI.refl {x : IT} (h : IT.Fine x) : CopyI x x := ⟨rfl, fun _ => ⟨rfl, VT.Alike.refl _, rfl, fun _ _ => rfl⟩, h.z⟩
def CpQ (w : World) (x : IT) (e : Ending) (w' : World) : Prop := ∃ u : IT, e = .returned (.agg #[.int .i64 u.mark, .string u.r.key, .int .i64 u.r.v.kind, .int .i64 u.r.v.int, .string u.r.v.text, .slice u.r.v.p u.r.v.n u.r.v.c, .slice u.r.p u.r.n u.r.c]) ∧ CopyI x u ∧ IT.In w' (fun k => w.heap.size ≤ k) u ∧ Below w.heap.size w w'
set_option maxRecDepth 60000 in
set_option maxHeartbeats 4000000 in
/-- copied -/
theorem copied_any (x : IT) (w : World) (S : Nat → Prop) (hx : IT.In w S x) (hs : x.r.n + x.r.v.total ≤ 10000) : Calls Try.prog 31 #[.agg #[.int .i64 x.mark, .string x.r.key, .int .i64 x.r.v.kind, .int .i64 x.r.v.int, .string x.r.v.text, .slice x.r.v.p x.r.v.n x.r.v.c, .slice x.r.p x.r.n x.r.c]] w fun e w' => CpQ w x e w' := by
  obtain ⟨W, hW⟩ : ∃ W, W = (w.alloc (.cells #[.int .i64 x.mark, .string x.r.key, .int .i64 x.r.v.kind, .int .i64 x.r.v.int, .string x.r.v.text, .slice x.r.v.p x.r.v.n x.r.v.c, .slice x.r.p x.r.n x.r.c] 35)).alloc (.cells #[.int .i64 0, .string ⟨#[]⟩, .int .i64 0, .int .i64 0, .string ⟨#[]⟩, .slice none 0 0, .slice none 0 0] 35) := ⟨_, rfl⟩
  have hT := TwoK.start w #[.int .i64 x.mark, .string x.r.key, .int .i64 x.r.v.kind, .int .i64 x.r.v.int, .string x.r.v.text, .slice x.r.v.p x.r.v.n x.r.v.c, .slice x.r.p x.r.n x.r.c] #[.int .i64 0, .string ⟨#[]⟩, .int .i64 0, .int .i64 0, .string ⟨#[]⟩, .slice none 0 0, .slice none 0 0] 35
  rw [← hW] at hT
  have HW := hid hW
  have HT := hid hT
  have HR := hid (isRec_any x W)
  have HX := hid hx
  have z0 := hT.ba.cell 0
  have z1 := hT.ba.cell 1
  have z2 := hT.ba.cell 2
  have z3 := hT.ba.cell 3
  have z4 := hT.ba.cell 4
  have z5 := hT.ba.cell 5
  have z6 := hT.ba.cell 6
  simp at z0 z1 z2 z3 z4 z5 z6
  clear hT hW hx
  go_enter Try.func31, Try.ntmps31
  go_upto_region 1 with fail
  rw [← HW.out]
  go_wp2_with fail
  refine HR.out.mono ?_
  rintro e w1 ⟨rfl, hB1⟩
  have HT1 := hid (HT.out.below hB1)
  clear z0 z1 z2 z3 z4 z5 z6 hB1 HT HR
  have z0 := HT1.out.ba.cell 0
  have z1 := HT1.out.ba.cell 1
  have z2 := HT1.out.ba.cell 2
  have z3 := HT1.out.ba.cell 3
  have z4 := HT1.out.ba.cell 4
  have z5 := HT1.out.ba.cell 5
  have z6 := HT1.out.ba.cell 6
  simp at z0 z1 z2 z3 z4 z5 z6
  by_cases hm : x.mark = 0
  · have hm' : (x.mark == 0) = true := by simp [hm]
    rw [hm']
    have HM := hid hm
    have hr1 : RT.In w1 (fun k => k < w.heap.size) x.r := (HX.out.r.mono (S' := fun k => k < w.heap.size) fun k _ hl => hl).kept HT1.out.bel.size (fun k hk _ => HT1.out.bel.block k hk)
    have HF := hid (freshR x.r w1 _ hr1 hs)
    clear hm' hm hr1
    go_wp2_with fail
    refine HF.out.mono ?_
    rintro e w2 ⟨u, rfl, hal, hin, hB2⟩
    have hT2 := HT1.out.below hB2
    have HT2 := hid hT2
    have HU := hid (And.intro hal hin)
    have y0 := hT2.bb.cell 0
    have y1 := hT2.bb.cell 1
    have y2 := hT2.bb.cell 2
    have y3 := hT2.bb.cell 3
    have y4 := hT2.bb.cell 4
    have y5 := hT2.bb.cell 5
    have y6 := hT2.bb.cell 6
    simp at y0 y1 y2 y3 y4 y5 y6
    have f0 := hT2.bb.frozen 0
    have f1 := hT2.bb.frozen 1
    have f2 := hT2.bb.frozen 2
    have f3 := hT2.bb.frozen 3
    have f4 := hT2.bb.frozen 4
    have f5 := hT2.bb.frozen 5
    have f6 := hT2.bb.frozen 6
    have yl := hT2.bb.lt
    have hs1 := HT1.out.bb.lt
    clear hal hin hB2 hT2 HF z0 z1 z2 z3 z4 z5 z6
    go_wp2
    have hp := put7_but w2 (w.heap.size + 1) ⟨0, u⟩
    refine bodyPost_ret (v := .agg #[.int .i64 0, .string u.key, .int .i64 u.v.kind, .int .i64 u.v.int, .string u.v.text, .slice u.v.p u.v.n u.v.c, .slice u.p u.n u.c]) (by simp [results, Try.results31, go_sem, y0, y1, y2, y3, y4, y5, y6]) rfl ⟨⟨0, u⟩, rfl, ⟨HM.out.symm, fun _ => HU.out.1, fun e => absurd HM.out e⟩, ?_, ?_⟩
    · change IT.In (put7 w2 (w.heap.size + 1) ⟨0, u⟩) _ _
      exact ⟨(HU.out.2.kept hp.size fun k hk hl => hp.block k hl (by omega)).mono fun k hk _ => by omega, (by show (-9223372036854775808 : Int) ≤ 0; omega), (by show (0 : Int) ≤ 9223372036854775807; omega)⟩
    · change Below w.heap.size w (put7 w2 (w.heap.size + 1) ⟨0, u⟩)
      exact HT2.out.bel.trans (hp.below (by have := HT2.out.bel.size; omega) (fun k hk e => by omega))
  · have hm' : (x.mark == 0) = false := by simp [hm]
    rw [hm']
    have HM := hid hm
    have y0 := HT1.out.bb.cell 0
    have y1 := HT1.out.bb.cell 1
    have y2 := HT1.out.bb.cell 2
    have y3 := HT1.out.bb.cell 3
    have y4 := HT1.out.bb.cell 4
    have y5 := HT1.out.bb.cell 5
    have y6 := HT1.out.bb.cell 6
    simp at y0 y1 y2 y3 y4 y5 y6
    have f0 := HT1.out.bb.frozen 0
    have f1 := HT1.out.bb.frozen 1
    have f2 := HT1.out.bb.frozen 2
    have f3 := HT1.out.bb.frozen 3
    have f4 := HT1.out.bb.frozen 4
    have f5 := HT1.out.bb.frozen 5
    have f6 := HT1.out.bb.frozen 6
    have yl := HT1.out.bb.lt
    clear hm' hm z1 z2 z3 z4 z5 z6
    go_wp2
    have hp := put7_but w1 (w.heap.size + 1) ⟨x.mark, rz⟩
    refine bodyPost_ret (v := .agg #[.int .i64 x.mark, .string ⟨#[]⟩, .int .i64 0, .int .i64 0, .string ⟨#[]⟩, .slice none 0 0, .slice none 0 0]) (by simp [results, Try.results31, go_sem, y0, y1, y2, y3, y4, y5, y6]) rfl ⟨⟨x.mark, rz⟩, rfl, ⟨rfl, fun e => absurd e HM.out, fun _ => rfl⟩, ⟨rz_in _ _, HX.out.m0, HX.out.m1⟩, ?_⟩
    change Below w.heap.size w (put7 w1 (w.heap.size + 1) ⟨x.mark, rz⟩)
    exact HT1.out.bel.trans (hp.below (by have := HT1.out.bel.size; omega) (fun k hk e => by omega))
end Go.Proofs.Ytpldokahoamdpaa
