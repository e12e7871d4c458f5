import Derived.Test.YtbcnlfbclgkeiaaLcX0
namespace Go.Proofs.Ytbcnlfbclgkeiaa
open Go.RowKit Go.Conc
set_option maxRecDepth 8000
section
variable {B0 : Nat} {w : World} {k : Nat} {X : Bb}
theorem BbI.setM (h : BbI B0 w k X) (ho : X.oM < X.M.n) : BSet B0 w k X (w.setCell ⟨k, 3, none⟩ (.int .i64 ((X.oM : Int) + 1))) ⟨X.R, X.M, X.oR, X.oM + 1⟩ := by
  have hs := (But.one w k).setAt 3 (.int .i64 ((X.oM : Int) + 1))
  refine ⟨⟨?_, ownsRow_keep h.o1 fun g hg hl => hs.block g hl fun e => h.d1 (e ▸ hg), ownsRow_keep h.o2 fun g hg hl => hs.block g hl fun e => h.d2 (e ▸ hg), h.kb, h.d1, h.d2, h.d3, fun j hj => (h.el j hj).kept hs.size fun g hg hl => hs.block g hl (by have := h.kb; omega), h.mi, h.rn, h.mn, h.b1, ho⟩, hs.mono fun j _ e => .inl e, fun j hj => .inl hj⟩
  have h5 := h.box.set 3 (.int .i64 ((X.oM : Int) + 1))
  show Box _ k #[.slice X.R.p X.R.n X.R.c, .slice X.M.p X.M.n X.M.c, .int .i64 (X.oR : Int), .int .i64 ((X.oM + 1 : Nat) : Int)] 57
  simpa only [List.setIfInBounds_toArray, List.set_cons_zero, List.set_cons_succ, Int.natCast_add, Int.cast_ofNat_Int] using h5
theorem BbI.setR (h : BbI B0 w k X) (ho : X.oR < X.R.n) : BSet B0 w k X (w.setCell ⟨k, 2, none⟩ (.int .i64 ((X.oR : Int) + 1))) ⟨X.R, X.M, X.oR + 1, X.oM⟩ := by
  have hs := (But.one w k).setAt 2 (.int .i64 ((X.oR : Int) + 1))
  refine ⟨⟨?_, ownsRow_keep h.o1 fun g hg hl => hs.block g hl fun e => h.d1 (e ▸ hg), ownsRow_keep h.o2 fun g hg hl => hs.block g hl fun e => h.d2 (e ▸ hg), h.kb, h.d1, h.d2, h.d3, fun j hj => (h.el j hj).kept hs.size fun g hg hl => hs.block g hl (by have := h.kb; omega), h.mi, h.rn, h.mn, ho, h.b2⟩, hs.mono fun j _ e => .inl e, fun j hj => .inl hj⟩
  have h5 := h.box.set 2 (.int .i64 ((X.oR : Int) + 1))
  show Box _ k #[.slice X.R.p X.R.n X.R.c, .slice X.M.p X.M.n X.M.c, .int .i64 ((X.oR + 1 : Nat) : Int), .int .i64 (X.oM : Int)] 57
  simpa only [List.setIfInBounds_toArray, List.set_cons_zero, List.set_cons_succ, Int.natCast_add, Int.cast_ofNat_Int] using h5
end
set_option maxRecDepth 60000 in
set_option maxHeartbeats 8000000 in
/-- out, of a marker -/
theorem outM_any (B0 : Nat) (w : World) (k : Nat) (X : Bb) (h : BbI B0 w k X) (x : IT) (S : Nat → Prop) (hx : IT.In w S x) (hS : ∀ j, S j → j ≠ k) (hm : 0 < x.mark) (hr : x.r = rz) (ho : X.oM < X.M.n) (he : X.M.item X.oM = x.mark) : Calls Try.prog 23 #[.pointer (some ⟨k, 0, none⟩), .agg #[.int .i64 x.mark, .string x.r.key, .int .i64 x.r.v.kind, .int .i64 x.r.v.int, .string x.r.v.text, .slice x.r.v.p x.r.v.n x.r.v.c, .slice x.r.p x.r.n x.r.c]] w fun e w' => e = .returned (.bool true) ∧ BSet B0 w k X w' ⟨X.R, X.M, X.oR, X.oM + 1⟩ := by
  obtain ⟨W, hW⟩ : ∃ W, W = w.alloc (.cells #[.int .i64 x.mark, .string x.r.key, .int .i64 x.r.v.kind, .int .i64 x.r.v.int, .string x.r.v.text, .slice x.r.v.p x.r.v.n x.r.v.c, .slice x.r.p x.r.n x.r.c] 35) := ⟨_, rfl⟩
  have hB : Below w.heap.size w W := by rw [hW]; exact (Below.refl _ _).alloc (Nat.le_refl _) _
  have hXb : Box W w.heap.size #[.int .i64 x.mark, .string x.r.key, .int .i64 x.r.v.kind, .int .i64 x.r.v.int, .string x.r.v.text, .slice x.r.v.p x.r.v.n x.r.v.c, .slice x.r.p x.r.n x.r.c] 35 := by rw [hW]; exact Box.new _ _ _
  have hI := h.below hB
  have hkl := h.box.lt
  have HI := hid hI
  have HB := hid hB
  have HW := hid hW
  have HXi := hid (hx.below hB)
  have hS1 := BSet.trans (BSet.below h hB) (hI.setM ho)
  have HS1 := hid hS1
  obtain ⟨W1, hW1⟩ : ∃ W1, W1 = W.setCell ⟨k, 3, none⟩ (.int .i64 ((X.oM : Int) + 1)) := ⟨_, rfl⟩
  rw [← hW1] at hS1 HS1
  have hs := (But.one W k).setAt 3 (.int .i64 ((X.oM : Int) + 1))
  rw [← hW1] at hs
  have b3 : W.cell? ⟨k, 3, none⟩ = some (.int .i64 (X.oM : Int)) := by rw [hI.box.cell]; rfl
  have g3 := hI.box.frozen 3
  have bl := hI.box.lt
  obtain ⟨bm, om, hp, _, hbm, hat⟩ := hS1.bk.inM.at_ (Nat.lt_of_le_of_lt (Nat.zero_le _) ho)
  have c1 : W1.cell? ⟨k, 1, none⟩ = some (.slice (some ⟨bm, om, none⟩) X.M.n X.M.c) := by rw [hS1.bk.box.cell, ← hp]; rfl
  have c3 : W1.cell? ⟨k, 3, none⟩ = some (.int .i64 ((X.oM : Int) + 1)) := by rw [hS1.bk.box.cell]; simp
  have mc : W1.cell? ⟨bm, om + X.oM, none⟩ = some (.int .i64 x.mark) := by
    have := hat X.oM ho 0 _ rfl
    rw [show (Bb.mk X.R X.M X.oR (X.oM + 1)).M.item X.oM = x.mark from he] at this
    simpa [elInt] using this
  have hX1 := hXb.but hs (by omega)
  have z0 := hX1.cell 0
  have z1 := hX1.cell 1
  have z2 := hX1.cell 2
  have z3 := hX1.cell 3
  have z4 := hX1.cell 4
  have z5 := hX1.cell 5
  have z6 := hX1.cell 6
  simp at z0 z1 z2 z3 z4 z5 z6
  have y0 := hXb.cell 0
  simp at y0
  have yl := hXb.lt
  have zl := hX1.lt
  have bl1 := hS1.bk.box.lt
  have hmn := h.mn
  have HC : Hid (∀ V, Below W1.heap.size W1 V → Calls Try.prog 14 #[.agg #[.string x.r.key, .int .i64 x.r.v.kind, .int .i64 x.r.v.int, .string x.r.v.text, .slice x.r.v.p x.r.v.n x.r.v.c, .slice x.r.p x.r.n x.r.c], .agg #[.string ⟨#[]⟩, .int .i64 0, .int .i64 0, .string ⟨#[]⟩, .slice none 0 0, .slice none 0 0]] V fun e w' => e = .returned (.bool true) ∧ Below V.heap.size V w') := fun V hV => sameRec_yes x.r rz V _ (fun _ => True) ((RT.In.kept (HXi.out.r) hs.size fun g hg hl => hs.block g hl (hS g hg)).below hV) (rz_in _ _) (by rw [hr]; exact ⟨rfl, VT.Alike.refl _, rfl, fun _ _ => rfl⟩)
  have hle : decide ((X.oM : Int) + 1 ≤ (X.M.n : Int)) = true := decide_eq_true (by omega)
  have hle' : (X.oM : Int) + 1 ≤ (X.M.n : Int) := by omega
  have hlt : (X.oM : Int) < (X.M.n : Int) := by omega
  have hwr : IntKind.i64.wrap (X.oM : Int) = (X.oM : Int) := by rw [IntKind.wrap_i64]; omega
  have hoM : X.oM ≤ 10000 := by omega
  have HWr := hid hwr
  have HW1 := hid hW1
  clear hS1 hs hat hX1 hXb hI hW hB hW1 hp h hx hr he hwr hS
  go_enter Try.func23, Try.ntmps23
  go_upto_region 1 with fail
  rw [← HW.out]
  go_upto_region 3 with fail
  rw [← HW1.out]
  have hwr := HWr.out
  refine wp_region_calmE 30 (fun wx => Below W1.heap.size W1 wx) [(0, true), (1, true), (2, true), (3, false), (4, true), (5, true), (6, true), (7, false), (8, true), (9, true), (10, true), (11, true), (12, true), (13, true), (14, false), (15, true), (16, true), (17, true), (18, false), (19, true), (20, true), (21, false), (22, true), (23, false), (24, true), (25, true), (26, true), (27, true), (28, false), (29, true)] (.one 30 false [(31, true), (32, true)] .done) (by kernel_rfl) (by kernel_rfl) (Below.refl _ _).drew ?_
  refine wpPre_e rfl rfl (fun K1 hK1 => ?_)
  apply Exists.intro
  refine And.intro (fun wx hx => ?_) ?_
  · go_simp
    try rfl
  go_simp
  refine hK1 _ ?_
  clear hK1 K1
  refine wpPre_e rfl rfl (fun K1 hK1 => ?_)
  apply Exists.intro
  refine And.intro (fun wx hx => ?_) ?_
  · go_simp
    try rfl
  go_simp
  refine hK1 _ ?_
  clear hK1 K1
  refine wpPre_e rfl rfl (fun K1 hK1 => ?_)
  apply Exists.intro
  refine And.intro (fun wx hx => ?_) ?_
  · go_simp
    try rfl
  go_simp
  refine hK1 _ ?_
  clear hK1 K1
  refine wpPre_e rfl rfl (fun K1 hK1 => ?_)
  apply Exists.intro
  refine And.intro (fun wx hx => ?_) ?_
  · have e0 := below_fact hx rfl c1
    have e1 := below_fact hx rfl c3
    have e2 := below_fact hx rfl mc
    have e3 := below_fact hx rfl z0
    have e4 := below_fact hx rfl z1
    have e5 := below_fact hx rfl z2
    have e6 := below_fact hx rfl z3
    have e7 := below_fact hx rfl z4
    have e8 := below_fact hx rfl z5
    have e9 := below_fact hx rfl z6
    go_simp
    try rfl
  go_simp
  refine hK1 _ ?_
  clear hK1 K1
  refine wpPre_e rfl rfl (fun K1 hK1 => ?_)
  apply Exists.intro
  refine And.intro (fun wx hx => ?_) ?_
  · go_simp
    try rfl
  go_simp
  refine hK1 _ ?_
  clear hK1 K1
  refine wpPre_e rfl rfl (fun K1 hK1 => ?_)
  apply Exists.intro
  refine And.intro (fun wx hx => ?_) ?_
  · go_simp
    try rfl
  go_simp
  refine hK1 _ ?_
  clear hK1 K1
  refine wpPre_e rfl rfl (fun K1 hK1 => ?_)
  apply Exists.intro
  refine And.intro (fun wx hx => ?_) ?_
  · go_simp
    try rfl
  go_simp
  refine hK1 _ ?_
  clear hK1 K1
  refine wpPre_e rfl rfl (fun K1 hK1 => ?_)
  apply Exists.intro
  refine And.intro (fun wx hx => ?_) ?_
  · have e0 := below_fact hx rfl c1
    have e1 := below_fact hx rfl c3
    have e2 := below_fact hx rfl mc
    have e3 := below_fact hx rfl z0
    have e4 := below_fact hx rfl z1
    have e5 := below_fact hx rfl z2
    have e6 := below_fact hx rfl z3
    have e7 := below_fact hx rfl z4
    have e8 := below_fact hx rfl z5
    have e9 := below_fact hx rfl z6
    go_simp
    try rfl
  go_simp
  refine hK1 _ ?_
  clear hK1 K1
  refine wpPre_e rfl rfl (fun K1 hK1 => ?_)
  apply Exists.intro
  refine And.intro (fun wx hx => ?_) ?_
  · go_simp
    try rfl
  go_simp
  refine hK1 _ ?_
  clear hK1 K1
  refine wpPre_e rfl rfl (fun K1 hK1 => ?_)
  apply Exists.intro
  refine And.intro (fun wx hx => ?_) ?_
  · go_simp
    try rfl
  go_simp
  refine hK1 _ ?_
  clear hK1 K1
  refine wpPre_e rfl rfl (fun K1 hK1 => ?_)
  apply Exists.intro
  refine And.intro (fun wx hx => ?_) ?_
  · go_simp
    try rfl
  go_simp
  refine hK1 _ ?_
  clear hK1 K1
  refine wpPre_i rfl (fun K1 hK1 => ?_)
  rw [if_pos (by go_simp)]
  apply Exists.intro
  refine And.intro (fun wx hx => ?_) ?_
  · go_simp
    try rfl
  go_simp
  refine hK1 _ ?_
  clear hK1 K1
  refine wpPre_i rfl (fun K1 hK1 => ?_)
  rw [if_pos (by go_simp)]
  apply Exists.intro
  refine And.intro (fun wx hx => ?_) ?_
  · go_simp
    try rfl
  go_simp
  refine hK1 _ ?_
  clear hK1 K1
  refine wpPre_i rfl (fun K1 hK1 => ?_)
  rw [if_pos (by go_simp)]
  apply Exists.intro
  refine And.intro (fun wx hx => ?_) ?_
  · go_simp
    try rfl
  go_simp
  refine hK1 _ ?_
  clear hK1 K1
  refine wpPre_i rfl (fun K1 hK1 => ?_)
  rw [if_pos (by go_simp)]
  apply Exists.intro
  refine And.intro (fun wx hx => ?_) ?_
  · have e0 := below_fact hx rfl c1
    have e1 := below_fact hx rfl c3
    have e2 := below_fact hx rfl mc
    have e3 := below_fact hx rfl z0
    have e4 := below_fact hx rfl z1
    have e5 := below_fact hx rfl z2
    have e6 := below_fact hx rfl z3
    have e7 := below_fact hx rfl z4
    have e8 := below_fact hx rfl z5
    have e9 := below_fact hx rfl z6
    go_simp
    try rfl
  go_simp
  refine hK1 _ ?_
  clear hK1 K1
  refine wpPre_i rfl (fun K1 hK1 => ?_)
  rw [if_pos (by go_simp)]
  apply Exists.intro
  refine And.intro (fun wx hx => ?_) ?_
  · go_simp
    try rfl
  go_simp
  refine hK1 _ ?_
  clear hK1 K1
  refine wpPre_i rfl (fun K1 hK1 => ?_)
  rw [if_pos (by go_simp)]
  apply Exists.intro
  refine And.intro (fun wx hx => ?_) ?_
  · go_simp
    try rfl
  go_simp
  refine hK1 _ ?_
  clear hK1 K1
  refine wpPre_i rfl (fun K1 hK1 => ?_)
  rw [if_pos (by go_simp)]
  apply Exists.intro
  refine And.intro (fun wx hx => ?_) ?_
  · go_simp
    try rfl
  go_simp
  refine hK1 _ ?_
  clear hK1 K1
  refine wpPre_i rfl (fun K1 hK1 => ?_)
  rw [if_pos (by go_simp)]
  apply Exists.intro
  refine And.intro (fun wx hx => ?_) ?_
  · have e0 := below_fact hx rfl c1
    have e1 := below_fact hx rfl c3
    have e2 := below_fact hx rfl mc
    have e3 := below_fact hx rfl z0
    have e4 := below_fact hx rfl z1
    have e5 := below_fact hx rfl z2
    have e6 := below_fact hx rfl z3
    have e7 := below_fact hx rfl z4
    have e8 := below_fact hx rfl z5
    have e9 := below_fact hx rfl z6
    go_simp
    try rfl
  go_simp
  refine hK1 _ ?_
  clear hK1 K1
  refine wpPre_i rfl (fun K1 hK1 => ?_)
  rw [if_pos (by go_simp)]
  apply Exists.intro
  refine And.intro (fun wx hx => ?_) ?_
  · go_simp
    try rfl
  go_simp
  refine hK1 _ ?_
  clear hK1 K1
  refine wpPre_i rfl (fun K1 hK1 => ?_)
  rw [if_pos (by go_simp)]
  apply Exists.intro
  refine And.intro (fun wx hx => ?_) ?_
  · go_simp
    try rfl
  go_simp
  refine hK1 _ ?_
  clear hK1 K1
  refine wpPre_i rfl (fun K1 hK1 => ?_)
  rw [if_pos (by go_simp)]
  apply Exists.intro
  refine And.intro (fun wx hx => ?_) ?_
  · have e0 := below_fact hx rfl c1
    have e1 := below_fact hx rfl c3
    have e2 := below_fact hx rfl mc
    have e3 := below_fact hx rfl z0
    have e4 := below_fact hx rfl z1
    have e5 := below_fact hx rfl z2
    have e6 := below_fact hx rfl z3
    have e7 := below_fact hx rfl z4
    have e8 := below_fact hx rfl z5
    have e9 := below_fact hx rfl z6
    go_simp
    try rfl
  go_simp
  refine hK1 _ ?_
  clear hK1 K1
  refine wpPre_i rfl (fun K1 hK1 => ?_)
  rw [if_pos (by go_simp)]
  apply Exists.intro
  refine And.intro (fun wx hx => ?_) ?_
  · go_simp
    try rfl
  go_simp
  refine hK1 _ ?_
  clear hK1 K1
  refine wpPre_i rfl (fun K1 hK1 => ?_)
  rw [if_pos (by go_simp)]
  apply Exists.intro
  refine And.intro (fun wx hx => ?_) ?_
  · have e0 := below_fact hx rfl c1
    have e1 := below_fact hx rfl c3
    have e2 := below_fact hx rfl mc
    have e3 := below_fact hx rfl z0
    have e4 := below_fact hx rfl z1
    have e5 := below_fact hx rfl z2
    have e6 := below_fact hx rfl z3
    have e7 := below_fact hx rfl z4
    have e8 := below_fact hx rfl z5
    have e9 := below_fact hx rfl z6
    go_simp
    try rfl
  go_simp
  refine hK1 _ ?_
  clear hK1 K1
  refine wpPre_i rfl (fun K1 hK1 => ?_)
  rw [if_pos (by go_simp)]
  apply Exists.intro
  refine And.intro (fun wx hx => ?_) ?_
  · go_simp
    try rfl
  go_simp
  refine hK1 _ ?_
  clear hK1 K1
  refine wpPre_e rfl rfl (fun K1 hK1 => ?_)
  apply Exists.intro
  refine And.intro (fun wx hx => ?_) ?_
  · go_simp
    try rfl
  go_simp
  refine hK1 _ ?_
  clear hK1 K1
  refine wpPre_e rfl rfl (fun K1 hK1 => ?_)
  apply Exists.intro
  refine And.intro (fun wx hx => ?_) ?_
  · go_simp
    try rfl
  go_simp
  refine hK1 _ ?_
  clear hK1 K1
  refine wpPre_i rfl (fun K1 hK1 => ?_)
  rw [if_pos (by go_simp)]
  apply Exists.intro
  refine And.intro (fun wx hx => ?_) ?_
  · go_simp
    try rfl
  go_simp
  refine hK1 _ ?_
  clear hK1 K1
  refine wpPre_i rfl (fun K1 hK1 => ?_)
  rw [if_pos (by go_simp)]
  apply Exists.intro
  refine And.intro (fun wx hx => ?_) ?_
  · have e0 := below_fact hx rfl c1
    have e1 := below_fact hx rfl c3
    have e2 := below_fact hx rfl mc
    have e3 := below_fact hx rfl z0
    have e4 := below_fact hx rfl z1
    have e5 := below_fact hx rfl z2
    have e6 := below_fact hx rfl z3
    have e7 := below_fact hx rfl z4
    have e8 := below_fact hx rfl z5
    have e9 := below_fact hx rfl z6
    go_simp
    try rfl
  go_simp
  refine hK1 _ ?_
  clear hK1 K1
  refine wpPre_i rfl (fun K1 hK1 => ?_)
  rw [if_pos (by go_simp)]
  apply Exists.intro
  refine And.intro (fun wx hx => ?_) ?_
  · go_simp
    try rfl
  go_simp
  refine hK1 _ ?_
  clear hK1 K1
  refine wpPre_nil ?_
  refine wpTr_e rfl (fun K1 hK1 => ?_)
  refine step_callG (by go_simp) 14 #[.tmp 43, .tmp 44] _ rfl Try.f14 Try.func14 (by kernel_rfl) rfl #[.agg #[.string x.r.key, .int .i64 x.r.v.kind, .int .i64 x.r.v.int, .string x.r.v.text, .slice x.r.v.p x.r.v.n x.r.v.c, .slice x.r.p x.r.n x.r.c], .agg #[.string ⟨#[]⟩, .int .i64 0, .int .i64 0, .string ⟨#[]⟩, .slice none 0 0, .slice none 0 0]] rfl _ (HC.out _ (Below.refl _ _).drew) (fun e w9 h9 => ?_)
  obtain ⟨rfl, hb9⟩ := h9
  refine ⟨_, rfl, ?_⟩
  have HB9 : Hid (Below W1.heap.size W1 w9) := (Below.refl W1.heap.size W1).drew.trans hb9
  clear hb9
  go_simp
  refine hK1 _ _ (fun h => by cases h) ?_
  clear hK1 K1
  refine wpPre_e rfl rfl (fun K1 hK1 => ?_)
  apply Exists.intro
  refine And.intro (fun wx hx => ?_) ?_
  · go_simp
    try rfl
  go_simp
  refine hK1 _ ?_
  clear hK1 K1
  refine wpPre_e rfl rfl (fun K1 hK1 => ?_)
  apply Exists.intro
  refine And.intro (fun wx hx => ?_) ?_
  · go_simp
    try rfl
  go_simp
  refine hK1 _ ?_
  clear hK1 K1
  refine wpPre_nil ?_
  refine wpTr_done ?_
  clear hwr
  go_wp2
  exact bodyPost_ret (v := .bool true) (by simp [results, Try.results23, go_sem]) rfl ⟨rfl, BSet.trans HS1.out (BSet.below HS1.out.bk HB9.out)⟩
set_option maxRecDepth 60000 in
set_option maxHeartbeats 8000000 in
/-- out, of a record -/
theorem outR_any (B0 : Nat) (w : World) (k : Nat) (X : Bb) (h : BbI B0 w k X) (x : IT) (S : Nat → Prop) (hx : IT.In w S x) (hS : ∀ j, S j → j ≠ k) (hm : x.mark = 0) (ho : X.oR < X.R.n) (he : RT.Alike (X.R.item X.oR) x.r) : Calls Try.prog 23 #[.pointer (some ⟨k, 0, none⟩), .agg #[.int .i64 x.mark, .string x.r.key, .int .i64 x.r.v.kind, .int .i64 x.r.v.int, .string x.r.v.text, .slice x.r.v.p x.r.v.n x.r.v.c, .slice x.r.p x.r.n x.r.c]] w fun e w' => e = .returned (.bool true) ∧ BSet B0 w k X w' ⟨X.R, X.M, X.oR + 1, X.oM⟩ := by
  obtain ⟨W, hW⟩ : ∃ W, W = w.alloc (.cells #[.int .i64 x.mark, .string x.r.key, .int .i64 x.r.v.kind, .int .i64 x.r.v.int, .string x.r.v.text, .slice x.r.v.p x.r.v.n x.r.v.c, .slice x.r.p x.r.n x.r.c] 35) := ⟨_, rfl⟩
  have hB : Below w.heap.size w W := by rw [hW]; exact (Below.refl _ _).alloc (Nat.le_refl _) _
  have hXb : Box W w.heap.size #[.int .i64 x.mark, .string x.r.key, .int .i64 x.r.v.kind, .int .i64 x.r.v.int, .string x.r.v.text, .slice x.r.v.p x.r.v.n x.r.v.c, .slice x.r.p x.r.n x.r.c] 35 := by rw [hW]; exact Box.new _ _ _
  have hI := h.below hB
  have hkl := h.box.lt
  have HI := hid hI
  have HB := hid hB
  have HW := hid hW
  have HXi := hid (hx.below hB)
  have hS1 := BSet.trans (BSet.below h hB) (hI.setR ho)
  have HS1 := hid hS1
  obtain ⟨W1, hW1⟩ : ∃ W1, W1 = W.setCell ⟨k, 2, none⟩ (.int .i64 ((X.oR : Int) + 1)) := ⟨_, rfl⟩
  rw [← hW1] at hS1 HS1
  have hs := (But.one W k).setAt 2 (.int .i64 ((X.oR : Int) + 1))
  rw [← hW1] at hs
  have b2 : W.cell? ⟨k, 2, none⟩ = some (.int .i64 (X.oR : Int)) := by rw [hI.box.cell]; rfl
  have g2 := hI.box.frozen 2
  have bl := hI.box.lt
  obtain ⟨bm, om, hp, _, hbm, hat⟩ := hS1.bk.inR.at_ (Nat.lt_of_le_of_lt (Nat.zero_le _) ho)
  have c0 : W1.cell? ⟨k, 0, none⟩ = some (.slice (some ⟨bm, om, none⟩) X.R.n X.R.c) := by rw [hS1.bk.box.cell, ← hp]; rfl
  have c2 : W1.cell? ⟨k, 2, none⟩ = some (.int .i64 ((X.oR : Int) + 1)) := by rw [hS1.bk.box.cell]; simp
  have r0 : W1.cell? ⟨bm, om + X.oR * 6, none⟩ = some (.string (X.R.item X.oR).key) := hat X.oR ho 0 _ rfl
  have r1 : W1.cell? ⟨bm, om + X.oR * 6 + 1, none⟩ = some (.int .i64 (X.R.item X.oR).v.kind) := hat X.oR ho 1 _ rfl
  have r2 : W1.cell? ⟨bm, om + X.oR * 6 + 2, none⟩ = some (.int .i64 (X.R.item X.oR).v.int) := hat X.oR ho 2 _ rfl
  have r3 : W1.cell? ⟨bm, om + X.oR * 6 + 3, none⟩ = some (.string (X.R.item X.oR).v.text) := hat X.oR ho 3 _ rfl
  have r4 : W1.cell? ⟨bm, om + X.oR * 6 + 4, none⟩ = some (.slice (X.R.item X.oR).v.p (X.R.item X.oR).v.n (X.R.item X.oR).v.c) := hat X.oR ho 4 _ rfl
  have r5 : W1.cell? ⟨bm, om + X.oR * 6 + 5, none⟩ = some (.slice (X.R.item X.oR).p (X.R.item X.oR).n (X.R.item X.oR).c) := hat X.oR ho 5 _ rfl
  have hX1 := hXb.but hs (by omega)
  have z0 := hX1.cell 0
  have z1 := hX1.cell 1
  have z2 := hX1.cell 2
  have z3 := hX1.cell 3
  have z4 := hX1.cell 4
  have z5 := hX1.cell 5
  have z6 := hX1.cell 6
  simp at z0 z1 z2 z3 z4 z5 z6
  have y0 := hXb.cell 0
  simp at y0
  rw [hm] at y0 z0
  have yl := hXb.lt
  have zl := hX1.lt
  have bl1 := hS1.bk.box.lt
  have hmn := h.rn
  have HC : Hid (∀ V, Below W1.heap.size W1 V → Calls Try.prog 14 #[.agg #[.string (X.R.item X.oR).key, .int .i64 (X.R.item X.oR).v.kind, .int .i64 (X.R.item X.oR).v.int, .string (X.R.item X.oR).v.text, .slice (X.R.item X.oR).v.p (X.R.item X.oR).v.n (X.R.item X.oR).v.c, .slice (X.R.item X.oR).p (X.R.item X.oR).n (X.R.item X.oR).c], .agg #[.string x.r.key, .int .i64 x.r.v.kind, .int .i64 x.r.v.int, .string x.r.v.text, .slice x.r.v.p x.r.v.n x.r.v.c, .slice x.r.p x.r.n x.r.c]] V fun e w' => e = .returned (.bool true) ∧ Below V.heap.size V w') := fun V hV => sameRec_yes (X.R.item X.oR) x.r V _ _ (RT.In.below (hS1.bk.el X.oR ho) hV) ((RT.In.kept (HXi.out.r) hs.size fun g hg hl => hs.block g hl (hS g hg)).below hV) he
  have hle : decide ((X.oR : Int) + 1 ≤ (X.R.n : Int)) = true := decide_eq_true (by omega)
  have hle' : (X.oR : Int) + 1 ≤ (X.R.n : Int) := by omega
  have hlt : (X.oR : Int) < (X.R.n : Int) := by omega
  have hwr : IntKind.i64.wrap (X.oR : Int) = (X.oR : Int) := by rw [IntKind.wrap_i64]; omega
  have hoR : X.oR ≤ 10000 := by omega
  have HWr := hid hwr
  have HW1 := hid hW1
  rw [hm]
  rw [hm] at HW
  clear hS1 hs hat hX1 hXb hI hW hB hW1 hp h hx he hwr hS hm
  go_enter Try.func23, Try.ntmps23
  go_upto_region 1 with fail
  rw [← HW.out]
  go_upto_region 5 with fail
  rw [← HW1.out]
  have hwr := HWr.out
  refine wp_region_calmE 30 (fun wx => Below W1.heap.size W1 wx) [(0, true), (1, false), (2, true), (3, true), (4, true), (5, true), (6, true), (7, false), (8, true), (9, true), (10, true), (11, false), (12, true), (13, true), (14, true), (15, true), (16, true), (17, true), (18, true), (19, false), (20, true), (21, true), (22, true), (23, false), (24, true), (25, true), (26, false), (27, true), (28, false)] (.one 29 false [(30, true), (31, true)] .done) (by kernel_rfl) (by kernel_rfl) (Below.refl _ _).drew ?_
  refine wpPre_e rfl rfl (fun K1 hK1 => ?_)
  apply Exists.intro
  refine And.intro (fun wx hx => ?_) ?_
  · go_simp
    try rfl
  go_simp
  refine hK1 _ ?_
  clear hK1 K1
  refine wpPre_e rfl rfl (fun K1 hK1 => ?_)
  apply Exists.intro
  refine And.intro (fun wx hx => ?_) ?_
  · have e0 := below_fact hx rfl c0
    have e1 := below_fact hx rfl c2
    have e2 := below_fact hx rfl r0
    have e3 := below_fact hx rfl r1
    have e4 := below_fact hx rfl r2
    have e5 := below_fact hx rfl r3
    have e6 := below_fact hx rfl r4
    have e7 := below_fact hx rfl r5
    have e8 := below_fact hx rfl z0
    have e9 := below_fact hx rfl z1
    have e10 := below_fact hx rfl z2
    have e11 := below_fact hx rfl z3
    have e12 := below_fact hx rfl z4
    have e13 := below_fact hx rfl z5
    have e14 := below_fact hx rfl z6
    go_simp
    try rfl
  go_simp
  refine hK1 _ ?_
  clear hK1 K1
  refine wpPre_e rfl rfl (fun K1 hK1 => ?_)
  apply Exists.intro
  refine And.intro (fun wx hx => ?_) ?_
  · go_simp
    try rfl
  go_simp
  refine hK1 _ ?_
  clear hK1 K1
  refine wpPre_e rfl rfl (fun K1 hK1 => ?_)
  apply Exists.intro
  refine And.intro (fun wx hx => ?_) ?_
  · go_simp
    try rfl
  go_simp
  refine hK1 _ ?_
  clear hK1 K1
  refine wpPre_i rfl (fun K1 hK1 => ?_)
  rw [if_pos (by go_simp)]
  apply Exists.intro
  refine And.intro (fun wx hx => ?_) ?_
  · go_simp
    try rfl
  go_simp
  refine hK1 _ ?_
  clear hK1 K1
  refine wpPre_i rfl (fun K1 hK1 => ?_)
  rw [if_pos (by go_simp)]
  apply Exists.intro
  refine And.intro (fun wx hx => ?_) ?_
  · go_simp
    try rfl
  go_simp
  refine hK1 _ ?_
  clear hK1 K1
  refine wpPre_i rfl (fun K1 hK1 => ?_)
  rw [if_pos (by go_simp)]
  apply Exists.intro
  refine And.intro (fun wx hx => ?_) ?_
  · go_simp
    try rfl
  go_simp
  refine hK1 _ ?_
  clear hK1 K1
  refine wpPre_i rfl (fun K1 hK1 => ?_)
  rw [if_pos (by go_simp)]
  apply Exists.intro
  refine And.intro (fun wx hx => ?_) ?_
  · have e0 := below_fact hx rfl c0
    have e1 := below_fact hx rfl c2
    have e2 := below_fact hx rfl r0
    have e3 := below_fact hx rfl r1
    have e4 := below_fact hx rfl r2
    have e5 := below_fact hx rfl r3
    have e6 := below_fact hx rfl r4
    have e7 := below_fact hx rfl r5
    have e8 := below_fact hx rfl z0
    have e9 := below_fact hx rfl z1
    have e10 := below_fact hx rfl z2
    have e11 := below_fact hx rfl z3
    have e12 := below_fact hx rfl z4
    have e13 := below_fact hx rfl z5
    have e14 := below_fact hx rfl z6
    go_simp
    try rfl
  go_simp
  refine hK1 _ ?_
  clear hK1 K1
  refine wpPre_i rfl (fun K1 hK1 => ?_)
  rw [if_pos (by go_simp)]
  apply Exists.intro
  refine And.intro (fun wx hx => ?_) ?_
  · go_simp
    try rfl
  go_simp
  refine hK1 _ ?_
  clear hK1 K1
  refine wpPre_i rfl (fun K1 hK1 => ?_)
  rw [if_pos (by go_simp)]
  apply Exists.intro
  refine And.intro (fun wx hx => ?_) ?_
  · go_simp
    try rfl
  go_simp
  refine hK1 _ ?_
  clear hK1 K1
  refine wpPre_i rfl (fun K1 hK1 => ?_)
  rw [if_pos (by go_simp)]
  apply Exists.intro
  refine And.intro (fun wx hx => ?_) ?_
  · go_simp
    try rfl
  go_simp
  refine hK1 _ ?_
  clear hK1 K1
  refine wpPre_i rfl (fun K1 hK1 => ?_)
  rw [if_pos (by go_simp)]
  apply Exists.intro
  refine And.intro (fun wx hx => ?_) ?_
  · have e0 := below_fact hx rfl c0
    have e1 := below_fact hx rfl c2
    have e2 := below_fact hx rfl r0
    have e3 := below_fact hx rfl r1
    have e4 := below_fact hx rfl r2
    have e5 := below_fact hx rfl r3
    have e6 := below_fact hx rfl r4
    have e7 := below_fact hx rfl r5
    have e8 := below_fact hx rfl z0
    have e9 := below_fact hx rfl z1
    have e10 := below_fact hx rfl z2
    have e11 := below_fact hx rfl z3
    have e12 := below_fact hx rfl z4
    have e13 := below_fact hx rfl z5
    have e14 := below_fact hx rfl z6
    go_simp
    try rfl
  go_simp
  refine hK1 _ ?_
  clear hK1 K1
  refine wpPre_i rfl (fun K1 hK1 => ?_)
  rw [if_pos (by go_simp)]
  apply Exists.intro
  refine And.intro (fun wx hx => ?_) ?_
  · go_simp
    try rfl
  go_simp
  refine hK1 _ ?_
  clear hK1 K1
  refine wpPre_i rfl (fun K1 hK1 => ?_)
  rw [if_pos (by go_simp)]
  apply Exists.intro
  refine And.intro (fun wx hx => ?_) ?_
  · go_simp
    try rfl
  go_simp
  refine hK1 _ ?_
  clear hK1 K1
  refine wpPre_e rfl rfl (fun K1 hK1 => ?_)
  apply Exists.intro
  refine And.intro (fun wx hx => ?_) ?_
  · go_simp
    try rfl
  go_simp
  refine hK1 _ ?_
  clear hK1 K1
  refine wpPre_e rfl rfl (fun K1 hK1 => ?_)
  apply Exists.intro
  refine And.intro (fun wx hx => ?_) ?_
  · go_simp
    try rfl
  go_simp
  refine hK1 _ ?_
  clear hK1 K1
  refine wpPre_i rfl (fun K1 hK1 => ?_)
  rw [if_pos (by go_simp)]
  apply Exists.intro
  refine And.intro (fun wx hx => ?_) ?_
  · go_simp
    try rfl
  go_simp
  refine hK1 _ ?_
  clear hK1 K1
  refine wpPre_i rfl (fun K1 hK1 => ?_)
  rw [if_pos (by go_simp)]
  apply Exists.intro
  refine And.intro (fun wx hx => ?_) ?_
  · go_simp
    try rfl
  go_simp
  refine hK1 _ ?_
  clear hK1 K1
  refine wpPre_i rfl (fun K1 hK1 => ?_)
  rw [if_pos (by go_simp)]
  apply Exists.intro
  refine And.intro (fun wx hx => ?_) ?_
  · go_simp
    try rfl
  go_simp
  refine hK1 _ ?_
  clear hK1 K1
  refine wpPre_i rfl (fun K1 hK1 => ?_)
  rw [if_pos (by go_simp)]
  apply Exists.intro
  refine And.intro (fun wx hx => ?_) ?_
  · have e0 := below_fact hx rfl c0
    have e1 := below_fact hx rfl c2
    have e2 := below_fact hx rfl r0
    have e3 := below_fact hx rfl r1
    have e4 := below_fact hx rfl r2
    have e5 := below_fact hx rfl r3
    have e6 := below_fact hx rfl r4
    have e7 := below_fact hx rfl r5
    have e8 := below_fact hx rfl z0
    have e9 := below_fact hx rfl z1
    have e10 := below_fact hx rfl z2
    have e11 := below_fact hx rfl z3
    have e12 := below_fact hx rfl z4
    have e13 := below_fact hx rfl z5
    have e14 := below_fact hx rfl z6
    go_simp
    try rfl
  go_simp
  refine hK1 _ ?_
  clear hK1 K1
  refine wpPre_i rfl (fun K1 hK1 => ?_)
  rw [if_pos (by go_simp)]
  apply Exists.intro
  refine And.intro (fun wx hx => ?_) ?_
  · go_simp
    try rfl
  go_simp
  refine hK1 _ ?_
  clear hK1 K1
  refine wpPre_i rfl (fun K1 hK1 => ?_)
  rw [if_pos (by go_simp)]
  apply Exists.intro
  refine And.intro (fun wx hx => ?_) ?_
  · go_simp
    try rfl
  go_simp
  refine hK1 _ ?_
  clear hK1 K1
  refine wpPre_i rfl (fun K1 hK1 => ?_)
  rw [if_pos (by go_simp)]
  apply Exists.intro
  refine And.intro (fun wx hx => ?_) ?_
  · go_simp
    try rfl
  go_simp
  refine hK1 _ ?_
  clear hK1 K1
  refine wpPre_i rfl (fun K1 hK1 => ?_)
  rw [if_pos (by go_simp)]
  apply Exists.intro
  refine And.intro (fun wx hx => ?_) ?_
  · have e0 := below_fact hx rfl c0
    have e1 := below_fact hx rfl c2
    have e2 := below_fact hx rfl r0
    have e3 := below_fact hx rfl r1
    have e4 := below_fact hx rfl r2
    have e5 := below_fact hx rfl r3
    have e6 := below_fact hx rfl r4
    have e7 := below_fact hx rfl r5
    have e8 := below_fact hx rfl z0
    have e9 := below_fact hx rfl z1
    have e10 := below_fact hx rfl z2
    have e11 := below_fact hx rfl z3
    have e12 := below_fact hx rfl z4
    have e13 := below_fact hx rfl z5
    have e14 := below_fact hx rfl z6
    go_simp
    try rfl
  go_simp
  refine hK1 _ ?_
  clear hK1 K1
  refine wpPre_i rfl (fun K1 hK1 => ?_)
  rw [if_pos (by go_simp)]
  apply Exists.intro
  refine And.intro (fun wx hx => ?_) ?_
  · go_simp
    try rfl
  go_simp
  refine hK1 _ ?_
  clear hK1 K1
  refine wpPre_i rfl (fun K1 hK1 => ?_)
  rw [if_pos (by go_simp)]
  apply Exists.intro
  refine And.intro (fun wx hx => ?_) ?_
  · go_simp
    try rfl
  go_simp
  refine hK1 _ ?_
  clear hK1 K1
  refine wpPre_i rfl (fun K1 hK1 => ?_)
  rw [if_pos (by go_simp)]
  apply Exists.intro
  refine And.intro (fun wx hx => ?_) ?_
  · have e0 := below_fact hx rfl c0
    have e1 := below_fact hx rfl c2
    have e2 := below_fact hx rfl r0
    have e3 := below_fact hx rfl r1
    have e4 := below_fact hx rfl r2
    have e5 := below_fact hx rfl r3
    have e6 := below_fact hx rfl r4
    have e7 := below_fact hx rfl r5
    have e8 := below_fact hx rfl z0
    have e9 := below_fact hx rfl z1
    have e10 := below_fact hx rfl z2
    have e11 := below_fact hx rfl z3
    have e12 := below_fact hx rfl z4
    have e13 := below_fact hx rfl z5
    have e14 := below_fact hx rfl z6
    go_simp
    try rfl
  go_simp
  refine hK1 _ ?_
  clear hK1 K1
  refine wpPre_i rfl (fun K1 hK1 => ?_)
  rw [if_pos (by go_simp)]
  apply Exists.intro
  refine And.intro (fun wx hx => ?_) ?_
  · go_simp
    try rfl
  go_simp
  refine hK1 _ ?_
  clear hK1 K1
  refine wpPre_i rfl (fun K1 hK1 => ?_)
  rw [if_pos (by go_simp)]
  apply Exists.intro
  refine And.intro (fun wx hx => ?_) ?_
  · have e0 := below_fact hx rfl c0
    have e1 := below_fact hx rfl c2
    have e2 := below_fact hx rfl r0
    have e3 := below_fact hx rfl r1
    have e4 := below_fact hx rfl r2
    have e5 := below_fact hx rfl r3
    have e6 := below_fact hx rfl r4
    have e7 := below_fact hx rfl r5
    have e8 := below_fact hx rfl z0
    have e9 := below_fact hx rfl z1
    have e10 := below_fact hx rfl z2
    have e11 := below_fact hx rfl z3
    have e12 := below_fact hx rfl z4
    have e13 := below_fact hx rfl z5
    have e14 := below_fact hx rfl z6
    go_simp
    try rfl
  go_simp
  refine hK1 _ ?_
  clear hK1 K1
  refine wpPre_nil ?_
  refine wpTr_e rfl (fun K1 hK1 => ?_)
  refine step_callG (by go_simp) 14 #[.tmp 80, .tmp 82] _ rfl Try.f14 Try.func14 (by kernel_rfl) rfl #[.agg #[.string (X.R.item X.oR).key, .int .i64 (X.R.item X.oR).v.kind, .int .i64 (X.R.item X.oR).v.int, .string (X.R.item X.oR).v.text, .slice (X.R.item X.oR).v.p (X.R.item X.oR).v.n (X.R.item X.oR).v.c, .slice (X.R.item X.oR).p (X.R.item X.oR).n (X.R.item X.oR).c], .agg #[.string x.r.key, .int .i64 x.r.v.kind, .int .i64 x.r.v.int, .string x.r.v.text, .slice x.r.v.p x.r.v.n x.r.v.c, .slice x.r.p x.r.n x.r.c]] rfl _ (HC.out _ (Below.refl _ _).drew) (fun e w9 h9 => ?_)
  obtain ⟨rfl, hb9⟩ := h9
  refine ⟨_, rfl, ?_⟩
  have HB9 : Hid (Below W1.heap.size W1 w9) := (Below.refl W1.heap.size W1).drew.trans hb9
  clear hb9
  go_simp
  refine hK1 _ _ (fun h => by cases h) ?_
  clear hK1 K1
  refine wpPre_e rfl rfl (fun K1 hK1 => ?_)
  apply Exists.intro
  refine And.intro (fun wx hx => ?_) ?_
  · go_simp
    try rfl
  go_simp
  refine hK1 _ ?_
  clear hK1 K1
  refine wpPre_e rfl rfl (fun K1 hK1 => ?_)
  apply Exists.intro
  refine And.intro (fun wx hx => ?_) ?_
  · go_simp
    try rfl
  go_simp
  refine hK1 _ ?_
  clear hK1 K1
  refine wpPre_nil ?_
  refine wpTr_done ?_
  clear hwr
  go_wp2
  exact bodyPost_ret (v := .bool true) (by simp [results, Try.results23, go_sem]) rfl ⟨rfl, BSet.trans HS1.out (BSet.below HS1.out.bk HB9.out)⟩
end Go.Proofs.Ytbcnlfbclgkeiaa
