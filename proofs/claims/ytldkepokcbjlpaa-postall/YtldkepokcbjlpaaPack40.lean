import Derived.Test.YtldkepokcbjlpaaPack39
namespace Go.Proofs.Ytldkepokcbjlpaa
open Go.RowKit Go.Conc
set_option maxRecDepth 60000
structure RpkL (w : World) (b : Nat) (R : Rp) (n m T : Nat) (pt : LT PtT) (tk : LT Int) (e : Ending) (w' : World) (v : LT PtT) : Prop where
  e : e = .returned (.tuple #[.int .i64 2, .agg #[.int .i64 (R.first + (n : Int)), .int .u32 R.sum, .slice v.p v.n v.c]])
  s : RSet w b R w' (R.put n { R.sh.item n with pk := (m : Int) + 1, st := 2 })
  n : v.n = T
  i : LT.In elPt w' (fun k => w.heap.size ≤ k) v
  a : ∀ t, t < T → ∃ i, i < tk.n ∧ tk.item i = (t : Int) ∧ PtAlk (pt.item i) (v.item t)
set_option maxHeartbeats 32000000 in
theorem rpick_last (w : World) (b : Nat) (R : Rp) (S : Nat → Prop) (hI : RpI w b R) (n m T : Nat) (pt : LT PtT) (tk : LT Int) (hU : RU w b R n pt tk) (hm : (R.sh.item n).pk = (m : Int)) (hmn : m < pt.n) (hT : R.tasks = (T : Int)) (hmt : ¬ (m : Int) + 1 < (T : Int)) (hall : ∀ t : Nat, t < T → ∃ i, i < tk.n ∧ tk.item i = (t : Int)) (hpi : ∀ i, i < pt.n → PtIn w S (pt.item i) ∧ PtSz (pt.item i)) (hSC : ∀ k, S k → ¬ R.C b k) : Calls Try.prog 44 #[.pointer (some ⟨b, 0, none⟩)] w fun e w' => ∃ v, RpkL w b R n m T pt tk e w' v := by
  have HAl := hid (And.intro hall (And.intro hpi hSC))
  have hT12 : T ≤ 12 := by have := hI.t1; omega
  clear hall hpi hSC
  obtain ⟨W, hW⟩ : ∃ V, V = w.alloc (.cells #[.int .i64 0, .int .u32 0, .slice none 0 0] 48) := ⟨_, rfl⟩
  have hB : Below w.heap.size w W := by rw [hW]; exact (Below.refl _ _).alloc (Nat.le_refl _) _
  have hZ : Box W w.heap.size #[.int .i64 0, .int .u32 0, .slice none 0 0] 48 := by rw [hW]; exact Box.new _ _ _
  have hIW := hI.below hB
  have HI := hid hI
  have HIW := hid hIW
  have HB := hid hB
  have HZ := hid hZ
  have HW := hid hW
  have HN := hid (rnow_any W b R hIW)
  have c0 := hIW.box.cell 0
  have c2 := hIW.box.cell 2
  have c3 := hIW.box.cell 3
  have bl := hIW.box.lt
  have z0 := hZ.cell 0
  have z1 := hZ.cell 1
  have z2 := hZ.cell 2
  have y0 := hZ.frozen 0
  have y1 := hZ.frozen 1
  have y2 := hZ.frozen 2
  have zl := hZ.lt
  have hn1 := hI.n1
  have hf0 := hI.f0
  have hf1 := hI.f1
  have ht0 := hI.t0
  have ht1 := hI.t1
  simp [Rp.arr] at c0 c2 c3
  simp at z0 z1 z2
  have HE := hid hU.now
  obtain ⟨g, hp, hgl, hob, hfz, hat⟩ := hIW.at_ (by have := hU.hn; omega)
  have hin : n < R.sh.n := by have := hU.hn; omega
  have r0 : W.cell? ⟨g, n * 5, none⟩ = some (.int .i64 (R.sh.item n).id) := hat n hin 0 _ rfl
  have r1 := hat n hin 1 _ rfl
  have r2 := hat n hin 2 _ rfl
  have r3 := hat n hin 3 _ rfl
  have r4 := hat n hin 4 _ rfl
  have f1 := hfz (n * 5 + 1)
  have f4 := hfz (n * 5 + 4)
  have hst := hU.st
  rw [hst.2.1] at r0
  rw [hst.1] at r1
  rw [hst.2.2.1, hst.2.2.2.1, hst.2.2.2.2.1] at r3
  rw [hst.2.2.2.2.2.1, hst.2.2.2.2.2.2.1, hst.2.2.2.2.2.2.2] at r2
  rw [hm] at r4
  have hin' : (n : Int) < (R.sh.n : Int) := by omega
  have hi0 : ¬ (n : Int) < 0 := by omega
  have HGp := hid hp
  have HOb := hid hob
  rw [hp] at c3
  have hmp : ((m : Int) == (pt.n : Int)) = false := by rw [beq_eq_false_iff_ne]; omega
  have hm12 := hU.m12
  have HU := hid hU
  obtain ⟨V, hV⟩ : ∃ V, V = (W.alloc (.cells #[.int .i64 (R.first + (n : Int)), .int .i64 1, .slice pt.p pt.n pt.c, .slice tk.p tk.n tk.c, .int .i64 ((m : Int) + 1)] 125)).drew := ⟨_, rfl⟩
  have hbV : Below W.heap.size W V := by rw [hV]; exact ((Below.refl _ _).alloc (Nat.le_refl _) _).drew
  have hS : Box V W.heap.size #[.int .i64 (R.first + (n : Int)), .int .i64 1, .slice pt.p pt.n pt.c, .slice tk.p tk.n tk.c, .int .i64 ((m : Int) + 1)] 125 := by rw [hV]; exact (Box.new _ _ _).below (Below.refl _ _).drew
  have hsW : W.heap.size = w.heap.size + 1 := by rw [hW]; simp
  have HV := hid hV
  have HS := hid hS
  have HBV := hid hbV
  have HsW := hid hsW
  have hwm : IntKind.i64.wrap ((m : Int) + 1) = (m : Int) + 1 := by rw [IntKind.wrap_i64]; omega
  have HmP := hid hm
  clear hI hB hZ hIW hW hat hfz hob hp hst hU hV hbV hS hsW hm
  go_enter Try.func44, Try.ntmps44
  go_upto_region 1 with fail
  rw [← HW.out]
  go_wp2_with fail
  refine HN.out.mono ?_
  rintro e w1 hw1
  obtain ⟨rfl, hw1⟩ := hw1
  have hw1' : w1 = W := hw1
  rw [hw1', HE.out]
  clear hw1 hw1'
  clear w1
  go_upto_region 2 with fail
  refine wp_region_calmD 30 (fun wx => Below W.heap.size W wx) [(0, true), (1, true), (2, true), (3, true), (4, true), (5, true), (6, false), (7, true), (8, true), (9, true), (10, false), (11, true), (12, true), (13, true), (14, false), (15, true), (16, true), (17, true), (18, false), (19, true), (20, true), (21, true)] [] (by kernel_rfl) (by kernel_rfl) (Below.refl _ _).drew ?_
  refine wpPre_e rfl rfl (fun K1 hK1 => ?_)
  apply Exists.intro
  refine And.intro (fun wx hx => ?_) ?_
  · go_simp
    try rfl
  go_simp
  refine hK1 _ ?_
  clear hK1 K1
  refine wpPre_e rfl rfl (fun K1 hK1 => ?_)
  apply Exists.intro
  refine And.intro (fun wx hx => ?_) ?_
  · go_simp
    try rfl
  go_simp
  refine hK1 _ ?_
  clear hK1 K1
  refine wpPre_e rfl rfl (fun K1 hK1 => ?_)
  apply Exists.intro
  refine And.intro (fun wx hx => ?_) ?_
  · go_simp
    try rfl
  go_simp
  refine hK1 _ ?_
  clear hK1 K1
  refine wpPre_i rfl (fun K1 hK1 => ?_)
  rw [if_pos (by go_simp)]
  apply Exists.intro
  refine And.intro (fun wx hx => ?_) ?_
  · go_simp
    try rfl
  go_simp
  refine hK1 _ ?_
  clear hK1 K1
  refine wpPre_i rfl (fun K1 hK1 => ?_)
  rw [if_pos (by go_simp)]
  apply Exists.intro
  refine And.intro (fun wx hx => ?_) ?_
  · go_simp
    try rfl
  go_simp
  refine hK1 _ ?_
  clear hK1 K1
  refine wpPre_i rfl (fun K1 hK1 => ?_)
  rw [if_pos (by go_simp)]
  apply Exists.intro
  refine And.intro (fun wx hx => ?_) ?_
  · go_simp
    try rfl
  go_simp
  refine hK1 _ ?_
  clear hK1 K1
  refine wpPre_i rfl (fun K1 hK1 => ?_)
  rw [if_pos (by go_simp)]
  apply Exists.intro
  refine And.intro (fun wx hx => ?_) ?_
  · have e0 := below_fact hx rfl c3
    have e1 := below_fact hx rfl r2
    have e2 := below_fact hx rfl r4
    go_simp
    try rfl
  go_simp
  refine hK1 _ ?_
  clear hK1 K1
  refine wpPre_i rfl (fun K1 hK1 => ?_)
  rw [if_pos (by go_simp)]
  apply Exists.intro
  refine And.intro (fun wx hx => ?_) ?_
  · go_simp
    try rfl
  go_simp
  refine hK1 _ ?_
  clear hK1 K1
  refine wpPre_i rfl (fun K1 hK1 => ?_)
  rw [if_pos (by go_simp)]
  apply Exists.intro
  refine And.intro (fun wx hx => ?_) ?_
  · go_simp
    try rfl
  go_simp
  refine hK1 _ ?_
  clear hK1 K1
  refine wpPre_i rfl (fun K1 hK1 => ?_)
  rw [if_pos (by go_simp)]
  apply Exists.intro
  refine And.intro (fun wx hx => ?_) ?_
  · go_simp
    try rfl
  go_simp
  refine hK1 _ ?_
  clear hK1 K1
  refine wpPre_i rfl (fun K1 hK1 => ?_)
  rw [if_pos (by go_simp)]
  apply Exists.intro
  refine And.intro (fun wx hx => ?_) ?_
  · have e0 := below_fact hx rfl c3
    have e1 := below_fact hx rfl r2
    have e2 := below_fact hx rfl r4
    go_simp
    try rfl
  go_simp
  refine hK1 _ ?_
  clear hK1 K1
  refine wpPre_i rfl (fun K1 hK1 => ?_)
  rw [if_pos (by go_simp)]
  apply Exists.intro
  refine And.intro (fun wx hx => ?_) ?_
  · go_simp
    try rfl
  go_simp
  refine hK1 _ ?_
  clear hK1 K1
  refine wpPre_i rfl (fun K1 hK1 => ?_)
  rw [if_pos (by go_simp)]
  apply Exists.intro
  refine And.intro (fun wx hx => ?_) ?_
  · go_simp
    try rfl
  go_simp
  refine hK1 _ ?_
  clear hK1 K1
  refine wpPre_i rfl (fun K1 hK1 => ?_)
  rw [if_pos (by go_simp)]
  apply Exists.intro
  refine And.intro (fun wx hx => ?_) ?_
  · go_simp
    try rfl
  go_simp
  refine hK1 _ ?_
  clear hK1 K1
  refine wpPre_i rfl (fun K1 hK1 => ?_)
  rw [if_pos (by go_simp)]
  apply Exists.intro
  refine And.intro (fun wx hx => ?_) ?_
  · have e0 := below_fact hx rfl c3
    have e1 := below_fact hx rfl r2
    have e2 := below_fact hx rfl r4
    go_simp
    try rfl
  go_simp
  refine hK1 _ ?_
  clear hK1 K1
  refine wpPre_i rfl (fun K1 hK1 => ?_)
  rw [if_pos (by go_simp)]
  apply Exists.intro
  refine And.intro (fun wx hx => ?_) ?_
  · go_simp
    try rfl
  go_simp
  refine hK1 _ ?_
  clear hK1 K1
  refine wpPre_i rfl (fun K1 hK1 => ?_)
  rw [if_pos (by go_simp)]
  apply Exists.intro
  refine And.intro (fun wx hx => ?_) ?_
  · go_simp
    try rfl
  go_simp
  refine hK1 _ ?_
  clear hK1 K1
  refine wpPre_i rfl (fun K1 hK1 => ?_)
  rw [if_pos (by go_simp)]
  apply Exists.intro
  refine And.intro (fun wx hx => ?_) ?_
  · go_simp
    try rfl
  go_simp
  refine hK1 _ ?_
  clear hK1 K1
  refine wpPre_i rfl (fun K1 hK1 => ?_)
  rw [if_pos (by go_simp)]
  apply Exists.intro
  refine And.intro (fun wx hx => ?_) ?_
  · have e0 := below_fact hx rfl c3
    have e1 := below_fact hx rfl r2
    have e2 := below_fact hx rfl r4
    go_simp
    try rfl
  go_simp
  refine hK1 _ ?_
  clear hK1 K1
  refine wpPre_i rfl (fun K1 hK1 => ?_)
  rw [if_pos (by go_simp)]
  apply Exists.intro
  refine And.intro (fun wx hx => ?_) ?_
  · go_simp
    try rfl
  go_simp
  refine hK1 _ ?_
  clear hK1 K1
  refine wpPre_i rfl (fun K1 hK1 => ?_)
  rw [if_pos (by go_simp)]
  apply Exists.intro
  refine And.intro (fun wx hx => ?_) ?_
  · go_simp
    try rfl
  go_simp
  refine hK1 _ ?_
  clear hK1 K1
  refine wpPre_e rfl rfl (fun K1 hK1 => ?_)
  apply Exists.intro
  refine And.intro (fun wx hx => ?_) ?_
  · go_simp
    try rfl
  go_simp
  refine hK1 _ ?_
  clear hK1 K1
  refine wpPre_nil ?_
  refine wpStg_nil ?_
  go_upto_region 6 with fail
  rw [← HV.out]
  have hIV := HIW.out.below HBV.out
  have hZV := HZ.out.below HBV.out
  obtain ⟨g9, hp9, hgl9, hob9, hfz9, hat9⟩ := hIV.at_ (by have := HU.out.hn; omega)
  have hgg : g9 = g := by rw [HGp.out] at hp9; simpa using hp9.symm
  subst hgg
  have v3 := hat9 n hin 4 _ rfl
  have fv4 := hfz9 (n * 5 + 4)
  clear c0 c2 c3 bl z0 z1 z2 y0 y1 y2 zl r0 r1 r2 r3 r4 f1 f4 hgl HN
  have c3 := hIV.box.cell 3
  have bl := hIV.box.lt
  simp [Rp.arr] at c3
  rw [hp9] at c3
  have s4 := HS.out.cell 4
  have sl := HS.out.lt
  simp at s4
  have HIV := hid hIV
  have HZV := hid hZV
  have hwl : g9 < w.heap.size := (HI.out.own.lt g9 hob9).2
  have hgs : g9 ≠ W.heap.size := by have := HsW.out; omega
  have hgs' : W.heap.size ≠ g9 := fun e => hgs e.symm
  have hgz : g9 ≠ w.heap.size := by omega
  have hgz' : w.heap.size ≠ g9 := fun e => hgz e.symm
  have hgb : g9 ≠ b := fun e => HI.out.ne (by rw [show R.lv.ownBlock = some g9 from hob9, e])
  have hgb' : b ≠ g9 := fun e => hgb e.symm
  have HOb9 := hid hob9
  clear hIV hZV hat9 hfz9 hob9
  refine wp_region_calmE 30 (fun wx => Below V.heap.size V wx) [(0, true), (1, true), (2, true), (3, false), (4, true), (5, true), (6, false), (7, true), (8, true)] (.one 9 false [] .done) (by kernel_rfl) (by kernel_rfl) (Below.refl _ _).drew ?_
  refine wpPre_e rfl rfl (fun K1 hK1 => ?_)
  apply Exists.intro
  refine And.intro (fun wx hx => ?_) ?_
  · go_simp
    try rfl
  go_simp
  refine hK1 _ ?_
  clear hK1 K1
  refine wpPre_e rfl rfl (fun K1 hK1 => ?_)
  apply Exists.intro
  refine And.intro (fun wx hx => ?_) ?_
  · go_simp
    try rfl
  go_simp
  refine hK1 _ ?_
  clear hK1 K1
  refine wpPre_e rfl rfl (fun K1 hK1 => ?_)
  apply Exists.intro
  refine And.intro (fun wx hx => ?_) ?_
  · go_simp
    try rfl
  go_simp
  refine hK1 _ ?_
  clear hK1 K1
  refine wpPre_e rfl rfl (fun K1 hK1 => ?_)
  apply Exists.intro
  refine And.intro (fun wx hx => ?_) ?_
  · have e0 := below_fact hx rfl c3
    have e1 := below_fact hx rfl s4
    go_simp
    try rfl
  go_simp
  refine hK1 _ ?_
  clear hK1 K1
  refine wpPre_e rfl rfl (fun K1 hK1 => ?_)
  apply Exists.intro
  refine And.intro (fun wx hx => ?_) ?_
  · go_simp
    try rfl
  go_simp
  refine hK1 _ ?_
  clear hK1 K1
  refine wpPre_e rfl rfl (fun K1 hK1 => ?_)
  apply Exists.intro
  refine And.intro (fun wx hx => ?_) ?_
  · go_simp
    try rfl
  go_simp
  refine hK1 _ ?_
  clear hK1 K1
  refine wpPre_e rfl rfl (fun K1 hK1 => ?_)
  apply Exists.intro
  refine And.intro (fun wx hx => ?_) ?_
  · have e0 := below_fact hx rfl c3
    have e1 := below_fact hx rfl s4
    go_simp
    try rfl
  go_simp
  refine hK1 _ ?_
  clear hK1 K1
  refine wpPre_e rfl rfl (fun K1 hK1 => ?_)
  apply Exists.intro
  refine And.intro (fun wx hx => ?_) ?_
  · go_simp
    try rfl
  go_simp
  refine hK1 _ ?_
  clear hK1 K1
  refine wpPre_e rfl rfl (fun K1 hK1 => ?_)
  apply Exists.intro
  refine And.intro (fun wx hx => ?_) ?_
  · go_simp
    try rfl
  go_simp
  refine hK1 _ ?_
  clear hK1 K1
  refine wpPre_nil ?_
  refine wpTr_e rfl (fun K1 hK1 => ?_)
  go_simp
  refine hK1 _ _ (fun h => by cases h) ?_
  clear hK1 K1
  refine wpPre_nil ?_
  refine wpTr_done ?_
  obtain ⟨Y, hY⟩ : ∃ Y, Y = (V.setCell ⟨g9, n * 5 + 4, none⟩ (.int .i64 ((m : Int) + 1))).drew := ⟨_, rfl⟩
  have HY := hid hY
  have hRY : RSet V b R Y (R.put n { R.sh.item n with pk := (m : Int) + 1 }) := by
    have h := HIV.out.put (r := 4) (i := n) (u := .int .i64 ((m : Int) + 1)) (x := { R.sh.item n with pk := (m : Int) + 1 }) hp9 hin (by omega) rfl
    rw [hY]
    exact h.trans (RSet.same h.inv (Below.refl _ _).drew)
  have hbY : But (fun k => k = g9) V Y := by rw [hY]; exact ((But.one V g9).setAt _ _).trans (But.ofBelow (Below.refl _ _).drew)
  have hSY : Box Y W.heap.size #[.int .i64 (R.first + (n : Int)), .int .i64 1, .slice pt.p pt.n pt.c, .slice tk.p tk.n tk.c, .int .i64 ((m : Int) + 1)] 125 := HS.out.kept (hbY.block _ HS.out.lt hgs')
  have hZY : Box Y w.heap.size #[.int .i64 0, .int .u32 0, .slice none 0 0] 48 := HZV.out.kept (hbY.block _ HZV.out.lt hgz')
  have s4y := hSY.cell 4
  have sly := hSY.lt
  have c0y := hRY.inv.box.cell 0
  have bly := hRY.inv.box.lt
  simp [Rp.arr] at s4y c0y
  have c0y : Y.cell? ⟨b, 0, none⟩ = some (.int .i64 R.tasks) := c0y
  rw [hT] at c0y
  have HTs := hid hT
  have HRY := hid hRY
  have HbY := hid hbY
  have HSY := hid hSY
  have HZY := hid hZY
  clear hY hRY hbY hSY hZY s4 sl c3 bl v3 fv4
  go_upto_region 7 with fail
  rw [← HY.out]
  refine wp_region_calmD 30 (fun wx => Below Y.heap.size Y wx) [(0, true), (1, false), (2, true), (3, true), (4, true), (5, false), (6, true)] [] (by kernel_rfl) (by kernel_rfl) (Below.refl _ _).drew ?_
  refine wpPre_e rfl rfl (fun K1 hK1 => ?_)
  apply Exists.intro
  refine And.intro (fun wx hx => ?_) ?_
  · go_simp
    try rfl
  go_simp
  refine hK1 _ ?_
  clear hK1 K1
  refine wpPre_e rfl rfl (fun K1 hK1 => ?_)
  apply Exists.intro
  refine And.intro (fun wx hx => ?_) ?_
  · have e0 := below_fact hx rfl s4y
    have e1 := below_fact hx rfl c0y
    go_simp
    try rfl
  go_simp
  refine hK1 _ ?_
  clear hK1 K1
  refine wpPre_e rfl rfl (fun K1 hK1 => ?_)
  apply Exists.intro
  refine And.intro (fun wx hx => ?_) ?_
  · go_simp
    try rfl
  go_simp
  refine hK1 _ ?_
  clear hK1 K1
  refine wpPre_e rfl rfl (fun K1 hK1 => ?_)
  apply Exists.intro
  refine And.intro (fun wx hx => ?_) ?_
  · go_simp
    try rfl
  go_simp
  refine hK1 _ ?_
  clear hK1 K1
  refine wpPre_e rfl rfl (fun K1 hK1 => ?_)
  apply Exists.intro
  refine And.intro (fun wx hx => ?_) ?_
  · go_simp
    try rfl
  go_simp
  refine hK1 _ ?_
  clear hK1 K1
  refine wpPre_e rfl rfl (fun K1 hK1 => ?_)
  apply Exists.intro
  refine And.intro (fun wx hx => ?_) ?_
  · have e0 := below_fact hx rfl s4y
    have e1 := below_fact hx rfl c0y
    go_simp
    try rfl
  go_simp
  refine hK1 _ ?_
  clear hK1 K1
  refine wpPre_e rfl rfl (fun K1 hK1 => ?_)
  apply Exists.intro
  refine And.intro (fun wx hx => ?_) ?_
  · go_simp
    try rfl
  go_simp
  refine hK1 _ ?_
  clear hK1 K1
  refine wpPre_nil ?_
  refine wpStg_nil ?_
  go_upto_region 9 with fail
  have hRYd := RSet.same HRY.out.inv (Below.refl Y.heap.size Y).drew
  obtain ⟨g8, hp8, hgl8, hob8, hfz8, hat8⟩ := hRYd.inv.at_ (by show 0 < R.sh.n; omega)
  have hgg8 : g8 = g9 := by
    have h8 : R.sh.p = some ⟨g8, 0, none⟩ := hp8
    rw [hp9] at h8
    simpa using h8.symm
  subst hgg8
  have v1 := hat8 n hin 1 _ rfl
  have fv1 := hfz8 (n * 5 + 1)
  have c3 := hRYd.inv.box.cell 3
  have bl := hRYd.inv.box.lt
  simp [Rp.arr] at c3
  have c3 : Y.cell? ⟨b, 3, none⟩ = some (.slice (some ⟨g8, 0, none⟩) R.sh.n R.sh.c) := by
    rw [c3]
    show some (Value.slice R.sh.p R.sh.n R.sh.c) = _
    rw [hp9]
  obtain ⟨X, hX⟩ : ∃ X, X = (Y.setCell ⟨g8, n * 5 + 1, none⟩ (.int .i64 2)).drew := ⟨_, rfl⟩
  have HX := hid hX
  have hRX : RSet Y b (R.put n { R.sh.item n with pk := (m : Int) + 1 }) X (R.put n { R.sh.item n with pk := (m : Int) + 1, st := 2 }) := by
    have h := HRY.out.inv.put (r := 1) (i := n) (u := .int .i64 2) (x := { R.sh.item n with pk := (m : Int) + 1, st := 2 }) hp9 hin (by omega) (by
      show _ = (elSh.cells (if n = n then _ else R.sh.item n)).set 1 _
      rw [if_pos rfl]; rfl)
    rw [Rp.put_put] at h
    rw [hX]
    exact h.trans (RSet.same h.inv (Below.refl _ _).drew)
  have hbX : But (fun k => k = g8) Y X := by rw [hX]; exact ((But.one Y g8).setAt _ _).trans (But.ofBelow (Below.refl _ _).drew)
  have hSX : Box X W.heap.size #[.int .i64 (R.first + (n : Int)), .int .i64 1, .slice pt.p pt.n pt.c, .slice tk.p tk.n tk.c, .int .i64 ((m : Int) + 1)] 125 := HSY.out.kept (hbX.block _ HSY.out.lt hgs')
  have hZX : Box X w.heap.size #[.int .i64 0, .int .u32 0, .slice none 0 0] 48 := HZY.out.kept (hbX.block _ HZY.out.lt hgz')
  have s0x := hSX.cell 0
  have slx := hSX.lt
  have c2x := hRX.inv.box.cell 2
  have blx := hRX.inv.box.lt
  simp [Rp.arr] at s0x c2x
  have c2x : X.cell? ⟨b, 2, none⟩ = some (.int .u32 R.sum) := c2x
  obtain ⟨U, hU⟩ : ∃ U, U = (X.alloc (.cells #[.int .i64 (R.first + (n : Int)), .int .u32 R.sum, .slice none 0 0] 48)).drew := ⟨_, rfl⟩
  have HUe := hid hU
  have hbU : Below X.heap.size X U := by rw [hU]; exact ((Below.refl _ _).alloc (Nat.le_refl _) _).drew
  have hOU : Box U X.heap.size #[.int .i64 (R.first + (n : Int)), .int .u32 R.sum, .slice none 0 0] 48 := by rw [hU]; exact (Box.new _ _ _).below (Below.refl _ _).drew
  have HRX := hid hRX
  have HbX := hid hbX
  have HSX := hid hSX
  have HZX := hid hZX
  have HbU := hid hbU
  have HOU := hid hOU
  clear hX hRX hbX hSX hZX hU hbU hOU hat8 hfz8 hRYd
  go_upto_region 10 with fail
  rw [← HX.out]
  clear c3 bl v1 fv1 s4y sly c0y bly
  refine wp_region_calmE 30 (fun wx => Below X.heap.size X wx) [(0, true), (1, false), (2, true), (3, true), (4, true), (5, false), (6, true)] (.one 7 true [] (.one 8 false [] .done)) (by kernel_rfl) (by kernel_rfl) (Below.refl _ _).drew ?_
  refine wpPre_e rfl rfl (fun K1 hK1 => ?_)
  apply Exists.intro
  refine And.intro (fun wx hx => ?_) ?_
  · go_simp
    try rfl
  go_simp
  refine hK1 _ ?_
  clear hK1 K1
  refine wpPre_e rfl rfl (fun K1 hK1 => ?_)
  apply Exists.intro
  refine And.intro (fun wx hx => ?_) ?_
  · have e0 := below_fact hx rfl s0x
    have e1 := below_fact hx rfl c2x
    go_simp
    try rfl
  go_simp
  refine hK1 _ ?_
  clear hK1 K1
  refine wpPre_e rfl rfl (fun K1 hK1 => ?_)
  apply Exists.intro
  refine And.intro (fun wx hx => ?_) ?_
  · go_simp
    try rfl
  go_simp
  refine hK1 _ ?_
  clear hK1 K1
  refine wpPre_e rfl rfl (fun K1 hK1 => ?_)
  apply Exists.intro
  refine And.intro (fun wx hx => ?_) ?_
  · go_simp
    try rfl
  go_simp
  refine hK1 _ ?_
  clear hK1 K1
  refine wpPre_e rfl rfl (fun K1 hK1 => ?_)
  apply Exists.intro
  refine And.intro (fun wx hx => ?_) ?_
  · go_simp
    try rfl
  go_simp
  refine hK1 _ ?_
  clear hK1 K1
  refine wpPre_e rfl rfl (fun K1 hK1 => ?_)
  apply Exists.intro
  refine And.intro (fun wx hx => ?_) ?_
  · have e0 := below_fact hx rfl s0x
    have e1 := below_fact hx rfl c2x
    go_simp
    try rfl
  go_simp
  refine hK1 _ ?_
  clear hK1 K1
  refine wpPre_e rfl rfl (fun K1 hK1 => ?_)
  apply Exists.intro
  refine And.intro (fun wx hx => ?_) ?_
  · go_simp
    try rfl
  go_simp
  refine hK1 _ ?_
  clear hK1 K1
  refine wpPre_nil ?_
  refine wpTr_e rfl (fun K1 hK1 => ?_)
  go_simp
  refine hK1 _ _ (fun _ => ((Below.refl X.heap.size X).alloc (Nat.le_refl _) _).drew) ?_
  clear hK1 K1
  refine wpPre_nil ?_
  refine wpTr_e rfl (fun K1 hK1 => ?_)
  go_simp
  refine hK1 _ _ (fun h => by cases h) ?_
  clear hK1 K1
  refine wpPre_nil ?_
  refine wpTr_done ?_
  go_upto_region 11 with fail
  rw [← HUe.out]
  obtain ⟨ip, Kp⟩ := kindPts
  have HKp := hid Kp
  clear Kp
  have hob : X.heap.size < U.heap.size := HOU.out.lt
  have hSU := HSX.out.below HbU.out
  have hZU := HZX.out.below HbU.out
  have hIU := HRX.out.inv.below HbU.out
  have hsz1 : W.heap.size < V.heap.size := HS.out.lt
  have hsz2 : V.heap.size ≤ Y.heap.size := HbY.out.size
  have hsz3 : Y.heap.size ≤ X.heap.size := HbX.out.size
  have hz0a : W.heap.size ≤ w.heap.size + 1 := by have := HsW.out; omega
  have hz0b : w.heap.size + 1 ≤ W.heap.size := by have := HsW.out; omega
  -- what stays of the memory that was there
  have hkeep : ∀ k, k < w.heap.size → k ≠ g8 → U.heap[k]? = w.heap[k]? := fun k hk hg => (HbU.out.block k (by omega)).trans ((HbX.out.block k (by omega) hg).trans ((HbY.out.block k (by omega) hg).trans ((HBV.out.block k (by omega)).trans (HB.out.block k hk))))
  have hgC : R.C b g8 := .inr HOb9.out
  have hpU := ownsRow_keep HU.out.pown (fun k hk hl => hkeep k hl (fun e => (HU.out.pne k hk).1 (by rw [e]; exact hgC)))
  have htU := ownsRow_keep HU.out.town (fun k hk hl => hkeep k hl (fun e => HU.out.tne k hk (by rw [e]; exact hgC)))
  have HPn : Hid (pt.n = tk.n) := HU.out.m.symm
  have hpiU : ∀ i, i < pt.n → PtIn U (fun k => S k ∧ k < w.heap.size) (pt.item i) := fun i hi => ((HAl.out.2.1 i hi).1.mono fun k hk hl => ⟨hk, hl⟩).kept (by omega) (fun k hk hl => hkeep k hk.2 (fun e => HAl.out.2.2 k hk.1 (by rw [e]; exact hgC)))
  have hTl : LT.In elInt U (fun _ => True) tk := own_in' (E := elInt) (l := tk) htU (fun _ _ => trivial) (fun j hj => by have := HU.out.tb j hj; have := HTs.out; exact (by omega : -9223372036854775808 ≤ tk.item j ∧ tk.item j ≤ 9223372036854775807)) (by have := HU.out.m; omega)
  have hPl : LT.In elPt U (fun _ => True) pt := own_in' (E := elPt) (l := pt) hpU (fun _ _ => trivial) (fun j hj => (hpiU j hj).mono fun _ _ _ => trivial) (by omega)
  have HSU := hid hSU
  have HZU := hid hZU
  have HIU := hid hIU
  have HTl := hid hTl
  have HPl := hid hPl
  have HpiU := hid hpiU
  have HKp2 := hid hkeep
  have htn12 : tk.n ≤ 12 := by have := HU.out.m; omega
  have hpl : ∀ k, R.C b k → k < U.heap.size := fun k hk => hIU.lt hk
  have hbU0 : b < U.heap.size := hIU.box.lt
  have HbX0 : Hid (b ≠ X.heap.size) := by unfold Hid; have := HRX.out.inv.box.lt; omega
  clear hSU hZU hIU hpU htU hpiU hTl hPl hkeep s0x slx c2x blx hpl
  go_wp2_with fail
  go_loopw [7] (fun x wr => ∃ (t : Nat) (g : Nat → PtT) (pv : Option Addr) (cv : Nat), t ≤ T ∧ x = .int .i64 (t : Int) ∧ Box wr X.heap.size #[.int .i64 (R.first + (n : Int)), .int .u32 R.sum, .slice pv t cv] 48 ∧ OwnL elPt U.heap.size wr (.slice pv t cv) t g ∧ (∀ s, s < t → ∃ i, i < tk.n ∧ tk.item i = (s : Int) ∧ PtAlk (pt.item i) (g s)) ∧ But (fun k => k = X.heap.size) U wr) (fun x _ => T - (intOf x).toNat)
  case atStart => exact ⟨0, pt.item, none, 0, Nat.zero_le _, rfl, HOU.out, ⟨World.ownsRow_nil _ _ _ _, fun j hj => absurd hj (by omega)⟩, fun s hs => absurd hs (by omega), But.refl _ _⟩
  case round =>
    obtain ⟨t, g, pv, cv, ht, rfl, hO, hL, ha, hbt⟩ := hrel
    have HO := hid hO
    have HL := hid hL
    have HA := hid ha
    have HBt := hid hbt
    have hsr := hbt.size
    have c0r : wr.cell? ⟨b, 0, none⟩ = some (.int .i64 (T : Int)) := by
      have h := (HIU.out.box.kept (hbt.block b hbU0 HbX0.out)).cell 0
      simp [Rp.arr] at h
      rw [h]
      show some (Value.int .i64 R.tasks) = _
      rw [HTs.out]
    have blr : b < wr.heap.size := by omega
    clear hO hL ha hbt
    by_cases hlt : t < T
    · have hlt' : (t : Int) < (T : Int) := by omega
      obtain ⟨wo, hwo⟩ : ∃ x, x = wr := ⟨_, rfl⟩
      subst hwo
      go_wp2_with fail
      go_loopw [8] (fun x wr => ∃ (q m' : Nat) (g' : Nat → PtT) (pv' : Option Addr) (cv' : Nat), q ≤ tk.n ∧ x = .int .i64 (q : Int) ∧ m' = t + (if inT tk q (t : Int) = true then 1 else 0) ∧ Box wr X.heap.size #[.int .i64 (R.first + (n : Int)), .int .u32 R.sum, (.slice pv' m' cv')] 48 ∧ OwnL elPt U.heap.size wr (.slice pv' m' cv') m' g' ∧ (∀ s, s < m' → ∃ i, i < tk.n ∧ tk.item i = (s : Int) ∧ PtAlk (pt.item i) (g' s)) ∧ But (fun k => k = X.heap.size) U wr) (fun x _ => tk.n - (intOf x).toNat)
      case atStart => exact ⟨0, t, g, pv, cv, Nat.zero_le _, rfl, rfl, HO.out, HL.out, HA.out, HBt.out⟩
      case round =>
        clear HO HL HA HBt c0r blr hsr
        obtain ⟨q, m', g', pv', cv', hq, rfl, hm', hO, hL, ha, hbt⟩ := hrel
        have HO := hid hO
        have HL := hid hL
        have HA := hid ha
        have HBt := hid hbt
        have HM' := hid hm'
        have hsr := hbt.size
        have hS := HSU.out.kept (hbt.block _ HSU.out.lt (by omega))
        have s2 := hS.cell 2
        have s3 := hS.cell 3
        have sl := hS.lt
        have o2 := hO.cell 2
        have ol := hO.lt
        simp at s2 s3 o2
        have hm13 : m' ≤ 13 := by rw [hm']; split <;> omega
        clear hO hL ha hbt hS hm'
        by_cases hqn : q < tk.n
        · have hqn' : (q : Int) < (tk.n : Int) := by omega
          have hqp' : (q : Int) < (pt.n : Int) := by have := HPn.out; omega
          obtain ⟨tb, o, htp, _, htl, hat⟩ := HTl.out.at_ (by omega)
          have htw : tb < w.heap.size := (HU.out.town.lt tb (by rw [htp]; rfl)).2
          have t0 : wr.cell? ⟨tb, o + q, none⟩ = some (.int .i64 (tk.item q)) := (World.cell?_of_block (a := ⟨tb, o + q, none⟩) (HBt.out.block tb htl (by omega))).trans (by have := hat q hqn 0 _ rfl; simpa [elInt] using this)
          rw [htp] at s3
          have HS1 := hid (inT_succ tk q (t : Int))
          clear hat htp
          by_cases hkt : tk.item q = (t : Int)
          · have hnin : inT tk q (t : Int) = false := by
              rcases h : inT tk q (t : Int) with _ | _
              · rfl
              · unfold inT at h
                rw [List.any_eq_true] at h
                obtain ⟨i, hi, he⟩ := h
                have hi' := List.mem_range.1 hi
                have := HU.out.nd i q (by omega) hqn ((beq_iff_eq.1 he).trans hkt.symm)
                omega
            have hmt' : m' = t := by rw [HM'.out, hnin]; rfl
            subst hmt'
            have HS2 : Hid (inT tk (q + 1) (m' : Int) = true) := by unfold Hid; rw [HS1.out, hkt]; simp
            have HKt := hid hkt
            rw [hkt] at t0
            obtain ⟨pb, o3, hpp, _, hpl, hpat⟩ := HPl.out.at_ (by have := HPn.out; omega)
            have hpw : pb < w.heap.size := (HU.out.pown.lt pb (by rw [hpp]; rfl)).2
            have hqp : q < pt.n := by have := HPn.out; omega
            have hpc : ∀ r u, (elPt.cells (pt.item q))[r]? = some u → wr.cell? ⟨pb, o3 + q * 4 + r, none⟩ = some u := fun r u hu => (World.cell?_of_block (a := ⟨pb, o3 + q * 4 + r, none⟩) (HBt.out.block pb hpl (by omega))).trans (hpat q hqp r u hu)
            have p0 : wr.cell? ⟨pb, o3 + q * 4, none⟩ = some (.int .i64 (pt.item q).num) := hpc 0 _ rfl
            have p1 : wr.cell? ⟨pb, o3 + q * 4 + 1, none⟩ = some (.slice (pt.item q).cl.p (pt.item q).cl.n (pt.item q).cl.c) := hpc 1 _ rfl
            have p2 : wr.cell? ⟨pb, o3 + q * 4 + 2, none⟩ = some (.slice (pt.item q).lg.p (pt.item q).lg.n (pt.item q).lg.c) := hpc 2 _ rfl
            have p3 : wr.cell? ⟨pb, o3 + q * 4 + 3, none⟩ = some (.slice (pt.item q).pd.p (pt.item q).pd.n (pt.item q).pd.c) := hpc 3 _ rfl
            rw [hpp] at s2
            have HPt := hid (rpart (pt.item q) wr (fun k => S k ∧ k < w.heap.size) ((HpiU.out q hqp).kept HBt.out.size (fun k hk hl => HBt.out.block k hl (by omega))) (HAl.out.2.1 q hqp).2)
            clear hpat hpp hpc hkt hnin
            go_wp2_with fail
            refine HPt.out.mono ?_
            rintro e w2 ⟨u, rfl, hal, hui, hb2⟩
            obtain ⟨A2, hA2⟩ : ∃ Y, Y = w2.alloc (.cells #[.int .i64 u.num, .slice u.cl.p u.cl.n u.cl.c, .slice u.lg.p u.lg.n u.lg.c, .slice u.pd.p u.pd.n u.pd.c] 39) := ⟨_, rfl⟩
            have hbA : Below w2.heap.size w2 A2 := by rw [hA2]; exact (Below.refl _ _).alloc (Nat.le_refl _) _
            have hxb : Box A2 w2.heap.size #[.int .i64 u.num, .slice u.cl.p u.cl.n u.cl.c, .slice u.lg.p u.lg.n u.lg.c, .slice u.pd.p u.pd.n u.pd.c] 39 := by rw [hA2]; exact Box.new _ _ _
            have hb2A : Below wr.heap.size wr A2 := hb2.trans (hbA.mono hb2.size)
            have hOA := HO.out.below hb2A
            have q0 := hxb.cell 0
            have q1 := hxb.cell 1
            have q2 := hxb.cell 2
            have q3 := hxb.cell 3
            have ql := hxb.lt
            have oa2 := hOA.cell 2
            have oal := hOA.lt
            simp at q0 q1 q2 q3 oa2
            have HA2 := hid hA2
            have HOA := hid hOA
            have HbA := hid hb2A
            have hLA := HL.out.keep hb2A.size (fun j _ hl => hb2A.block j hl)
            have HLA := hid hLA
            have hsA := hb2A.size
            have hs2 := hb2.size
            have hu3 : PtIn A2 (fun k => U.heap.size ≤ k ∧ (Value.slice pv' m' cv').ownBlock ≠ some k) u := (hui.kept hbA.size (fun k _ hl => hbA.block k hl)).mono fun k hk _ => ⟨by omega, fun e => by have := (HL.out.own.lt k e).2; omega⟩
            have HU3 := hid (And.intro hal hu3)
            have hB3 : Below A2.heap.size A2 (A2.alloc (.cells #[.int .i64 u.num, .slice u.cl.p u.cl.n u.cl.c, .slice u.lg.p u.lg.n u.lg.c, .slice u.pd.p u.pd.n u.pd.c] 39)) := (Below.refl _ _).alloc (Nat.le_refl _) _
            have HB3 := hid hB3
            have HNw : Hid (∀ j u', (elPt.cells u)[j]? = some u' → (A2.alloc (.cells #[.int .i64 u.num, .slice u.cl.p u.cl.n u.cl.c, .slice u.lg.p u.lg.n u.lg.c, .slice u.pd.p u.pd.n u.pd.c] 39)).cell? ((⟨A2.heap.size, 0, none⟩ : Addr).add j) = some u') := fun j u' hu => by
              rw [Go.WideShapes.add_plain, (Box.new A2 #[.int .i64 u.num, .slice u.cl.p u.cl.n u.cl.c, .slice u.lg.p u.lg.n u.lg.c, .slice u.pd.p u.pd.n u.pd.c] 39).cell]
              rw [show 0 + j = j by omega]
              simpa [elPt, PtT.cells] using hu
            clear hal hui hb2 hA2 hbA hxb hb2A hOA hLA hu3 hB3 HPt p0 p1 p2 p3 s2 s3 sl o2 ol t0
            go_upto_region 19 with fail
            rw [← HA2.out]
            go_wp2_with (at_builtin; refine wpList_app rfl (.tmp 106) (.tmp 108) 46 39 ip _ 4 80 HKp.out rfl U.heap.size (.slice pv' m' cv') m' _ rfl (HLA.out.own.alloc _) ⟨A2.heap.size, 0, none⟩ 1 1 (elPt.cells u) rfl rfl HNw.out (elPt.one u) (by omega) (by omega) (by simp; omega) ?_)
            intro v6 w6 ho6 hg6 hn6
            have hL6 := (HLA.out.keep HB3.out.size (fun j _ hl => HB3.out.block j hl)).push (elPt.kept HU3.out.2 HB3.out.size (fun k _ hl => HB3.out.block k hl)) ho6 hg6 hn6
            obtain ⟨p6, c6, rfl⟩ := ownsRow_slice ho6
            have hr6 : ∀ j, (Value.slice pv' m' cv').ownBlock = some j → U.heap.size ≤ j := fun j hj => (HLA.out.own.lt j hj).1
            have hO3 := HOA.out.below HB3.out
            have hO6 := hO3.kept (hg6.block _ hO3.lt (fun e => by have := hr6 _ e.symm; omega))
            have y2 := hO6.cell 2
            have fy2 := hO6.frozen 2
            have yl := hO6.lt
            simp at y2
            have HX6 := hid (And.intro hL6 (And.intro hO6 (And.intro hg6 hr6)))
            clear ho6 hg6 hn6 hL6 hO3 hO6 hr6 HNw q0 q1 q2 q3 ql oa2 oal
            go_wp2
            obtain ⟨hL6, hO6, hg6, hr6⟩ := HX6.out
            have hb7 : But (fun k => k = X.heap.size) w6 (w6.setCell ⟨X.heap.size, 2, none⟩ (.slice p6 (m' + 1) c6)) := (But.one w6 _).setAt 2 _
            have HO7 : Hid (Box (w6.setCell ⟨X.heap.size, 2, none⟩ (.slice p6 (m' + 1) c6)) X.heap.size #[.int .i64 (R.first + (n : Int)), .int .u32 R.sum, (.slice p6 (m' + 1) c6)] 48) := by
              have h := hO6.set 2 (.slice p6 (m' + 1) c6)
              unfold Hid
              simpa using h
            have HL7 := hid (hL6.keep hb7.size (fun j hj hl => hb7.block j hl (by omega)))
            have hz6 : A2.heap.size + 1 ≤ w6.heap.size := by have := hg6.size; simpa using this
            have HB7 : Hid (But (fun k => k = X.heap.size) U (w6.setCell ⟨X.heap.size, 2, none⟩ (.slice p6 (m' + 1) c6))) := by
              refine ⟨hb7.os.trans (hg6.os.trans (HB3.out.os.trans (HbA.out.os.trans HBt.out.os))), hb7.tape.trans (hg6.tape.trans (HB3.out.tape.trans (HbA.out.tape.trans HBt.out.tape))), hb7.output.trans (hg6.output.trans (HB3.out.output.trans (HbA.out.output.trans HBt.out.output))), by have := hb7.size; omega, fun k hl hn => ?_⟩
              exact (hb7.block k (by omega) hn).trans ((hg6.block k (by simp; omega) (fun e => by have := hr6 _ e.symm; omega)).trans ((HB3.out.block k (by omega)).trans ((HbA.out.block k (by omega)).trans (HBt.out.block k hl hn))))
            have HA7 : Hid (∀ s, s < m' + 1 → ∃ i, i < tk.n ∧ tk.item i = (s : Int) ∧ PtAlk (pt.item i) (if s < m' then g' s else u)) := by
              intro s hs
              by_cases hsm : s < m'
              · rw [if_pos hsm]; exact HA.out s hsm
              · rw [if_neg hsm]
                obtain rfl : s = m' := by omega
                exact ⟨q, hqn, HKt.out, HU3.out.1⟩
            clear hL6 hO6 hg6 hr6 hb7 hz6
            go_roundw
            case rel => exact ⟨q + 1, m' + 1, _, p6, c6, by omega, by go_num, by rw [HS2.out]; rfl, HO7.out, HL7.out, HA7.out, HB7.out⟩
            case measure => simp [intOf]; omega
          · have hkt' : (tk.item q == (t : Int)) = false := by simp [hkt]
            have HS2 : Hid (inT tk (q + 1) (t : Int) = inT tk q (t : Int)) := by unfold Hid; rw [HS1.out, hkt', Bool.or_false]
            clear hkt
            go_wp2
            go_roundw
            case rel => exact ⟨q + 1, m', g', pv', cv', by omega, by go_num, by rw [HS2.out]; exact HM'.out, HO.out, HL.out, HA.out, HBt.out⟩
            case measure => simp [intOf]; omega
        · obtain rfl : q = tk.n := by omega
          have hqn' : ¬ (tk.n : Int) < (tk.n : Int) := by omega
          have hiT : inT tk tk.n (t : Int) = true := by
            obtain ⟨i, hi, he⟩ := HAl.out.1 t hlt
            unfold inT
            rw [List.any_eq_true]
            exact ⟨i, List.mem_range.2 hi, by rw [he]; simp⟩
          have hmt' : m' = t + 1 := by rw [HM'.out, hiT]; rfl
          subst hmt'
          clear hiT
          go_wp2
          go_roundw
          case rel => exact ⟨t + 1, g', pv', cv', by omega, by go_num, HO.out, HL.out, HA.out, HBt.out⟩
          case measure => simp [intOf]; omega
    · obtain rfl : t = T := by omega
      have hlt' : ¬ (t : Int) < (t : Int) := by omega
      obtain ⟨p3, c3, hv, hLI⟩ := HL.out.in_ (by omega)
      simp only [Value.slice.injEq, true_and] at hv
      obtain ⟨rfl, rfl⟩ := hv
      have HLI := hid hLI
      have hZr := HZU.out.kept (HBt.out.block _ HZU.out.lt (by omega))
      have z0 := hZr.cell 0
      have z1 := hZr.cell 1
      have z2 := hZr.cell 2
      have y0 := hZr.frozen 0
      have y1 := hZr.frozen 1
      have y2 := hZr.frozen 2
      have zl := hZr.lt
      have o0 := HO.out.cell 0
      have o1 := HO.out.cell 1
      have o2 := HO.out.cell 2
      have ol := HO.out.lt
      simp at z0 z1 z2 o0 o1 o2
      clear hLI hZr
      go_upto_region 20 with fail
      refine wp_region_calmE 30 (fun wx => Below wr.heap.size wr wx) [(0, false), (1, true)] (.one 2 false [] .done) (by kernel_rfl) (by kernel_rfl) (Below.refl _ _).drew ?_
      refine wpPre_e rfl rfl (fun K1 hK1 => ?_)
      apply Exists.intro
      refine And.intro (fun wx hx => ?_) ?_
      · have e0 := below_fact hx rfl o0
        have e1 := below_fact hx rfl o1
        have e2 := below_fact hx rfl o2
        go_simp
        try rfl
      go_simp
      refine hK1 _ ?_
      clear hK1 K1
      refine wpPre_e rfl rfl (fun K1 hK1 => ?_)
      apply Exists.intro
      refine And.intro (fun wx hx => ?_) ?_
      · go_simp
        try rfl
      go_simp
      refine hK1 _ ?_
      clear hK1 K1
      refine wpPre_nil ?_
      refine wpTr_e rfl (fun K1 hK1 => ?_)
      go_simp
      refine hK1 _ _ (fun h => by cases h) ?_
      clear hK1 K1
      refine wpPre_nil ?_
      refine wpTr_done ?_
      go_wp2
      have hbf : But (fun k => k = w.heap.size) wr (((wr.setCell ⟨w.heap.size, 0, none⟩ (.int .i64 (R.first + (n : Int)))).setCell ⟨w.heap.size, 1, none⟩ (.int .u32 R.sum)).setCell ⟨w.heap.size, 2, none⟩ (.slice pv t cv)).drew := ((((But.one wr _).setAt 0 _).setAt 1 _).setAt 2 _).trans (But.ofBelow (Below.refl _ _).drew)
      refine bodyPost_ret (v := .tuple #[.int .i64 2, .agg #[.int .i64 (R.first + (n : Int)), .int .u32 R.sum, .slice pv t cv]]) (by simp [results, Try.results44, go_sem, z0, z1, z2]) rfl ?_
      have hC : ∀ k, R.C b k → k < w.heap.size := fun k hk => HI.out.lt hk
      have hsb := HBt.out.size
      refine ⟨⟨pv, t, cv, g⟩, rfl, ⟨(HIU.out.kept (fun k hk hl => HBt.out.block k hl (by have h1 : R.C b k := hk; have := hC k h1; omega))).kept (fun k hk hl => hbf.block k hl (by have h1 : R.C b k := hk; have := hC k h1; omega)), ⟨hbf.os.trans (HBt.out.os.trans (HbU.out.os.trans (HbX.out.os.trans (HbY.out.os.trans (HBV.out.os.trans HB.out.os))))), hbf.tape.trans (HBt.out.tape.trans (HbU.out.tape.trans (HbX.out.tape.trans (HbY.out.tape.trans (HBV.out.tape.trans HB.out.tape))))), hbf.output.trans (HBt.out.output.trans (HbU.out.output.trans (HbX.out.output.trans (HbY.out.output.trans (HBV.out.output.trans HB.out.output))))), by have := hbf.size; omega, fun k hl hn => ?_⟩, fun _ h => .inl h⟩, rfl, ?_, HA.out⟩
      · exact (hbf.block k (by omega) (by omega)).trans ((HBt.out.block k (by omega) (by omega)).trans (HKp2.out k hl (fun e => hn (by rw [e]; exact .inr HOb9.out))))
      · exact (HLI.out.kept hbf.size (fun k hk hl => hbf.block k hl (by omega))).mono fun k hk _ => by omega
end Go.Proofs.Ytldkepokcbjlpaa

namespace Go.Proofs.Ytldkepokcbjlpaa
open Go.RowKit Go.Conc
set_option maxRecDepth 8000
/-- a coordinator with its parts: what is in the inbox and what is gathered tells its number, in memory that nobody writes -/
structure RG (w0 w : World) (b : Nat) (P : Ps) (ts : List (Nat × PtT)) (Cn : Nat → PtT → Prop) (D : Nat → Prop) : Prop where
  i : PsI w b P
  inb : Inb w P (lets ts)
  nd : (ts.map (·.1)).Nodup
  one : ∀ q ∈ ts, (q.1 : Int) < P.tasks ∧ P.pl q.1 = 1
  un : P.under = 0 → ts = [] ∧ ∀ i, i < 12 → P.pl i = 0
  la : ∀ j, j + 1 < P.sts.n → P.sts.item j ≠ 1
  pw : ∀ j : Nat, (j : Int) < P.tasks → P.pl j = 1 → j ∈ ts.map (·.1)
  bel : Below w0.heap.size w0 w
  cb : ∀ k, P.C b k → w0.heap.size ≤ k
  ch : w0.heap.size ≤ P.ch
  dl : ∀ k, D k → w0.heap.size ≤ k ∧ k < w.heap.size ∧ ¬ P.C b k ∧ k ≠ P.ch
  pts : ∀ q ∈ ts, Cn q.1 q.2 ∧ PtIn w (Out P b D) q.2
  got : ∀ t, t < 12 → P.pl t = 2 → Cn t (P.pt t) ∧ PtIn w (Out P b D) (P.pt t)
theorem RG.inv {w0 w : World} {b : Nat} {P : Ps} {ts : List (Nat × PtT)} {Cn : Nat → PtT → Prop} {D : Nat → Prop} (h : RG w0 w b P ts Cn D) : PInv P (lets ts) :=
  ⟨⟨ts, rfl, h.nd, h.one⟩, fun e => ⟨by rw [(h.un e).1]; rfl, (h.un e).2⟩, h.la⟩
/-- what a step keeps of the memory -/
theorem RG.mem {w0 w w' : World} {b : Nat} {P P' : Ps} {ts : List (Nat × PtT)} {Cn : Nat → PtT → Prop} {D : Nat → Prop} {L' : List Value} (h : RG w0 w b P ts Cn D) (s : QS w b P w' P' L') :
    Below w0.heap.size w0 w' ∧ (∀ k, P'.C b k → w0.heap.size ≤ k) ∧ w0.heap.size ≤ P'.ch ∧ ∀ k, D k → w0.heap.size ≤ k ∧ k < w'.heap.size ∧ ¬ P'.C b k ∧ k ≠ P'.ch := by
  refine ⟨h.bel.trans (s.but.below h.bel.size (fun k hk e => ?_)), fun k hk => ?_, by rw [s.chE]; exact h.ch, fun k hk => ?_⟩
  · rcases e with e | e
    · have := h.cb k e; omega
    · have := h.ch; omega
  · rcases s.cs k hk with h1 | h1
    · exact h.cb k h1
    · exact Nat.le_trans h.bel.size h1
  · obtain ⟨d0, d1, d2, d3⟩ := h.dl k hk
    refine ⟨d0, Nat.lt_of_lt_of_le d1 s.but.size, fun e => ?_, by rw [s.chE]; exact d3⟩
    rcases s.cs k e with h1 | h1
    · exact d2 h1
    · omega
theorem RG.below {w0 w w' : World} {b : Nat} {P : Ps} {ts : List (Nat × PtT)} {Cn : Nat → PtT → Prop} {D : Nat → Prop} (h : RG w0 w b P ts Cn D) (hb : Below w.heap.size w w') : RG w0 w' b P ts Cn D := by
  have s : QS w b P w' P (lets ts) := (QSet.same h.i hb).qs h.i h.inb rfl rfl
  obtain ⟨m0, m1, m2, m3⟩ := h.mem s
  exact ⟨s.inv, s.inb, h.nd, h.one, h.un, h.la, h.pw, m0, m1, m2, m3, fun q hq => ⟨(h.pts q hq).1, (h.pts q hq).2.qs s⟩, fun t ht e => ⟨(h.got t ht e).1, (h.got t ht e).2.qs s⟩⟩
/-- the law writes what is its own -/
theorem RG.put {w0 w w' : World} {b : Nat} {P : Ps} {ts : List (Nat × PtT)} {Cn : Nat → PtT → Prop} {D : Nat → Prop} (h : RG w0 w b P ts Cn D) (hb : But D w w') : RG w0 w' b P ts Cn D := by
  have hk : ∀ k, Out P b D k → k < w.heap.size → w'.heap[k]? = w.heap[k]? := fun k hk hl => hb.block k hl hk.2.2
  refine ⟨h.i.kept fun k hk hl => hb.block k hl (fun e => (h.dl k e).2.2.1 hk), h.inb.to rfl rfl (hb.block _ h.inb.lt (fun e => (h.dl _ e).2.2.2 rfl)), h.nd, h.one, h.un, h.la, h.pw, h.bel.trans (hb.below h.bel.size (fun k hk e => by have := (h.dl k e).1; omega)), h.cb, h.ch, fun k hk => ⟨(h.dl k hk).1, Nat.lt_of_lt_of_le (h.dl k hk).2.1 hb.size, (h.dl k hk).2.2⟩, fun q hq => ⟨(h.pts q hq).1, (h.pts q hq).2.kept hb.size hk⟩, fun t ht e => ⟨(h.got t ht e).1, (h.got t ht e).2.kept hb.size hk⟩⟩
/-- more is the law's own -/
theorem RG.more {w0 w : World} {b : Nat} {P : Ps} {ts : List (Nat × PtT)} {Cn : Nat → PtT → Prop} {D D' : Nat → Prop} (h : RG w0 w b P ts Cn D) (h0 : ∀ t, t < 12 → P.pl t = 0) (hd : ∀ k, D' k → w0.heap.size ≤ k ∧ k < w.heap.size ∧ ¬ P.C b k ∧ k ≠ P.ch) (ht : ts = []) (Cn' : Nat → PtT → Prop) : RG w0 w b P ts Cn' D' :=
  ⟨h.i, h.inb, h.nd, h.one, h.un, h.la, h.pw, h.bel, h.cb, h.ch, hd, fun q hq => by subst ht; simp at hq, fun t ht e => by rw [h0 t ht] at e; cases e⟩
theorem RG.hand {w0 w w' : World} {b : Nat} {P P' : Ps} {ts : List (Nat × PtT)} {Cn : Nat → PtT → Prop} {D : Nat → Prop} {id task : Int} {x : PtT} {e : Ending} {L' : List Value} (h : RG w0 w b P ts Cn D) (q : HandQ id task x w b P (lets ts) e w' P' L') (hr : P.refE id task = 0) (Cn' : Nat → PtT → Prop) (hx : ∀ (i : Nat) u, task = (i : Int) → PtAlk x u → Cn' i u) (ho : ∀ (i j : Nat) u, task = (i : Int) → j ≠ i → Cn j u → Cn' j u) :
    ∃ i : Nat, ∃ u, task = (i : Int) ∧ i < 12 ∧ P' = P.hand i ∧ RG w0 w' b (P.hand i) (ts ++ [(i, u)]) Cn' D := by
  have s := q.s
  obtain ⟨i, u, rfl, hi, rfl, rfl, ha, hu⟩ := q.y hr
  obtain ⟨r0, r1, r2, r3⟩ := Ps.refE_zero hr
  rw [Int.toNat_natCast] at r3
  obtain ⟨m0, m1, m2, m3⟩ := h.mem s
  have hni : ∀ p ∈ ts, p.1 ≠ i := fun p hp e => by have := (h.one p hp).2; rw [e, r3] at this; cases this
  have hls : lets ts ++ [letV i u] = lets (ts ++ [(i, u)]) := by simp [lets]
  rw [hls] at s
  refine ⟨i, u, rfl, hi, rfl, s.inv, s.inb, ?_, fun p hp => ?_, fun e => absurd e r2, h.la, fun j hj hj1 => ?_, m0, m1, m2, m3, fun p hp => ?_, fun t ht e => ?_⟩
  · rw [List.map_append, List.nodup_append]
    refine ⟨h.nd, by simp, fun a ha b hb e => ?_⟩
    simp only [List.map_cons, List.map_nil, List.mem_singleton] at hb
    obtain ⟨p, hp, rfl⟩ := List.mem_map.1 ha
    exact hni p hp (e.trans hb)
  · rcases List.mem_append.1 hp with h4 | h4
    · refine ⟨(h.one p h4).1, ?_⟩
      show (if p.1 = i then 1 else P.pl p.1) = 1
      rw [if_neg (hni p h4)]
      exact (h.one p h4).2
    · simp only [List.mem_singleton] at h4
      subst h4
      exact ⟨r1, by show (if i = i then (1 : Int) else P.pl i) = 1; rw [if_pos rfl]⟩
  · rw [List.map_append, List.mem_append]
    by_cases e : j = i
    · exact .inr (by simp [e])
    · refine .inl (h.pw j hj ?_)
      have : (if j = i then (1 : Int) else P.pl j) = 1 := hj1
      rwa [if_neg e] at this
  · rcases List.mem_append.1 hp with h4 | h4
    · exact ⟨ho i p.1 _ rfl (hni p h4) (h.pts p h4).1, (h.pts p h4).2.qs s⟩
    · simp only [List.mem_singleton] at h4
      subst h4
      refine ⟨hx i u rfl ha, hu.mono (fun k hk hl => ⟨fun e => ?_, fun e => ?_, fun e => ?_⟩)⟩
      · have : P.C b k := e
        have := h.i.lt this
        omega
      · have : k = P.ch := e
        have := h.inb.lt
        omega
      · have := (h.dl k e).2.1; omega
  · have e' : (if t = i then (1 : Int) else P.pl t) = 2 := e
    by_cases ti : t = i
    · rw [if_pos ti] at e'; cases e'
    · rw [if_neg ti] at e'
      exact ⟨ho i t _ rfl ti (h.got t ht e').1, (h.got t ht e').2.qs s⟩
theorem RG.refused {w0 w w' : World} {b : Nat} {P P' : Ps} {ts : List (Nat × PtT)} {Cn : Nat → PtT → Prop} {D : Nat → Prop} {id task : Int} {x : PtT} {e : Ending} {L' : List Value} (h : RG w0 w b P ts Cn D) (q : HandQ id task x w b P (lets ts) e w' P' L') (hr : ¬ P.refE id task = 0) : P' = P ∧ RG w0 w' b P ts Cn D := by
  have s := q.s
  obtain ⟨rfl, rfl⟩ := q.n hr
  obtain ⟨m0, m1, m2, m3⟩ := h.mem s
  exact ⟨rfl, s.inv, s.inb, h.nd, h.one, h.un, h.la, h.pw, m0, m1, m2, m3, fun q hq => ⟨(h.pts q hq).1, (h.pts q hq).2.qs s⟩, fun t ht e => ⟨(h.got t ht e).1, (h.got t ht e).2.qs s⟩⟩
theorem RG.gath {w0 w w' : World} {b : Nat} {P P' : Ps} {q : Nat × PtT} {ts : List (Nat × PtT)} {Cn : Nat → PtT → Prop} {D : Nat → Prop} (h : RG w0 w b P (q :: ts) Cn D) (s : QS w b P w' P' (lets ts)) :
    (P' = P.gath q.1 q.2 → RG w0 w' b (P.gath q.1 q.2) ts Cn D) ∧ ∀ t, t < 12 → (P.gath q.1 q.2).pl t = 2 → Cn t ((P.gath q.1 q.2).pt t) ∧ PtIn w' (Out P b D) ((P.gath q.1 q.2).pt t) := by
  obtain ⟨m0, m1, m2, m3⟩ := h.mem s
  have hn := h.nd
  rw [List.map_cons, List.nodup_cons] at hn
  have hq : ∀ p ∈ ts, p.1 ≠ q.1 := fun p hp e => hn.1 (by rw [← e]; exact List.mem_map_of_mem hp)
  have hu : ¬ P.under = 0 := fun e => by have := (h.un e).1; cases this
  have hgot : ∀ t, t < 12 → (P.gath q.1 q.2).pl t = 2 → Cn t ((P.gath q.1 q.2).pt t) ∧ PtIn w' (Out P b D) ((P.gath q.1 q.2).pt t) := fun t ht e => by
    have e' : (if t = q.1 then (2 : Int) else P.pl t) = 2 := e
    show Cn t (if t = q.1 then q.2 else P.pt t) ∧ PtIn w' (Out P b D) (if t = q.1 then q.2 else P.pt t)
    by_cases ti : t = q.1
    · rw [if_pos ti, ti]
      exact ⟨(h.pts q (List.mem_cons_self ..)).1, (h.pts q (List.mem_cons_self ..)).2.qs s⟩
    · rw [if_neg ti] at e' ⊢
      exact ⟨(h.got t ht e').1, (h.got t ht e').2.qs s⟩
  refine ⟨fun hP => ?_, hgot⟩
  subst hP
  refine ⟨s.inv, s.inb, hn.2, fun p hp => ⟨(h.one p (List.mem_cons_of_mem _ hp)).1, ?_⟩, fun e => absurd e hu, h.la, fun j hj hj1 => ?_, m0, m1, m2, m3, fun p hp => ⟨(h.pts p (List.mem_cons_of_mem _ hp)).1, (h.pts p (List.mem_cons_of_mem _ hp)).2.qs s⟩, hgot⟩
  · show (if p.1 = q.1 then (2 : Int) else P.pl p.1) = 1
    rw [if_neg (hq p hp)]
    exact (h.one p (List.mem_cons_of_mem _ hp)).2
  · have e' : (if j = q.1 then (2 : Int) else P.pl j) = 1 := hj1
    by_cases ji : j = q.1
    · rw [if_pos ji] at e'; cases e'
    · rw [if_neg ji] at e'
      have := h.pw j hj e'
      rw [List.map_cons, List.mem_cons] at this
      rcases this with h1 | h1
      · exact absurd h1 ji
      · exact h1
theorem RG.fin {w0 w w' : World} {b : Nat} {P P1 : Ps} {ts : List (Nat × PtT)} {Cn : Nat → PtT → Prop} {D : Nat → Prop} {x : Int} (h : RG w0 w b P ts Cn D) (s : QS w b P w' (P1.fin x) []) (hs : P1.sts = P.sts) (Cn' : Nat → PtT → Prop) : RG w0 w' b (P1.fin x) [] Cn' D := by
  obtain ⟨m0, m1, m2, m3⟩ := h.mem s
  refine ⟨s.inv, s.inb, List.nodup_nil, fun q hq => absurd hq (by simp), fun _ => ⟨rfl, fun _ _ => rfl⟩, fun j hj => ?_, fun j _ e => absurd e (by show ¬ (0 : Int) = 1; omega), m0, m1, m2, m3, fun q hq => absurd hq (by simp), fun t _ e => absurd e (by show ¬ (0 : Int) = 2; omega)⟩
  have hj2 : j + 1 < P1.sts.n := hj
  show (if j = P1.sts.n - 1 then x else P1.sts.item j) ≠ 1
  rw [if_neg (by omega), hs]
  rw [hs] at hj2
  exact h.la j hj2
theorem RG.trig {w0 w w' : World} {b : Nat} {P : Ps} {ts : List (Nat × PtT)} {Cn : Nat → PtT → Prop} {D : Nat → Prop} {p : Option Addr} {c : Nat} (h : RG w0 w b P ts Cn D) (s : QSet w b P w' (P.push p c 1)) (hu : P.under = 0) (Cn' : Nat → PtT → Prop) : ts = [] ∧ (∀ i, i < 12 → P.pl i = 0) ∧ RG w0 w' b (P.push p c 1) [] Cn' D := by
  obtain ⟨rfl, h0⟩ := h.un hu
  have s' := s.qs h.i h.inb rfl rfl
  obtain ⟨m0, m1, m2, m3⟩ := h.mem s'
  refine ⟨rfl, h0, s'.inv, s'.inb, List.nodup_nil, fun q hq => absurd hq (by simp), fun _ => ⟨rfl, h0⟩, (h.inv.trig h.i.f0 hu p c).2.la, fun j hj e => ?_, m0, m1, m2, m3, fun q hq => absurd hq (by simp), fun t ht e => ?_⟩
  · have h12 : j < 12 := by have := h.i.t1; have hj' : (j : Int) < P.tasks := hj; omega
    have : P.pl j = 1 := e
    rw [h0 j h12] at this; cases this
  · have : P.pl t = 2 := e
    rw [h0 t ht] at this; cases this
theorem RG.new {w0 w w' : World} {T A m : Int} (hb : Below w0.heap.size w0 w) (hI : PsI w' (w.heap.size + 1) (Ps.new T A m w.heap.size)) (hc : Inb w' (Ps.new T A m w.heap.size) []) (hb' : Below w.heap.size w w') (Cn : Nat → PtT → Prop) : RG w0 w' (w.heap.size + 1) (Ps.new T A m w.heap.size) [] Cn (fun _ => False) :=
  ⟨hI, hc, List.nodup_nil, fun q hq => absurd hq (by simp), fun _ => ⟨rfl, fun _ _ => rfl⟩, fun j hj => absurd hj (by show ¬ j + 1 < 0; omega), fun j _ e => absurd e (by show ¬ (0 : Int) = 1; omega), hb.trans (hb'.mono hb.size), fun k hk => (by
    have := hb.size
    rcases hk with e | e
    · omega
    · simp [Ps.lv, Ps.new, Value.ownBlock] at e), hb.size, fun _ h => h.elim, fun q hq => absurd hq (by simp), fun t _ e => absurd e (by show ¬ (0 : Int) = 2; omega)⟩
theorem RG.stay {w0 w w' : World} {b : Nat} {P : Ps} {ts : List (Nat × PtT)} {Cn : Nat → PtT → Prop} {D : Nat → Prop} (h : RG w0 w b P ts Cn D) (s : QS w b P w' P (lets ts)) : RG w0 w' b P ts Cn D := by
  obtain ⟨m0, m1, m2, m3⟩ := h.mem s
  exact ⟨s.inv, s.inb, h.nd, h.one, h.un, h.la, h.pw, m0, m1, m2, m3, fun q hq => ⟨(h.pts q hq).1, (h.pts q hq).2.qs s⟩, fun t ht e => ⟨(h.got t ht e).1, (h.got t ht e).2.qs s⟩⟩
theorem RG.dnot {w0 w : World} {b db : Nat} {P : Ps} {ts : List (Nat × PtT)} {Cn : Nat → PtT → Prop} {D : Nat → Prop} (h : RG w0 w b P ts Cn D) (hd : D db) : ¬ (P.C b db ∨ db = P.ch) := fun e => by
  rcases e with e | e
  · exact (h.dl db hd).2.2.1 e
  · exact (h.dl db hd).2.2.2 e
theorem RG.wants1 {w0 w : World} {b : Nat} {P : Ps} {q : Nat × PtT} {ts : List (Nat × PtT)} {Cn : Nat → PtT → Prop} {D : Nat → Prop} (h : RG w0 w b P (q :: ts) Cn D) : (P.gath q.1 q.2).wants.length + 1 = P.wants.length := by
  obtain ⟨h1, h2⟩ := h.one q (List.mem_cons_self ..)
  have := Ps.wantsU_gath (P := P) (t := q.1) (x := q.2) (by rw [h2]; omega) P.tasks.toNat
  rw [if_pos (by omega)] at this
  exact this
theorem RG.rest {w0 w : World} {b : Nat} {P : Ps} {q : Nat × PtT} {ts : List (Nat × PtT)} {Cn : Nat → PtT → Prop} {D : Nat → Prop} (h : RG w0 w b P (q :: ts) Cn D) (hw : (P.gath q.1 q.2).wants = []) : ts = [] :=
  (PInv.gath (P := P) (q := q) (ts := ts) h.nd h.one (fun e => by have := (h.un e).1; cases this) h.la q.2).2 hw
/-- other contents, and other blocks that the law writes -/
theorem RG.turn {w0 w : World} {b : Nat} {P : Ps} {ts : List (Nat × PtT)} {Cn Cn' : Nat → PtT → Prop} {D D' : Nat → Prop} (h : RG w0 w b P ts Cn D) (hc : ∀ t u, Cn t u → Cn' t u) (hd : ∀ k, D' k → w0.heap.size ≤ k ∧ k < w.heap.size ∧ ¬ P.C b k ∧ k ≠ P.ch) (hi : ∀ u, PtIn w (Out P b D) u → PtIn w (Out P b D') u) : RG w0 w b P ts Cn' D' :=
  ⟨h.i, h.inb, h.nd, h.one, h.un, h.la, h.pw, h.bel, h.cb, h.ch, hd, fun q hq => ⟨hc _ _ (h.pts q hq).1, hi _ (h.pts q hq).2⟩, fun t ht e => ⟨hc _ _ (h.got t ht e).1, hi _ (h.got t ht e).2⟩⟩
/-- alike to the same: alike -/
theorem VT.Alike.two : ∀ {t u v : VT} {w : World} {S : Nat → Prop}, VT.Alike t u → VT.Alike t v → VT.In w S u → VT.Alike u v := by
  intro t
  induction t with
  | nil =>
    intro u v w S h g hi
    have hu : u = .nil := by simpa [VT.Alike] using h
    subst hu
    exact hi.elim
  | mk k i s n p c f ih =>
    intro u v w S h g hi
    obtain ⟨k2, i2, s2, n2, p2, c2, f2, rfl⟩ := hi.mk_
    obtain ⟨h0, h1, h2, h3, h4⟩ := h
    obtain ⟨g0, g1, g2, g3, g4⟩ := g
    simp only [VT.kind_mk, VT.int_mk, VT.text_mk, VT.n_mk, VT.item_mk] at h0 h1 h2 h3 h4
    subst h0 h1 h2 h3
    exact ⟨g0, g1, g2, g3, fun j hj => ih j (h4 j hj) (g4 j hj) (hi.sub (j := j) hj)⟩
theorem RT.Alike.two {t u v : RT} {w : World} {S : Nat → Prop} (h : RT.Alike t u) (g : RT.Alike t v) (hi : RT.In w S u) : RT.Alike u v :=
  ⟨g.key.trans h.key.symm, h.v.two g.v hi.v, g.n.trans h.n.symm, fun j hj => (g.loop j (by rw [← h.n]; exact hj)).trans (h.loop j (by rw [← h.n]; exact hj)).symm⟩
theorem PtAlk.two {t u v : PtT} {w : World} {S : Nat → Prop} (h : PtAlk t u) (g : PtAlk t v) (hi : PtIn w S u) : PtAlk u v := by
  refine ⟨g.num.trans h.num.symm, ⟨g.cl.n.trans h.cl.n.symm, fun j hj => ?_⟩, ⟨g.lg.n.trans h.lg.n.symm, fun j hj => ?_⟩, ⟨g.pd.n.trans h.pd.n.symm, fun j hj => ?_⟩⟩
  · have hj' : j < t.cl.n := by rw [← h.cl.n]; exact hj
    exact (h.cl.item j hj').two (g.cl.item j hj') (hi.cl.each j hj)
  · have hj' : j < t.lg.n := by rw [← h.lg.n]; exact hj
    have h1 := h.lg.item j hj'
    have g1 := g.lg.item j hj'
    refine ⟨g1.n.trans h1.n.symm, fun q hq => ?_⟩
    have hq' : q < (t.lg.item j).n := by rw [← h1.n]; exact hq
    exact (h1.item q hq').two (g1.item q hq') (LT.In.each (hi.lg.each j hj) q hq)
  · have hj' : j < t.pd.n := by rw [← h.pd.n]; exact hj
    exact (h.pd.item j hj').two (g.pd.item j hj') (hi.pd.each j hj)
end Go.Proofs.Ytldkepokcbjlpaa
