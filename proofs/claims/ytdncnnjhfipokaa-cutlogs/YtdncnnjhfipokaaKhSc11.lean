import Derived.Test.YtdncnnjhfipokaaPack15
import Derived.Deep.DeepCutAuto
namespace Go.Proofs.Ytdncnnjhfipokaa
open Go.RowKit
set_option maxRecDepth 8000
set_option maxHeartbeats 8000000 in
theorem sees_c11 (o : OpT) (mode : Int) (i : Nat) (hi : i < 4) (hpi : o.port = (i : Int)) (w : World) (S : Nat → Prop) (vb : Nat) (V : Vw) (hV : VwI w vb V) (hS : ∀ k, S k → ¬ V.C vb k) (hin : OpT.In w S o) (hs : OpSz o) (hnl0 : (V.lg i).n ≤ 1000000000) (heq : o.id = V.id) (hcd : V.cd i = false) (hm3 : mode = 3) :
    Calls Try.prog 21 #[.pointer (some ⟨vb, 0, none⟩), .agg #[.int .i64 o.kind, .int .i64 o.which, .int .i64 o.port, .int .i64 o.id, .string o.r.key, .int .i64 o.r.v.kind, .int .i64 o.r.v.int, .string o.r.v.text, .slice o.r.v.p o.r.v.n o.r.v.c, .slice o.r.p o.r.n o.r.c, .slice o.a.p o.a.n o.a.c, .slice o.q.p o.q.n o.q.c, .int .i64 o.num, .slice o.l.p o.l.n o.l.c], .bool true, .int .i64 mode] w fun e w' => e = .returned (.tuple #[]) ∧ ∃ V', SeesQ o true mode i w vb V w' V' := by
  have HP := hid hpi
  clear hpi
  obtain ⟨W0, hW0⟩ : ∃ x, x = w.alloc (.cells #[.int .i64 o.kind, .int .i64 o.which, .int .i64 o.port, .int .i64 o.id, .string o.r.key, .int .i64 o.r.v.kind, .int .i64 o.r.v.int, .string o.r.v.text, .slice o.r.v.p o.r.v.n o.r.v.c, .slice o.r.p o.r.n o.r.c, .slice o.a.p o.a.n o.a.c, .slice o.q.p o.q.n o.q.c, .int .i64 o.num, .slice o.l.p o.l.n o.l.c] 42) := ⟨_, rfl⟩
  have hB0 : Below w.heap.size w W0 := by rw [hW0]; exact (Below.refl _ _).alloc (Nat.le_refl _) _
  have hX0 : Box W0 w.heap.size #[.int .i64 o.kind, .int .i64 o.which, .int .i64 o.port, .int .i64 o.id, .string o.r.key, .int .i64 o.r.v.kind, .int .i64 o.r.v.int, .string o.r.v.text, .slice o.r.v.p o.r.v.n o.r.v.c, .slice o.r.p o.r.n o.r.c, .slice o.a.p o.a.n o.a.c, .slice o.q.p o.q.n o.q.c, .int .i64 o.num, .slice o.l.p o.l.n o.l.c] 42 := by rw [hW0]; exact Box.new _ _ _
  have HB0 := hid hB0
  have HX0 := hid hX0
  have HV0 := hid (hV.below hB0)
  have HNo : Hid (¬ V.C vb w.heap.size) := fun e => by have := hV.lt e; omega
  have HLk : Hid (∀ (W : World) (V1 : Vw), VSet W0 vb V W V1 → OpT.In W (fun k => S k ∧ k < w.heap.size) o) := fun W V1 g => (OpT.In.mono hin fun k hk hl => ⟨hk, hl⟩).kept (Nat.le_trans hB0.size g.but.size) (fun k hk _ => (g.but.block k (by have := hB0.size; omega) (hS k hk.1)).trans (hB0.block k hk.2))
  have HSz := hid hs
  obtain ⟨i0, Kd⟩ := kindRs
  have HKd := hid Kd
  have y2 := hX0.cell 2
  have y3 := hX0.cell 3
  have v0 := HV0.out.box.cell 0
  have vc := HV0.out.cs hi
  have ol := hX0.lt
  have vl0 := HV0.out.box.lt
  have hi4 : (i : Int) < 4 := by omega
  simp [Vw.arr] at y2 y3 v0
  rw [HP.out] at y2
  clear hB0 hX0 hs Kd hin
  subst hm3
  have hsk : Hid (V.skips o i = false) := by unfold Hid; simp [Vw.skips, heq, hcd]
  rw [hcd] at vc
  rw [heq] at y3
  have HQ := hid heq
  clear heq
  go_enter Try.func21, Try.ntmps21
  go_wp2_with fail
  rw [← hW0]
  clear hW0
  refine wp_region_calmD 30 (fun wx => Below W0.heap.size W0 wx) [(0, true), (1, false), (2, true), (3, true), (4, true), (5, false), (6, true), (7, true), (8, true), (9, false), (10, true), (11, true), (12, true), (13, false), (14, true), (15, true), (16, true), (17, true), (18, false), (19, true), (20, true), (21, true), (22, false), (23, true), (24, true)] [] (by kernel_rfl) (by kernel_rfl) (Below.refl _ _).drew ?_
  refine wpPre_e rfl rfl (fun K1 hK1 => ?_)
  apply Exists.intro
  refine And.intro (fun wx hx => ?_) ?_
  · go_simp
    try rfl
  go_simp
  refine hK1 _ ?_
  clear hK1 K1
  refine wpPre_e rfl rfl (fun K1 hK1 => ?_)
  apply Exists.intro
  refine And.intro (fun wx hx => ?_) ?_
  · have e0 := below_fact hx rfl y2
    have e1 := below_fact hx rfl y3
    have e2 := below_fact hx rfl v0
    have e3 := below_fact hx rfl vc
    go_simp
    try rfl
  go_simp
  refine hK1 _ ?_
  clear hK1 K1
  refine wpPre_e rfl rfl (fun K1 hK1 => ?_)
  apply Exists.intro
  refine And.intro (fun wx hx => ?_) ?_
  · go_simp
    try rfl
  go_simp
  refine hK1 _ ?_
  clear hK1 K1
  refine wpPre_e rfl rfl (fun K1 hK1 => ?_)
  apply Exists.intro
  refine And.intro (fun wx hx => ?_) ?_
  · go_simp
    try rfl
  go_simp
  refine hK1 _ ?_
  clear hK1 K1
  refine wpPre_e rfl rfl (fun K1 hK1 => ?_)
  apply Exists.intro
  refine And.intro (fun wx hx => ?_) ?_
  · go_simp
    try rfl
  go_simp
  refine hK1 _ ?_
  clear hK1 K1
  refine wpPre_e rfl rfl (fun K1 hK1 => ?_)
  apply Exists.intro
  refine And.intro (fun wx hx => ?_) ?_
  · have e0 := below_fact hx rfl y2
    have e1 := below_fact hx rfl y3
    have e2 := below_fact hx rfl v0
    have e3 := below_fact hx rfl vc
    go_simp
    try rfl
  go_simp
  refine hK1 _ ?_
  clear hK1 K1
  refine wpPre_e rfl rfl (fun K1 hK1 => ?_)
  apply Exists.intro
  refine And.intro (fun wx hx => ?_) ?_
  · go_simp
    try rfl
  go_simp
  refine hK1 _ ?_
  clear hK1 K1
  refine wpPre_e rfl rfl (fun K1 hK1 => ?_)
  apply Exists.intro
  refine And.intro (fun wx hx => ?_) ?_
  · go_simp
    try rfl
  go_simp
  refine hK1 _ ?_
  clear hK1 K1
  refine wpPre_i rfl (fun K1 hK1 => ?_)
  rw [if_pos (by go_simp)]
  apply Exists.intro
  refine And.intro (fun wx hx => ?_) ?_
  · go_simp
    try rfl
  go_simp
  refine hK1 _ ?_
  clear hK1 K1
  refine wpPre_i rfl (fun K1 hK1 => ?_)
  rw [if_pos (by go_simp)]
  apply Exists.intro
  refine And.intro (fun wx hx => ?_) ?_
  · have e0 := below_fact hx rfl y2
    have e1 := below_fact hx rfl y3
    have e2 := below_fact hx rfl v0
    have e3 := below_fact hx rfl vc
    go_simp
    try rfl
  go_simp
  refine hK1 _ ?_
  clear hK1 K1
  refine wpPre_i rfl (fun K1 hK1 => ?_)
  rw [if_pos (by go_simp)]
  apply Exists.intro
  refine And.intro (fun wx hx => ?_) ?_
  · go_simp
    try rfl
  go_simp
  refine hK1 _ ?_
  clear hK1 K1
  refine wpPre_i rfl (fun K1 hK1 => ?_)
  rw [if_pos (by go_simp)]
  apply Exists.intro
  refine And.intro (fun wx hx => ?_) ?_
  · go_simp
    try rfl
  go_simp
  refine hK1 _ ?_
  clear hK1 K1
  refine wpPre_i rfl (fun K1 hK1 => ?_)
  rw [if_pos (by go_simp)]
  apply Exists.intro
  refine And.intro (fun wx hx => ?_) ?_
  · go_simp
    try rfl
  go_simp
  refine hK1 _ ?_
  clear hK1 K1
  refine wpPre_i rfl (fun K1 hK1 => ?_)
  rw [if_pos (by go_simp)]
  apply Exists.intro
  refine And.intro (fun wx hx => ?_) ?_
  · have e0 := below_fact hx rfl y2
    have e1 := below_fact hx rfl y3
    have e2 := below_fact hx rfl v0
    have e3 := below_fact hx rfl vc
    go_simp
    try rfl
  go_simp
  refine hK1 _ ?_
  clear hK1 K1
  refine wpPre_i rfl (fun K1 hK1 => ?_)
  rw [if_pos (by go_simp)]
  apply Exists.intro
  refine And.intro (fun wx hx => ?_) ?_
  · go_simp
    try rfl
  go_simp
  refine hK1 _ ?_
  clear hK1 K1
  refine wpPre_i rfl (fun K1 hK1 => ?_)
  rw [if_pos (by go_simp)]
  apply Exists.intro
  refine And.intro (fun wx hx => ?_) ?_
  · go_simp
    try rfl
  go_simp
  refine hK1 _ ?_
  clear hK1 K1
  refine wpPre_i rfl (fun K1 hK1 => ?_)
  rw [if_pos (by go_simp)]
  apply Exists.intro
  refine And.intro (fun wx hx => ?_) ?_
  · go_simp
    try rfl
  go_simp
  refine hK1 _ ?_
  clear hK1 K1
  refine wpPre_i rfl (fun K1 hK1 => ?_)
  rw [if_pos (by go_simp)]
  apply Exists.intro
  refine And.intro (fun wx hx => ?_) ?_
  · go_simp
    try rfl
  go_simp
  refine hK1 _ ?_
  clear hK1 K1
  refine wpPre_i rfl (fun K1 hK1 => ?_)
  rw [if_pos (by go_simp)]
  apply Exists.intro
  refine And.intro (fun wx hx => ?_) ?_
  · have e0 := below_fact hx rfl y2
    have e1 := below_fact hx rfl y3
    have e2 := below_fact hx rfl v0
    have e3 := below_fact hx rfl vc
    go_simp
    try rfl
  go_simp
  refine hK1 _ ?_
  clear hK1 K1
  refine wpPre_i rfl (fun K1 hK1 => ?_)
  rw [if_pos (by go_simp)]
  apply Exists.intro
  refine And.intro (fun wx hx => ?_) ?_
  · go_simp
    try rfl
  go_simp
  refine hK1 _ ?_
  clear hK1 K1
  refine wpPre_i rfl (fun K1 hK1 => ?_)
  rw [if_pos (by go_simp)]
  apply Exists.intro
  refine And.intro (fun wx hx => ?_) ?_
  · go_simp
    try rfl
  go_simp
  refine hK1 _ ?_
  clear hK1 K1
  refine wpPre_i rfl (fun K1 hK1 => ?_)
  rw [if_pos (by go_simp)]
  apply Exists.intro
  refine And.intro (fun wx hx => ?_) ?_
  · go_simp
    try rfl
  go_simp
  refine hK1 _ ?_
  clear hK1 K1
  refine wpPre_i rfl (fun K1 hK1 => ?_)
  rw [if_pos (by go_simp)]
  apply Exists.intro
  refine And.intro (fun wx hx => ?_) ?_
  · have e0 := below_fact hx rfl y2
    have e1 := below_fact hx rfl y3
    have e2 := below_fact hx rfl v0
    have e3 := below_fact hx rfl vc
    go_simp
    try rfl
  go_simp
  refine hK1 _ ?_
  clear hK1 K1
  refine wpPre_i rfl (fun K1 hK1 => ?_)
  rw [if_pos (by go_simp)]
  apply Exists.intro
  refine And.intro (fun wx hx => ?_) ?_
  · go_simp
    try rfl
  go_simp
  refine hK1 _ ?_
  clear hK1 K1
  refine wpPre_e rfl rfl (fun K1 hK1 => ?_)
  apply Exists.intro
  refine And.intro (fun wx hx => ?_) ?_
  · go_simp
    try rfl
  go_simp
  refine hK1 _ ?_
  clear hK1 K1
  refine wpPre_nil ?_
  refine wpStg_nil ?_
  obtain ⟨W1, hW1⟩ : ∃ x, x = W0.drew := ⟨_, rfl⟩
  rw [← hW1]
  have H1 : Hid (VSet W0 vb V W1 V) := by unfold Hid; rw [hW1]; exact (VSet.same HV0.out (Below.refl _ _)).drew
  have hxo := HX0.out.kept (H1.out.out HX0.out.lt HNo.out).1
  have y3 := hxo.cell 3
  have v0 := H1.out.inv.box.cell 0
  have ol := hxo.lt
  simp [Vw.arr] at y3 v0
  rw [HQ.out] at y3
  clear hW1 hxo
  go_wp2_with fail
  refine wp_region_calmD 30 (fun wx => Below W1.heap.size W1 wx) [(0, true), (1, false), (2, true), (3, true), (4, true), (5, false), (6, true)] [] (by kernel_rfl) (by kernel_rfl) (Below.refl _ _).drew ?_
  refine wpPre_e rfl rfl (fun K1 hK1 => ?_)
  apply Exists.intro
  refine And.intro (fun wx hx => ?_) ?_
  · go_simp
    try rfl
  go_simp
  refine hK1 _ ?_
  clear hK1 K1
  refine wpPre_e rfl rfl (fun K1 hK1 => ?_)
  apply Exists.intro
  refine And.intro (fun wx hx => ?_) ?_
  · have e0 := below_fact hx rfl y3
    have e1 := below_fact hx rfl v0
    go_simp
    try rfl
  go_simp
  refine hK1 _ ?_
  clear hK1 K1
  refine wpPre_e rfl rfl (fun K1 hK1 => ?_)
  apply Exists.intro
  refine And.intro (fun wx hx => ?_) ?_
  · go_simp
    try rfl
  go_simp
  refine hK1 _ ?_
  clear hK1 K1
  refine wpPre_e rfl rfl (fun K1 hK1 => ?_)
  apply Exists.intro
  refine And.intro (fun wx hx => ?_) ?_
  · go_simp
    try rfl
  go_simp
  refine hK1 _ ?_
  clear hK1 K1
  refine wpPre_e rfl rfl (fun K1 hK1 => ?_)
  apply Exists.intro
  refine And.intro (fun wx hx => ?_) ?_
  · go_simp
    try rfl
  go_simp
  refine hK1 _ ?_
  clear hK1 K1
  refine wpPre_e rfl rfl (fun K1 hK1 => ?_)
  apply Exists.intro
  refine And.intro (fun wx hx => ?_) ?_
  · have e0 := below_fact hx rfl y3
    have e1 := below_fact hx rfl v0
    go_simp
    try rfl
  go_simp
  refine hK1 _ ?_
  clear hK1 K1
  refine wpPre_e rfl rfl (fun K1 hK1 => ?_)
  apply Exists.intro
  refine And.intro (fun wx hx => ?_) ?_
  · go_simp
    try rfl
  go_simp
  refine hK1 _ ?_
  clear hK1 K1
  refine wpPre_nil ?_
  refine wpStg_nil ?_
  obtain ⟨W2, hW2⟩ : ∃ x, x = W1.drew := ⟨_, rfl⟩
  rw [← hW2]
  have H2 : Hid (VSet W0 vb V W2 V) := by unfold Hid; rw [hW2]; exact H1.out.drew
  clear hW2 y3 v0 ol H1
  obtain ⟨V1, hV1⟩ : ∃ x, x = V := ⟨_, rfl⟩
  have H3 : Hid (VSet W0 vb V W2 V1) := by unfold Hid; rw [hV1]; exact H2.out
  have hid1 := hid (show V1.id = o.id by rw [hV1]; exact HQ.out.symm)
  have hbs := hid (show V.base o.id = V1 by rw [hV1, Vw.base, if_neg (by have := HQ.out; omega)])
  have HNl : Hid ((V1.lg i).n ≤ 1000000000) := by unfold Hid; rw [hV1]; exact hnl0
  obtain ⟨W3, hW3⟩ : ∃ x, x = W2 := ⟨_, rfl⟩
  rw [← hW3] at H3 ⊢
  clear hW3 hV1 H2
  have hxo := HX0.out.kept (H3.out.out HX0.out.lt HNo.out).1
  have y2 := hxo.cell 2
  have y10 := hxo.cell 10
  have y11 := hxo.cell 11
  have y12 := hxo.cell 12
  have y13 := hxo.cell 13
  have ol := hxo.lt
  simp at y2 y10 y11 y12 y13
  rw [HP.out] at y2
  clear hxo
  have vI := H3.out.inv
  have c1 := vI.box.cell 1
  have g1 := vI.box.frozen 1
  have vl := vI.box.lt
  simp [Vw.arr] at c1
  go_wp2_with fail
  obtain ⟨W4, hW4⟩ : ∃ x, x = W3.setCell ⟨vb, 1, none⟩ (.bool true) := ⟨_, rfl⟩
  rw [← hW4]
  have H4 : Hid (VSet W0 vb V W4 { V1 with cp := true }) := by
    unfold Hid
    rw [hW4]
    exact H3.out.trans (vI.chg rfl (vI.box.set 1 (.bool true)) ((But.one W3 vb).setAt 1 _))
  clear hW4 c1 g1 vI vl
  clear y2 y10 y11 y12 y13 ol
  refine (copyS o.num o.l W4 (fun k => S k ∧ k < w.heap.size) (HLk.out _ _ H4.out).l HSz.out.l).mono ?_
  rintro e W5 ⟨u, rfl, ual, uin, ub⟩
  have H5 := hid (H4.out.trans (VSet.same H4.out.inv ub))
  have hU5 : elCells.In W5 (fun k => w.heap.size ≤ k ∧ ¬ ({ V1 with cp := true } : Vw).C vb k) u := LT.In.mono uin (fun k hk _ => ⟨Nat.le_trans HB0.out.size (Nat.le_trans H4.out.but.size hk), fun e => by have := H4.out.inv.lt e; omega⟩)
  have HU5 := hid (And.intro ual hU5)
  clear ual uin ub hU5
  have hxo := HX0.out.kept (H5.out.out HX0.out.lt HNo.out).1
  have y2 := hxo.cell 2
  have y10 := hxo.cell 10
  have y11 := hxo.cell 11
  have y12 := hxo.cell 12
  have y13 := hxo.cell 13
  have ol := hxo.lt
  simp at y2 y10 y11 y12 y13
  rw [HP.out] at y2
  clear hxo
  have vI := H5.out.inv
  have c2 := vI.box.cell 2
  have g2 := vI.box.frozen 2
  have c3 := vI.box.cell 3
  have g3 := vI.box.frozen 3
  have vl := vI.box.lt
  simp [Vw.arr] at c2 c3
  go_wp2_with fail
  obtain ⟨W6, hW6⟩ : ∃ x, x = (W5.setCell ⟨vb, 2, none⟩ (.int .i64 o.num)).setCell ⟨vb, 3, none⟩ (.slice u.p u.n u.c) := ⟨_, rfl⟩
  rw [← hW6]
  have hs6 : VSet W5 vb { V1 with cp := true } W6 { V1 with cp := true, num := o.num, cl := u } := by
    rw [hW6]
    exact vI.chg rfl ((vI.box.set 2 (.int .i64 o.num)).set 3 (.slice u.p u.n u.c)) (((But.one W5 vb).setAt 2 _).setAt 3 _)
  have H6 := hid (H5.out.trans hs6)
  have HU6 := hid (And.intro HU5.out.1 (hs6.inC HU5.out.2))
  clear hW6 hs6 c2 c3 g2 g3 vI vl HU5
  clear y2 y10 y11 y12 y13 ol
  refine (copyRs o.q W6 (fun k => S k ∧ k < w.heap.size) (HLk.out _ _ H6.out).q HSz.out.q).mono ?_
  rintro e W7 ⟨v, rfl, val, vin, vb7⟩
  have hs7 := VSet.same H6.out.inv vb7
  have H7 := hid (H6.out.trans hs7)
  have hU7 : elRecs.In W7 (fun k => w.heap.size ≤ k ∧ ¬ ({ V1 with cp := true, num := o.num, cl := u } : Vw).C vb k) v := LT.In.mono vin (fun k hk _ => ⟨Nat.le_trans HB0.out.size (Nat.le_trans H6.out.but.size hk), fun e => by have := H6.out.inv.lt e; omega⟩)
  have HU7 := hid (And.intro HU6.out.1 (And.intro (hs7.inC HU6.out.2) (And.intro val hU7)))
  clear val vin vb7 hU7 hs7 HU6
  have hxo := HX0.out.kept (H7.out.out HX0.out.lt HNo.out).1
  have y2 := hxo.cell 2
  have y10 := hxo.cell 10
  have y11 := hxo.cell 11
  have y12 := hxo.cell 12
  have y13 := hxo.cell 13
  have ol := hxo.lt
  simp at y2 y10 y11 y12 y13
  rw [HP.out] at y2
  clear hxo
  have vI := H7.out.inv
  have c4 := vI.box.cell 4
  have g4 := vI.box.frozen 4
  have vl := vI.box.lt
  simp [Vw.arr] at c4
  go_wp2_with fail
  obtain ⟨W8, hW8⟩ : ∃ x, x = W7.setCell ⟨vb, 4, none⟩ (.slice v.p v.n v.c) := ⟨_, rfl⟩
  rw [← hW8]
  have hs8 : VSet W7 vb { V1 with cp := true, num := o.num, cl := u } W8 (V1.copied o.num u v) := by
    rw [hW8]
    exact vI.chg rfl (vI.box.set 4 (.slice v.p v.n v.c)) ((But.one W7 vb).setAt 4 _)
  have H8 := hid (H7.out.trans hs8)
  have HU8 := hid (And.intro HU7.out.1 (And.intro (hs8.inC HU7.out.2.1) (And.intro HU7.out.2.2.1 (hs8.inC HU7.out.2.2.2))))
  clear hW8 hs8 c4 g4 vI vl HU7
  clear y2 y10 y11 y12 y13 ol
  have hxo := HX0.out.kept (H8.out.out HX0.out.lt HNo.out).1
  have y2 := hxo.cell 2
  have y10 := hxo.cell 10
  have y11 := hxo.cell 11
  have y12 := hxo.cell 12
  have y13 := hxo.cell 13
  have ol := hxo.lt
  simp at y2 y10 y11 y12 y13
  rw [HP.out] at y2
  clear hxo
  have vI := H8.out.inv
  have cc := vI.cs hi
  have gc := vI.box.frozen (5 + i)
  have vl := vI.box.lt
  refine wp_region_calmE 30 (fun wx => Below W8.heap.size W8 wx) [(0, true), (1, true), (2, false), (3, true), (4, true), (5, true)] (.one 6 false [] .done) (by kernel_rfl) (by kernel_rfl) (Below.refl _ _).drew ?_
  refine wpPre_e rfl rfl (fun K1 hK1 => ?_)
  apply Exists.intro
  refine And.intro (fun wx hx => ?_) ?_
  · go_simp
    try rfl
  go_simp
  refine hK1 _ ?_
  clear hK1 K1
  refine wpPre_e rfl rfl (fun K1 hK1 => ?_)
  apply Exists.intro
  refine And.intro (fun wx hx => ?_) ?_
  · go_simp
    try rfl
  go_simp
  refine hK1 _ ?_
  clear hK1 K1
  refine wpPre_e rfl rfl (fun K1 hK1 => ?_)
  apply Exists.intro
  refine And.intro (fun wx hx => ?_) ?_
  · have e0 := below_fact hx rfl y2
    go_simp
    try rfl
  go_simp
  refine hK1 _ ?_
  clear hK1 K1
  refine wpPre_e rfl rfl (fun K1 hK1 => ?_)
  apply Exists.intro
  refine And.intro (fun wx hx => ?_) ?_
  · go_simp
    try rfl
  go_simp
  refine hK1 _ ?_
  clear hK1 K1
  refine wpPre_e rfl rfl (fun K1 hK1 => ?_)
  apply Exists.intro
  refine And.intro (fun wx hx => ?_) ?_
  · go_simp
    try rfl
  go_simp
  refine hK1 _ ?_
  clear hK1 K1
  refine wpPre_e rfl rfl (fun K1 hK1 => ?_)
  apply Exists.intro
  refine And.intro (fun wx hx => ?_) ?_
  · go_simp
    try rfl
  go_simp
  refine hK1 _ ?_
  clear hK1 K1
  refine wpPre_nil ?_
  refine wpTr_e rfl (fun K1 hK1 => ?_)
  go_simp
  refine hK1 _ _ (fun h => by cases h) ?_
  clear hK1 K1
  refine wpPre_nil ?_
  refine wpTr_done ?_
  obtain ⟨W9, hW9⟩ : ∃ x, x = (W8.setCell ⟨vb, 5 + i, none⟩ (.bool true)).drew := ⟨_, rfl⟩
  rw [← hW9]
  have hs9 : VSet W8 vb (V1.copied o.num u v) W9 ((V1.copied o.num u v).close i) := by
    rw [hW9]
    exact (vI.close hi (Below.refl _ _)).drew
  have H9 := hid (H8.out.trans hs9)
  have HU9 := hid (And.intro HU8.out.1 (And.intro (hs9.inC HU8.out.2.1) (And.intro HU8.out.2.2.1 (hs9.inC HU8.out.2.2.2))))
  clear hW9 hs9 cc gc vI vl
  clear y2 y10 y11 y12 y13 ol
  have hxo := HX0.out.kept (H9.out.out HX0.out.lt HNo.out).1
  have y2 := hxo.cell 2
  have y10 := hxo.cell 10
  have y11 := hxo.cell 11
  have y12 := hxo.cell 12
  have y13 := hxo.cell 13
  have ol := hxo.lt
  simp at y2 y10 y11 y12 y13
  rw [HP.out] at y2
  clear hxo
  have vI := H9.out.inv
  have cl := vI.cl_ hi
  have vl := vI.box.lt
  have HIv := hid vI
  go_wp2_with fail
  refine wp_region_calmE 30 (fun wx => wx.cell? ⟨w.heap.size, 2, none⟩ = some (.int .i64 (i : Int)) ∧ wx.cell? ⟨w.heap.size, 10, none⟩ = some (.slice o.a.p o.a.n o.a.c) ∧ wx.cell? ⟨vb, 9 + i, none⟩ = some (.slice (((V1.copied o.num u v).close i).lg i).p (((V1.copied o.num u v).close i).lg i).n (((V1.copied o.num u v).close i).lg i).c)) [(0, true), (1, true), (2, false), (3, true), (4, true), (5, false), (6, true), (7, true), (8, true), (9, false), (10, true), (11, false), (14, true), (15, true)] (.one 12 true [] (.one 13 true [(16, true)] (.one 17 false [] .done))) (by kernel_rfl) (by kernel_rfl) ⟨y2, y10, cl⟩ ?_
  refine wpPre_e rfl rfl (fun K1 hK1 => ?_)
  apply Exists.intro
  refine And.intro (fun wx hx => ?_) ?_
  · go_simp
    try rfl
  go_simp
  refine hK1 _ ?_
  clear hK1 K1
  refine wpPre_e rfl rfl (fun K1 hK1 => ?_)
  apply Exists.intro
  refine And.intro (fun wx hx => ?_) ?_
  · go_simp
    try rfl
  go_simp
  refine hK1 _ ?_
  clear hK1 K1
  refine wpPre_e rfl rfl (fun K1 hK1 => ?_)
  apply Exists.intro
  refine And.intro (fun wx hx => ?_) ?_
  · have hc := hx.resolve_left (by simp)
    have e0 := hc.1
    have e1 := hc.2.1
    have e2 := hc.2.2
    go_simp
    try rfl
  go_simp
  refine hK1 _ ?_
  clear hK1 K1
  refine wpPre_e rfl rfl (fun K1 hK1 => ?_)
  apply Exists.intro
  refine And.intro (fun wx hx => ?_) ?_
  · go_simp
    try rfl
  go_simp
  refine hK1 _ ?_
  clear hK1 K1
  refine wpPre_e rfl rfl (fun K1 hK1 => ?_)
  apply Exists.intro
  refine And.intro (fun wx hx => ?_) ?_
  · go_simp
    try rfl
  go_simp
  refine hK1 _ ?_
  clear hK1 K1
  refine wpPre_e rfl rfl (fun K1 hK1 => ?_)
  apply Exists.intro
  refine And.intro (fun wx hx => ?_) ?_
  · have hc := hx.resolve_left (by simp)
    have e0 := hc.1
    have e1 := hc.2.1
    have e2 := hc.2.2
    go_simp
    try rfl
  go_simp
  refine hK1 _ ?_
  clear hK1 K1
  refine wpPre_e rfl rfl (fun K1 hK1 => ?_)
  apply Exists.intro
  refine And.intro (fun wx hx => ?_) ?_
  · go_simp
    try rfl
  go_simp
  refine hK1 _ ?_
  clear hK1 K1
  refine wpPre_e rfl rfl (fun K1 hK1 => ?_)
  apply Exists.intro
  refine And.intro (fun wx hx => ?_) ?_
  · go_simp
    try rfl
  go_simp
  refine hK1 _ ?_
  clear hK1 K1
  refine wpPre_e rfl rfl (fun K1 hK1 => ?_)
  apply Exists.intro
  refine And.intro (fun wx hx => ?_) ?_
  · go_simp
    try rfl
  go_simp
  refine hK1 _ ?_
  clear hK1 K1
  refine wpPre_e rfl rfl (fun K1 hK1 => ?_)
  apply Exists.intro
  refine And.intro (fun wx hx => ?_) ?_
  · have hc := hx.resolve_left (by simp)
    have e0 := hc.1
    have e1 := hc.2.1
    have e2 := hc.2.2
    go_simp
    try rfl
  go_simp
  refine hK1 _ ?_
  clear hK1 K1
  refine wpPre_e rfl rfl (fun K1 hK1 => ?_)
  apply Exists.intro
  refine And.intro (fun wx hx => ?_) ?_
  · go_simp
    try rfl
  go_simp
  refine hK1 _ ?_
  clear hK1 K1
  refine wpPre_e rfl rfl (fun K1 hK1 => ?_)
  apply Exists.intro
  refine And.intro (fun wx hx => ?_) ?_
  · have hc := hx.resolve_left (by simp)
    have e0 := hc.1
    have e1 := hc.2.1
    have e2 := hc.2.2
    go_simp
    try rfl
  go_simp
  refine hK1 _ ?_
  clear hK1 K1
  refine wpPre_e rfl rfl (fun K1 hK1 => ?_)
  apply Exists.intro
  refine And.intro (fun wx hx => ?_) ?_
  · go_simp
    try rfl
  go_simp
  refine hK1 _ ?_
  clear hK1 K1
  refine wpPre_e rfl rfl (fun K1 hK1 => ?_)
  apply Exists.intro
  refine And.intro (fun wx hx => ?_) ?_
  · go_simp
    try rfl
  go_simp
  refine hK1 _ ?_
  clear hK1 K1
  refine wpPre_nil ?_
  refine wpTr_e rfl (fun K1 hK1 => ?_)
  refine step_call rfl 41 #[.tmp 80] _ rfl Try.f41 Try.func41 (by kernel_rfl) rfl #[.slice o.a.p o.a.n o.a.c] rfl _ (copyRs o.a W9.drew (fun k => S k ∧ k < w.heap.size) (HLk.out _ _ H9.out.drew).a HSz.out.a) (fun e WA hA => ?_)
  obtain ⟨m, rfl, mal, min, mb⟩ := hA
  refine ⟨_, rfl, ?_⟩
  have hbA : Below W9.heap.size W9 WA := (Below.refl W9.heap.size W9).drew.trans mb
  have min' : LT.In elRec WA (fun k => W9.heap.size ≤ k) m := min
  have HM := hid (And.intro mal (And.intro min' hbA))
  have hmn : m.n ≤ 10000 := by have := mal.n; have := HSz.out.a.n; omega
  have hIA := vI.below hbA
  have HIA := hid hIA
  have hnl : (((V1.copied o.num u v).close i).lg i).n ≤ 1000000000 := HNl.out
  clear mal min min' mb
  go_simp
  refine hK1 _ _ (fun _ => ⟨(hbA.cell (p := ⟨w.heap.size, 2, none⟩) ol).trans y2, (hbA.cell (p := ⟨w.heap.size, 10, none⟩) ol).trans y10, (hbA.cell (p := ⟨vb, 9 + i, none⟩) vl).trans cl⟩) ?_
  clear hK1 K1
  refine wpPre_nil ?_
  refine wpTr_e rfl (fun K1 hK1 => ?_)
  refine step_appS rfl (.tmp 78) (.tmp 81) 37 36 i0 _ 6 96 HKd.out rfl 0 (.slice (((V1.copied o.num u v).close i).lg i).p (((V1.copied o.num u v).close i).lg i).n (((V1.copied o.num u v).close i).lg i).c) (((V1.copied o.num u v).close i).lg i).n (rowsR (((V1.copied o.num u v).close i).lg i)) rfl (HIA.out.own i hi) m.p m.n m.c (rowsR m) rfl HM.out.2.1.src (fun u hu => by obtain ⟨j, _, hj⟩ := List.mem_flatMap.1 hu; exact elRec.one _ u hj) (by omega) (by omega) (Nat.zero_le _) ?_
  intro vB WB ho hg hn
  obtain ⟨pB, cB, rfl⟩ := ownsRow_slice ho
  have hbB : Box WB vb ((V1.copied o.num u v).close i).arr 59 := hIA.box.kept (hg.block vb hIA.box.lt (fun e => HIv.out.ne i hi e.symm))
  have z1 : ∃ z, WB.cell? ⟨vb, 9 + i, none⟩ = some z := by
    rw [hbB.cell]
    rcases (by omega : i = 0 ∨ i = 1 ∨ i = 2 ∨ i = 3) with rfl | rfl | rfl | rfl <;> exact ⟨_, rfl⟩
  obtain ⟨zz, z1⟩ := z1
  have gz := hbB.frozen (9 + i)
  have lB := hbB.lt
  rw [← rowsR_join (((V1.copied o.num u v).close i).lg i) m pB cB] at ho
  have HSB := hid (HIv.out.setLog (w1 := WA) (w2 := WB) (i := i) (l := (((V1.copied o.num u v).close i).lg i).join m pB cB) hi HM.out.2.2 ho hg hn)
  have hCB : WB.cell? ⟨w.heap.size, 2, none⟩ = some (.int .i64 (i : Int)) ∧ WB.cell? ⟨w.heap.size, 10, none⟩ = some (.slice o.a.p o.a.n o.a.c) ∧ WB.cell? ⟨vb, 9 + i, none⟩ = some (.slice (((V1.copied o.num u v).close i).lg i).p (((V1.copied o.num u v).close i).lg i).n (((V1.copied o.num u v).close i).lg i).c) := by
    have n1 : ¬ ((V1.copied o.num u v).close i).C vb w.heap.size := (H9.out.out HX0.out.lt HNo.out).2.1
    have k1 := hg.block w.heap.size (Nat.lt_of_lt_of_le ol hbA.size) (fun e => n1 (.inr ⟨i, hi, e.symm⟩))
    have k2 := hg.block vb hIA.box.lt (fun e => HIv.out.ne i hi e.symm)
    exact ⟨(World.cell?_of_block (a := ⟨w.heap.size, 2, none⟩) k1).trans ((hbA.cell (p := ⟨w.heap.size, 2, none⟩) ol).trans y2), (World.cell?_of_block (a := ⟨w.heap.size, 10, none⟩) k1).trans ((hbA.cell (p := ⟨w.heap.size, 10, none⟩) ol).trans y10), (World.cell?_of_block (a := ⟨vb, 9 + i, none⟩) k2).trans ((hbA.cell (p := ⟨vb, 9 + i, none⟩) vl).trans cl)⟩
  have HRB : Hid (∀ j, j < m.n → RT.In (WB.setCell ⟨vb, 9 + i, none⟩ (.slice pB ((((V1.copied o.num u v).close i).lg i).n + m.n) cB)) (fun k => W9.heap.size ≤ k ∧ ¬ (((V1.copied o.num u v).close i).setLog i ((((V1.copied o.num u v).close i).lg i).join m pB cB)).C vb k) (m.item j)) := fun j hj =>
    RT.In.apartV (l := (((V1.copied o.num u v).close i).lg i).join m pB cB) HIv.out hi (HM.out.2.1.each j hj) hg hn
  clear ho hg hn hbB hIA HIA hbA
  go_simp
  refine hK1 _ _ (fun _ => hCB) ?_
  clear hK1 K1
  refine wpPre_e rfl rfl (fun K1 hK1 => ?_)
  apply Exists.intro
  refine And.intro (fun wx hx => ?_) ?_
  · go_simp
    try rfl
  go_simp
  refine hK1 _ ?_
  clear hK1 K1
  refine wpPre_nil ?_
  refine wpTr_e rfl (fun K1 hK1 => ?_)
  go_simp
  refine hK1 _ _ (fun h => by cases h) ?_
  clear hK1 K1
  refine wpPre_nil ?_
  refine wpTr_done ?_
  go_wp2_with fail
  go_end0
  have hsz9 : w.heap.size ≤ W9.heap.size := Nat.le_trans HB0.out.size H9.out.but.size
  refine ⟨rfl, ((V1.copied o.num u v).close i).setLog i ((((V1.copied o.num u v).close i).lg i).join m pB cB), (VSet.same hV HB0.out).trans (H9.out.trans HSB.out), fun h => (by rw [hsk.out] at h; cases h), fun _ => hid1.out, fun _ => (by rw [hbs.out]; try simp [Vw.close, Vw.copied, Vw.setLog]), fun _ => (by rw [hbs.out]; try rfl), fun _ => (by rw [hbs.out]; try rfl), fun _ j hj => (by rw [hbs.out]; simp [Vw.setLog, Vw.close, Vw.copied, hj]), fun _ h => absurd rfl h, fun _ _ => ⟨m, pB, cB, (by rw [hbs.out]; simp [Vw.setLog, Vw.close, Vw.copied]), HM.out.1, fun j hj => RT.In.mono (HRB.out j hj) (fun k hk _ => ⟨Nat.le_trans hsz9 hk.1, hk.2⟩)⟩, fun _ _ => ⟨rfl, HU9.out.1, HU9.out.2.2.1, HSB.out.inC HU9.out.2.1, HSB.out.inC HU9.out.2.2.2⟩, fun _ h => (by cases h)⟩
end Go.Proofs.Ytdncnnjhfipokaa
