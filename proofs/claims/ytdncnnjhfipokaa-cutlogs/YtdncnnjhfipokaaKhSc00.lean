import Derived.Test.YtdncnnjhfipokaaPack15
import Derived.Deep.DeepCutAuto
namespace Go.Proofs.Ytdncnnjhfipokaa
open Go.RowKit
set_option maxRecDepth 8000
set_option maxHeartbeats 8000000 in
theorem sees_c00 (o : OpT) (mode : Int) (i : Nat) (hi : i < 4) (hpi : o.port = (i : Int)) (w : World) (S : Nat → Prop) (vb : Nat) (V : Vw) (hV : VwI w vb V) (hS : ∀ k, S k → ¬ V.C vb k) (hin : OpT.In w S o) (hs : OpSz o) (hnl0 : (V.lg i).n ≤ 1000000000) (heq : o.id = V.id) (hcd : V.cd i = false) (hm3 : mode ≠ 3) :
    Calls Try.prog 21 #[.pointer (some ⟨vb, 0, none⟩), .agg #[.int .i64 o.kind, .int .i64 o.which, .int .i64 o.port, .int .i64 o.id, .string o.r.key, .int .i64 o.r.v.kind, .int .i64 o.r.v.int, .string o.r.v.text, .slice o.r.v.p o.r.v.n o.r.v.c, .slice o.r.p o.r.n o.r.c, .slice o.a.p o.a.n o.a.c, .slice o.q.p o.q.n o.q.c, .int .i64 o.num, .slice o.l.p o.l.n o.l.c], .bool false, .int .i64 mode] w fun e w' => e = .returned (.tuple #[]) ∧ ∃ V', SeesQ o false mode i w vb V w' V' := by
  have HP := hid hpi
  clear hpi
  obtain ⟨W0, hW0⟩ : ∃ x, x = w.alloc (.cells #[.int .i64 o.kind, .int .i64 o.which, .int .i64 o.port, .int .i64 o.id, .string o.r.key, .int .i64 o.r.v.kind, .int .i64 o.r.v.int, .string o.r.v.text, .slice o.r.v.p o.r.v.n o.r.v.c, .slice o.r.p o.r.n o.r.c, .slice o.a.p o.a.n o.a.c, .slice o.q.p o.q.n o.q.c, .int .i64 o.num, .slice o.l.p o.l.n o.l.c] 42) := ⟨_, rfl⟩
  have hB0 : Below w.heap.size w W0 := by rw [hW0]; exact (Below.refl _ _).alloc (Nat.le_refl _) _
  have hX0 : Box W0 w.heap.size #[.int .i64 o.kind, .int .i64 o.which, .int .i64 o.port, .int .i64 o.id, .string o.r.key, .int .i64 o.r.v.kind, .int .i64 o.r.v.int, .string o.r.v.text, .slice o.r.v.p o.r.v.n o.r.v.c, .slice o.r.p o.r.n o.r.c, .slice o.a.p o.a.n o.a.c, .slice o.q.p o.q.n o.q.c, .int .i64 o.num, .slice o.l.p o.l.n o.l.c] 42 := by rw [hW0]; exact Box.new _ _ _
  have HB0 := hid hB0
  have HX0 := hid hX0
  have HV0 := hid (hV.below hB0)
  have HNo : Hid (¬ V.C vb w.heap.size) := fun e => by have := hV.lt e; omega
  have HLk : Hid (∀ (W : World) (V1 : Vw), VSet W0 vb V W V1 → OpT.In W (fun k => S k ∧ k < w.heap.size) o) := fun W V1 g => (OpT.In.mono hin fun k hk hl => ⟨hk, hl⟩).kept (Nat.le_trans hB0.size g.but.size) (fun k hk _ => (g.but.block k (by have := hB0.size; omega) (hS k hk.1)).trans (hB0.block k hk.2))
  have HSz := hid hs
  obtain ⟨i0, Kd⟩ := kindRs
  have HKd := hid Kd
  have y2 := hX0.cell 2
  have y3 := hX0.cell 3
  have v0 := HV0.out.box.cell 0
  have vc := HV0.out.cs hi
  have ol := hX0.lt
  have vl0 := HV0.out.box.lt
  have hi4 : (i : Int) < 4 := by omega
  simp [Vw.arr] at y2 y3 v0
  rw [HP.out] at y2
  clear hB0 hX0 hs Kd hin
  have hsk : Hid (V.skips o i = false) := by unfold Hid; simp [Vw.skips, heq, hcd]
  rw [hcd] at vc
  rw [heq] at y3
  have HQ := hid heq
  clear heq
  have hm3' : (mode == 3) = false := by simp [hm3]
  go_enter Try.func21, Try.ntmps21
  go_wp2_with fail
  rw [← hW0]
  clear hW0
  refine wp_region_calmD 30 (fun wx => Below W0.heap.size W0 wx) [(0, true), (1, false), (2, true), (3, true), (4, true), (5, false), (6, true), (7, true), (8, true), (9, false), (10, true), (11, true), (12, true), (13, false), (14, true), (15, true), (16, true), (17, true), (18, false), (19, true), (20, true), (21, true), (22, false), (23, true), (24, true)] [] (by kernel_rfl) (by kernel_rfl) (Below.refl _ _).drew ?_
  refine wpPre_e rfl rfl (fun K1 hK1 => ?_)
  apply Exists.intro
  refine And.intro (fun wx hx => ?_) ?_
  · go_simp
    try rfl
  go_simp
  refine hK1 _ ?_
  clear hK1 K1
  refine wpPre_e rfl rfl (fun K1 hK1 => ?_)
  apply Exists.intro
  refine And.intro (fun wx hx => ?_) ?_
  · have e0 := below_fact hx rfl y2
    have e1 := below_fact hx rfl y3
    have e2 := below_fact hx rfl v0
    have e3 := below_fact hx rfl vc
    go_simp
    try rfl
  go_simp
  refine hK1 _ ?_
  clear hK1 K1
  refine wpPre_e rfl rfl (fun K1 hK1 => ?_)
  apply Exists.intro
  refine And.intro (fun wx hx => ?_) ?_
  · go_simp
    try rfl
  go_simp
  refine hK1 _ ?_
  clear hK1 K1
  refine wpPre_e rfl rfl (fun K1 hK1 => ?_)
  apply Exists.intro
  refine And.intro (fun wx hx => ?_) ?_
  · go_simp
    try rfl
  go_simp
  refine hK1 _ ?_
  clear hK1 K1
  refine wpPre_e rfl rfl (fun K1 hK1 => ?_)
  apply Exists.intro
  refine And.intro (fun wx hx => ?_) ?_
  · go_simp
    try rfl
  go_simp
  refine hK1 _ ?_
  clear hK1 K1
  refine wpPre_e rfl rfl (fun K1 hK1 => ?_)
  apply Exists.intro
  refine And.intro (fun wx hx => ?_) ?_
  · have e0 := below_fact hx rfl y2
    have e1 := below_fact hx rfl y3
    have e2 := below_fact hx rfl v0
    have e3 := below_fact hx rfl vc
    go_simp
    try rfl
  go_simp
  refine hK1 _ ?_
  clear hK1 K1
  refine wpPre_e rfl rfl (fun K1 hK1 => ?_)
  apply Exists.intro
  refine And.intro (fun wx hx => ?_) ?_
  · go_simp
    try rfl
  go_simp
  refine hK1 _ ?_
  clear hK1 K1
  refine wpPre_e rfl rfl (fun K1 hK1 => ?_)
  apply Exists.intro
  refine And.intro (fun wx hx => ?_) ?_
  · go_simp
    try rfl
  go_simp
  refine hK1 _ ?_
  clear hK1 K1
  refine wpPre_i rfl (fun K1 hK1 => ?_)
  rw [if_pos (by go_simp)]
  apply Exists.intro
  refine And.intro (fun wx hx => ?_) ?_
  · go_simp
    try rfl
  go_simp
  refine hK1 _ ?_
  clear hK1 K1
  refine wpPre_i rfl (fun K1 hK1 => ?_)
  rw [if_pos (by go_simp)]
  apply Exists.intro
  refine And.intro (fun wx hx => ?_) ?_
  · have e0 := below_fact hx rfl y2
    have e1 := below_fact hx rfl y3
    have e2 := below_fact hx rfl v0
    have e3 := below_fact hx rfl vc
    go_simp
    try rfl
  go_simp
  refine hK1 _ ?_
  clear hK1 K1
  refine wpPre_i rfl (fun K1 hK1 => ?_)
  rw [if_pos (by go_simp)]
  apply Exists.intro
  refine And.intro (fun wx hx => ?_) ?_
  · go_simp
    try rfl
  go_simp
  refine hK1 _ ?_
  clear hK1 K1
  refine wpPre_i rfl (fun K1 hK1 => ?_)
  rw [if_pos (by go_simp)]
  apply Exists.intro
  refine And.intro (fun wx hx => ?_) ?_
  · go_simp
    try rfl
  go_simp
  refine hK1 _ ?_
  clear hK1 K1
  refine wpPre_i rfl (fun K1 hK1 => ?_)
  rw [if_pos (by go_simp)]
  apply Exists.intro
  refine And.intro (fun wx hx => ?_) ?_
  · go_simp
    try rfl
  go_simp
  refine hK1 _ ?_
  clear hK1 K1
  refine wpPre_i rfl (fun K1 hK1 => ?_)
  rw [if_pos (by go_simp)]
  apply Exists.intro
  refine And.intro (fun wx hx => ?_) ?_
  · have e0 := below_fact hx rfl y2
    have e1 := below_fact hx rfl y3
    have e2 := below_fact hx rfl v0
    have e3 := below_fact hx rfl vc
    go_simp
    try rfl
  go_simp
  refine hK1 _ ?_
  clear hK1 K1
  refine wpPre_i rfl (fun K1 hK1 => ?_)
  rw [if_pos (by go_simp)]
  apply Exists.intro
  refine And.intro (fun wx hx => ?_) ?_
  · go_simp
    try rfl
  go_simp
  refine hK1 _ ?_
  clear hK1 K1
  refine wpPre_i rfl (fun K1 hK1 => ?_)
  rw [if_pos (by go_simp)]
  apply Exists.intro
  refine And.intro (fun wx hx => ?_) ?_
  · go_simp
    try rfl
  go_simp
  refine hK1 _ ?_
  clear hK1 K1
  refine wpPre_i rfl (fun K1 hK1 => ?_)
  rw [if_pos (by go_simp)]
  apply Exists.intro
  refine And.intro (fun wx hx => ?_) ?_
  · go_simp
    try rfl
  go_simp
  refine hK1 _ ?_
  clear hK1 K1
  refine wpPre_i rfl (fun K1 hK1 => ?_)
  rw [if_pos (by go_simp)]
  apply Exists.intro
  refine And.intro (fun wx hx => ?_) ?_
  · go_simp
    try rfl
  go_simp
  refine hK1 _ ?_
  clear hK1 K1
  refine wpPre_i rfl (fun K1 hK1 => ?_)
  rw [if_pos (by go_simp)]
  apply Exists.intro
  refine And.intro (fun wx hx => ?_) ?_
  · have e0 := below_fact hx rfl y2
    have e1 := below_fact hx rfl y3
    have e2 := below_fact hx rfl v0
    have e3 := below_fact hx rfl vc
    go_simp
    try rfl
  go_simp
  refine hK1 _ ?_
  clear hK1 K1
  refine wpPre_i rfl (fun K1 hK1 => ?_)
  rw [if_pos (by go_simp)]
  apply Exists.intro
  refine And.intro (fun wx hx => ?_) ?_
  · go_simp
    try rfl
  go_simp
  refine hK1 _ ?_
  clear hK1 K1
  refine wpPre_i rfl (fun K1 hK1 => ?_)
  rw [if_pos (by go_simp)]
  apply Exists.intro
  refine And.intro (fun wx hx => ?_) ?_
  · go_simp
    try rfl
  go_simp
  refine hK1 _ ?_
  clear hK1 K1
  refine wpPre_i rfl (fun K1 hK1 => ?_)
  rw [if_pos (by go_simp)]
  apply Exists.intro
  refine And.intro (fun wx hx => ?_) ?_
  · go_simp
    try rfl
  go_simp
  refine hK1 _ ?_
  clear hK1 K1
  refine wpPre_i rfl (fun K1 hK1 => ?_)
  rw [if_pos (by go_simp)]
  apply Exists.intro
  refine And.intro (fun wx hx => ?_) ?_
  · have e0 := below_fact hx rfl y2
    have e1 := below_fact hx rfl y3
    have e2 := below_fact hx rfl v0
    have e3 := below_fact hx rfl vc
    go_simp
    try rfl
  go_simp
  refine hK1 _ ?_
  clear hK1 K1
  refine wpPre_i rfl (fun K1 hK1 => ?_)
  rw [if_pos (by go_simp)]
  apply Exists.intro
  refine And.intro (fun wx hx => ?_) ?_
  · go_simp
    try rfl
  go_simp
  refine hK1 _ ?_
  clear hK1 K1
  refine wpPre_e rfl rfl (fun K1 hK1 => ?_)
  apply Exists.intro
  refine And.intro (fun wx hx => ?_) ?_
  · go_simp
    try rfl
  go_simp
  refine hK1 _ ?_
  clear hK1 K1
  refine wpPre_nil ?_
  refine wpStg_nil ?_
  obtain ⟨W1, hW1⟩ : ∃ x, x = W0.drew := ⟨_, rfl⟩
  rw [← hW1]
  have H1 : Hid (VSet W0 vb V W1 V) := by unfold Hid; rw [hW1]; exact (VSet.same HV0.out (Below.refl _ _)).drew
  have hxo := HX0.out.kept (H1.out.out HX0.out.lt HNo.out).1
  have y3 := hxo.cell 3
  have v0 := H1.out.inv.box.cell 0
  have ol := hxo.lt
  simp [Vw.arr] at y3 v0
  rw [HQ.out] at y3
  clear hW1 hxo
  go_wp2_with fail
  refine wp_region_calmD 30 (fun wx => Below W1.heap.size W1 wx) [(0, true), (1, false), (2, true), (3, true), (4, true), (5, false), (6, true)] [] (by kernel_rfl) (by kernel_rfl) (Below.refl _ _).drew ?_
  refine wpPre_e rfl rfl (fun K1 hK1 => ?_)
  apply Exists.intro
  refine And.intro (fun wx hx => ?_) ?_
  · go_simp
    try rfl
  go_simp
  refine hK1 _ ?_
  clear hK1 K1
  refine wpPre_e rfl rfl (fun K1 hK1 => ?_)
  apply Exists.intro
  refine And.intro (fun wx hx => ?_) ?_
  · have e0 := below_fact hx rfl y3
    have e1 := below_fact hx rfl v0
    go_simp
    try rfl
  go_simp
  refine hK1 _ ?_
  clear hK1 K1
  refine wpPre_e rfl rfl (fun K1 hK1 => ?_)
  apply Exists.intro
  refine And.intro (fun wx hx => ?_) ?_
  · go_simp
    try rfl
  go_simp
  refine hK1 _ ?_
  clear hK1 K1
  refine wpPre_e rfl rfl (fun K1 hK1 => ?_)
  apply Exists.intro
  refine And.intro (fun wx hx => ?_) ?_
  · go_simp
    try rfl
  go_simp
  refine hK1 _ ?_
  clear hK1 K1
  refine wpPre_e rfl rfl (fun K1 hK1 => ?_)
  apply Exists.intro
  refine And.intro (fun wx hx => ?_) ?_
  · go_simp
    try rfl
  go_simp
  refine hK1 _ ?_
  clear hK1 K1
  refine wpPre_e rfl rfl (fun K1 hK1 => ?_)
  apply Exists.intro
  refine And.intro (fun wx hx => ?_) ?_
  · have e0 := below_fact hx rfl y3
    have e1 := below_fact hx rfl v0
    go_simp
    try rfl
  go_simp
  refine hK1 _ ?_
  clear hK1 K1
  refine wpPre_e rfl rfl (fun K1 hK1 => ?_)
  apply Exists.intro
  refine And.intro (fun wx hx => ?_) ?_
  · go_simp
    try rfl
  go_simp
  refine hK1 _ ?_
  clear hK1 K1
  refine wpPre_nil ?_
  refine wpStg_nil ?_
  obtain ⟨W2, hW2⟩ : ∃ x, x = W1.drew := ⟨_, rfl⟩
  rw [← hW2]
  have H2 : Hid (VSet W0 vb V W2 V) := by unfold Hid; rw [hW2]; exact H1.out.drew
  clear hW2 y3 v0 ol H1
  obtain ⟨V1, hV1⟩ : ∃ x, x = V := ⟨_, rfl⟩
  have H3 : Hid (VSet W0 vb V W2 V1) := by unfold Hid; rw [hV1]; exact H2.out
  have hid1 := hid (show V1.id = o.id by rw [hV1]; exact HQ.out.symm)
  have hbs := hid (show V.base o.id = V1 by rw [hV1, Vw.base, if_neg (by have := HQ.out; omega)])
  have HNl : Hid ((V1.lg i).n ≤ 1000000000) := by unfold Hid; rw [hV1]; exact hnl0
  obtain ⟨W3, hW3⟩ : ∃ x, x = W2 := ⟨_, rfl⟩
  rw [← hW3] at H3 ⊢
  clear hW3 hV1 H2
  have hxo := HX0.out.kept (H3.out.out HX0.out.lt HNo.out).1
  have y2 := hxo.cell 2
  have y10 := hxo.cell 10
  have y11 := hxo.cell 11
  have y12 := hxo.cell 12
  have y13 := hxo.cell 13
  have ol := hxo.lt
  simp at y2 y10 y11 y12 y13
  rw [HP.out] at y2
  clear hxo
  obtain ⟨W8, hW8⟩ : ∃ x, x = W3 := ⟨_, rfl⟩
  rw [← hW8] at H3 y2 y10 y11 y12 y13 ol ⊢
  have H8 := H3
  clear hW8
  go_wp2_with fail
  have vI := H8.out.inv
  have cc := vI.cs hi
  have gc := vI.box.frozen (5 + i)
  have vl := vI.box.lt
  refine wp_region_calmE 30 (fun wx => Below W8.heap.size W8 wx) [(0, true), (1, true), (2, false), (3, true), (4, true), (5, true)] (.one 6 false [] .done) (by kernel_rfl) (by kernel_rfl) (Below.refl _ _).drew ?_
  refine wpPre_e rfl rfl (fun K1 hK1 => ?_)
  apply Exists.intro
  refine And.intro (fun wx hx => ?_) ?_
  · go_simp
    try rfl
  go_simp
  refine hK1 _ ?_
  clear hK1 K1
  refine wpPre_e rfl rfl (fun K1 hK1 => ?_)
  apply Exists.intro
  refine And.intro (fun wx hx => ?_) ?_
  · go_simp
    try rfl
  go_simp
  refine hK1 _ ?_
  clear hK1 K1
  refine wpPre_e rfl rfl (fun K1 hK1 => ?_)
  apply Exists.intro
  refine And.intro (fun wx hx => ?_) ?_
  · have e0 := below_fact hx rfl y2
    go_simp
    try rfl
  go_simp
  refine hK1 _ ?_
  clear hK1 K1
  refine wpPre_e rfl rfl (fun K1 hK1 => ?_)
  apply Exists.intro
  refine And.intro (fun wx hx => ?_) ?_
  · go_simp
    try rfl
  go_simp
  refine hK1 _ ?_
  clear hK1 K1
  refine wpPre_e rfl rfl (fun K1 hK1 => ?_)
  apply Exists.intro
  refine And.intro (fun wx hx => ?_) ?_
  · go_simp
    try rfl
  go_simp
  refine hK1 _ ?_
  clear hK1 K1
  refine wpPre_e rfl rfl (fun K1 hK1 => ?_)
  apply Exists.intro
  refine And.intro (fun wx hx => ?_) ?_
  · go_simp
    try rfl
  go_simp
  refine hK1 _ ?_
  clear hK1 K1
  refine wpPre_nil ?_
  refine wpTr_e rfl (fun K1 hK1 => ?_)
  go_simp
  refine hK1 _ _ (fun h => by cases h) ?_
  clear hK1 K1
  refine wpPre_nil ?_
  refine wpTr_done ?_
  obtain ⟨W9, hW9⟩ : ∃ x, x = (W8.setCell ⟨vb, 5 + i, none⟩ (.bool true)).drew := ⟨_, rfl⟩
  rw [← hW9]
  have hs9 : VSet W8 vb (V1) W9 ((V1).close i) := by
    rw [hW9]
    exact (vI.close hi (Below.refl _ _)).drew
  have H9 := hid (H8.out.trans hs9)
  clear hW9 hs9 cc gc vI vl
  clear y2 y10 y11 y12 y13 ol
  go_wp2_with fail
  go_end0
  refine ⟨rfl, (V1).close i, (VSet.same hV HB0.out).trans H9.out, fun h => (by rw [hsk.out] at h; cases h), fun _ => hid1.out, fun _ => (by rw [hbs.out]; try simp [Vw.close]), fun _ => (by rw [hbs.out]; try rfl), fun _ => (by rw [hbs.out]; try rfl), fun _ j _ => (by rw [hbs.out]; try rfl), fun _ _ => (by rw [hbs.out]; try rfl), fun _ h => absurd h hm3, fun _ h => (by cases h), fun _ _ => (by rw [hbs.out]; exact ⟨rfl, rfl, rfl⟩)⟩
end Go.Proofs.Ytdncnnjhfipokaa
