import Derived.Test.YtdncnnjhfipokaaPack26
namespace Go.Proofs.Ytdncnnjhfipokaa
open Go.RowKit
set_option maxRecDepth 8000
set_option maxHeartbeats 8000000 in
theorem copies_c0 (o : OpT) (mode : Int) (N : Nat) (back : Int) (i : Nat) (hi : i < 4) (hpi : o.port = (i : Int)) (_hN : N ≤ 4) (w : World) (vb : Nat) (V : Vw) (hV : VwI w vb V) (heq : o.id = V.id) (hcp : V.cp = false) (hcd0 : V.cd i = false) (hm : mode ≠ 1) :
    Calls Try.prog 20 #[.pointer (some ⟨vb, 0, none⟩), .agg #[.int .i64 o.kind, .int .i64 o.which, .int .i64 o.port, .int .i64 o.id, .string o.r.key, .int .i64 o.r.v.kind, .int .i64 o.r.v.int, .string o.r.v.text, .slice o.r.v.p o.r.v.n o.r.v.c, .slice o.r.p o.r.n o.r.c, .slice o.a.p o.a.n o.a.c, .slice o.q.p o.q.n o.q.c, .int .i64 o.num, .slice o.l.p o.l.n o.l.c], .int .i64 mode, .int .i64 (N : Int), .int .i64 back] w fun e w' => e = .returned (.bool (V.copiesB o mode N back i)) ∧ Below w.heap.size w w' := by
  have HP := hid hpi
  clear hpi
  obtain ⟨W0, hW0⟩ : ∃ x, x = w.alloc (.cells #[.int .i64 o.kind, .int .i64 o.which, .int .i64 o.port, .int .i64 o.id, .string o.r.key, .int .i64 o.r.v.kind, .int .i64 o.r.v.int, .string o.r.v.text, .slice o.r.v.p o.r.v.n o.r.v.c, .slice o.r.p o.r.n o.r.c, .slice o.a.p o.a.n o.a.c, .slice o.q.p o.q.n o.q.c, .int .i64 o.num, .slice o.l.p o.l.n o.l.c] 42) := ⟨_, rfl⟩
  have hB0 : Below w.heap.size w W0 := by rw [hW0]; exact (Below.refl _ _).alloc (Nat.le_refl _) _
  have hX0 : Box W0 w.heap.size #[.int .i64 o.kind, .int .i64 o.which, .int .i64 o.port, .int .i64 o.id, .string o.r.key, .int .i64 o.r.v.kind, .int .i64 o.r.v.int, .string o.r.v.text, .slice o.r.v.p o.r.v.n o.r.v.c, .slice o.r.p o.r.n o.r.c, .slice o.a.p o.a.n o.a.c, .slice o.q.p o.q.n o.q.c, .int .i64 o.num, .slice o.l.p o.l.n o.l.c] 42 := by rw [hW0]; exact Box.new _ _ _
  have HB0 := hid hB0
  have HX0 := hid hX0
  have HV0 := hid (hV.below hB0)
  have y2 := hX0.cell 2
  have y3 := hX0.cell 3
  have v0 := HV0.out.box.cell 0
  have v1 := HV0.out.box.cell 1
  have vc := HV0.out.cs hi
  have ol := hX0.lt
  have vl0 := HV0.out.box.lt
  have hi4 : (i : Int) < 4 := by omega
  simp [Vw.arr] at y2 y3 v0 v1
  rw [HP.out] at y2
  clear hB0 hX0
  rw [hcp] at v1
  rw [hcd0] at vc
  rw [heq] at y3
  have HR : Hid (V.copiesB o mode N back i = true) := by unfold Hid; simp [Vw.copiesB, heq, hcp, hcd0, hm]
  have HQ := hid heq
  clear heq
  have hm' : (mode != 1) = true := by simp [hm]
  go_enter Try.func20, Try.ntmps20
  go_wp2_with fail
  rw [← hW0]
  clear hW0
  refine wp_region_calmD 30 (fun wx => Below W0.heap.size W0 wx) [(0, true), (1, false), (2, true), (3, true), (4, true), (5, false), (6, true), (7, true), (8, true), (9, false), (10, true), (11, true), (12, true), (13, false), (14, true), (15, true), (16, true), (17, true), (18, true), (19, false), (20, true), (21, true), (22, true), (23, false), (24, true), (25, true), (26, true), (27, false), (28, true), (29, true), (30, true)] [] (by kernel_rfl) (by kernel_rfl) (Below.refl _ _).drew ?_
  refine wpPre_e rfl rfl (fun K1 hK1 => ?_)
  apply Exists.intro
  refine And.intro (fun wx hx => ?_) ?_
  · go_simp
    try rfl
  go_simp
  refine hK1 _ ?_
  clear hK1 K1
  refine wpPre_e rfl rfl (fun K1 hK1 => ?_)
  apply Exists.intro
  refine And.intro (fun wx hx => ?_) ?_
  · have e0 := below_fact hx rfl y2
    have e1 := below_fact hx rfl y3
    have e2 := below_fact hx rfl v0
    have e3 := below_fact hx rfl v1
    have e4 := below_fact hx rfl vc
    go_simp
    try rfl
  go_simp
  refine hK1 _ ?_
  clear hK1 K1
  refine wpPre_e rfl rfl (fun K1 hK1 => ?_)
  apply Exists.intro
  refine And.intro (fun wx hx => ?_) ?_
  · go_simp
    try rfl
  go_simp
  refine hK1 _ ?_
  clear hK1 K1
  refine wpPre_e rfl rfl (fun K1 hK1 => ?_)
  apply Exists.intro
  refine And.intro (fun wx hx => ?_) ?_
  · go_simp
    try rfl
  go_simp
  refine hK1 _ ?_
  clear hK1 K1
  refine wpPre_e rfl rfl (fun K1 hK1 => ?_)
  apply Exists.intro
  refine And.intro (fun wx hx => ?_) ?_
  · go_simp
    try rfl
  go_simp
  refine hK1 _ ?_
  clear hK1 K1
  refine wpPre_e rfl rfl (fun K1 hK1 => ?_)
  apply Exists.intro
  refine And.intro (fun wx hx => ?_) ?_
  · have e0 := below_fact hx rfl y2
    have e1 := below_fact hx rfl y3
    have e2 := below_fact hx rfl v0
    have e3 := below_fact hx rfl v1
    have e4 := below_fact hx rfl vc
    go_simp
    try rfl
  go_simp
  refine hK1 _ ?_
  clear hK1 K1
  refine wpPre_e rfl rfl (fun K1 hK1 => ?_)
  apply Exists.intro
  refine And.intro (fun wx hx => ?_) ?_
  · go_simp
    try rfl
  go_simp
  refine hK1 _ ?_
  clear hK1 K1
  refine wpPre_e rfl rfl (fun K1 hK1 => ?_)
  apply Exists.intro
  refine And.intro (fun wx hx => ?_) ?_
  · go_simp
    try rfl
  go_simp
  refine hK1 _ ?_
  clear hK1 K1
  refine wpPre_i rfl (fun K1 hK1 => ?_)
  rw [if_pos (by go_simp)]
  apply Exists.intro
  refine And.intro (fun wx hx => ?_) ?_
  · go_simp
    try rfl
  go_simp
  refine hK1 _ ?_
  clear hK1 K1
  refine wpPre_i rfl (fun K1 hK1 => ?_)
  rw [if_pos (by go_simp)]
  apply Exists.intro
  refine And.intro (fun wx hx => ?_) ?_
  · have e0 := below_fact hx rfl y2
    have e1 := below_fact hx rfl y3
    have e2 := below_fact hx rfl v0
    have e3 := below_fact hx rfl v1
    have e4 := below_fact hx rfl vc
    go_simp
    try rfl
  go_simp
  refine hK1 _ ?_
  clear hK1 K1
  refine wpPre_i rfl (fun K1 hK1 => ?_)
  rw [if_pos (by go_simp)]
  apply Exists.intro
  refine And.intro (fun wx hx => ?_) ?_
  · go_simp
    try rfl
  go_simp
  refine hK1 _ ?_
  clear hK1 K1
  refine wpPre_i rfl (fun K1 hK1 => ?_)
  rw [if_pos (by go_simp)]
  apply Exists.intro
  refine And.intro (fun wx hx => ?_) ?_
  · go_simp
    try rfl
  go_simp
  refine hK1 _ ?_
  clear hK1 K1
  refine wpPre_i rfl (fun K1 hK1 => ?_)
  rw [if_pos (by go_simp)]
  apply Exists.intro
  refine And.intro (fun wx hx => ?_) ?_
  · go_simp
    try rfl
  go_simp
  refine hK1 _ ?_
  clear hK1 K1
  refine wpPre_i rfl (fun K1 hK1 => ?_)
  rw [if_pos (by go_simp)]
  apply Exists.intro
  refine And.intro (fun wx hx => ?_) ?_
  · have e0 := below_fact hx rfl y2
    have e1 := below_fact hx rfl y3
    have e2 := below_fact hx rfl v0
    have e3 := below_fact hx rfl v1
    have e4 := below_fact hx rfl vc
    go_simp
    try rfl
  go_simp
  refine hK1 _ ?_
  clear hK1 K1
  refine wpPre_i rfl (fun K1 hK1 => ?_)
  rw [if_pos (by go_simp)]
  apply Exists.intro
  refine And.intro (fun wx hx => ?_) ?_
  · go_simp
    try rfl
  go_simp
  refine hK1 _ ?_
  clear hK1 K1
  refine wpPre_i rfl (fun K1 hK1 => ?_)
  rw [if_pos (by go_simp)]
  apply Exists.intro
  refine And.intro (fun wx hx => ?_) ?_
  · go_simp
    try rfl
  go_simp
  refine hK1 _ ?_
  clear hK1 K1
  refine wpPre_i rfl (fun K1 hK1 => ?_)
  rw [if_pos (by go_simp)]
  apply Exists.intro
  refine And.intro (fun wx hx => ?_) ?_
  · go_simp
    try rfl
  go_simp
  refine hK1 _ ?_
  clear hK1 K1
  refine wpPre_i rfl (fun K1 hK1 => ?_)
  rw [if_pos (by go_simp)]
  apply Exists.intro
  refine And.intro (fun wx hx => ?_) ?_
  · go_simp
    try rfl
  go_simp
  refine hK1 _ ?_
  clear hK1 K1
  refine wpPre_i rfl (fun K1 hK1 => ?_)
  rw [if_pos (by go_simp)]
  apply Exists.intro
  refine And.intro (fun wx hx => ?_) ?_
  · go_simp
    try rfl
  go_simp
  refine hK1 _ ?_
  clear hK1 K1
  refine wpPre_i rfl (fun K1 hK1 => ?_)
  rw [if_pos (by go_simp)]
  apply Exists.intro
  refine And.intro (fun wx hx => ?_) ?_
  · have e0 := below_fact hx rfl y2
    have e1 := below_fact hx rfl y3
    have e2 := below_fact hx rfl v0
    have e3 := below_fact hx rfl v1
    have e4 := below_fact hx rfl vc
    go_simp
    try rfl
  go_simp
  refine hK1 _ ?_
  clear hK1 K1
  refine wpPre_i rfl (fun K1 hK1 => ?_)
  rw [if_pos (by go_simp)]
  apply Exists.intro
  refine And.intro (fun wx hx => ?_) ?_
  · go_simp
    try rfl
  go_simp
  refine hK1 _ ?_
  clear hK1 K1
  refine wpPre_i rfl (fun K1 hK1 => ?_)
  rw [if_pos (by go_simp)]
  apply Exists.intro
  refine And.intro (fun wx hx => ?_) ?_
  · go_simp
    try rfl
  go_simp
  refine hK1 _ ?_
  clear hK1 K1
  refine wpPre_i rfl (fun K1 hK1 => ?_)
  rw [if_pos (by go_simp)]
  apply Exists.intro
  refine And.intro (fun wx hx => ?_) ?_
  · go_simp
    try rfl
  go_simp
  refine hK1 _ ?_
  clear hK1 K1
  refine wpPre_i rfl (fun K1 hK1 => ?_)
  rw [if_pos (by go_simp)]
  apply Exists.intro
  refine And.intro (fun wx hx => ?_) ?_
  · have e0 := below_fact hx rfl y2
    have e1 := below_fact hx rfl y3
    have e2 := below_fact hx rfl v0
    have e3 := below_fact hx rfl v1
    have e4 := below_fact hx rfl vc
    go_simp
    try rfl
  go_simp
  refine hK1 _ ?_
  clear hK1 K1
  refine wpPre_i rfl (fun K1 hK1 => ?_)
  rw [if_pos (by go_simp)]
  apply Exists.intro
  refine And.intro (fun wx hx => ?_) ?_
  · go_simp
    try rfl
  go_simp
  refine hK1 _ ?_
  clear hK1 K1
  refine wpPre_i rfl (fun K1 hK1 => ?_)
  rw [if_pos (by go_simp)]
  apply Exists.intro
  refine And.intro (fun wx hx => ?_) ?_
  · go_simp
    try rfl
  go_simp
  refine hK1 _ ?_
  clear hK1 K1
  refine wpPre_i rfl (fun K1 hK1 => ?_)
  rw [if_pos (by go_simp)]
  apply Exists.intro
  refine And.intro (fun wx hx => ?_) ?_
  · go_simp
    try rfl
  go_simp
  refine hK1 _ ?_
  clear hK1 K1
  refine wpPre_i rfl (fun K1 hK1 => ?_)
  rw [if_pos (by go_simp)]
  apply Exists.intro
  refine And.intro (fun wx hx => ?_) ?_
  · have e0 := below_fact hx rfl y2
    have e1 := below_fact hx rfl y3
    have e2 := below_fact hx rfl v0
    have e3 := below_fact hx rfl v1
    have e4 := below_fact hx rfl vc
    go_simp
    try rfl
  go_simp
  refine hK1 _ ?_
  clear hK1 K1
  refine wpPre_i rfl (fun K1 hK1 => ?_)
  rw [if_pos (by go_simp)]
  apply Exists.intro
  refine And.intro (fun wx hx => ?_) ?_
  · go_simp
    try rfl
  go_simp
  refine hK1 _ ?_
  clear hK1 K1
  refine wpPre_i rfl (fun K1 hK1 => ?_)
  rw [if_pos (by go_simp)]
  apply Exists.intro
  refine And.intro (fun wx hx => ?_) ?_
  · go_simp
    try rfl
  go_simp
  refine hK1 _ ?_
  clear hK1 K1
  refine wpPre_e rfl rfl (fun K1 hK1 => ?_)
  apply Exists.intro
  refine And.intro (fun wx hx => ?_) ?_
  · go_simp
    try rfl
  go_simp
  refine hK1 _ ?_
  clear hK1 K1
  refine wpPre_nil ?_
  refine wpStg_nil ?_
  go_wp2
  refine bodyPost_ret (v := .bool true) (by simp [results, Try.results20, go_sem]) rfl ⟨by rw [HR.out], HB0.out.drew⟩
set_option maxHeartbeats 8000000 in
theorem copies_c1 (o : OpT) (mode : Int) (N : Nat) (back : Int) (i : Nat) (hi : i < 4) (hpi : o.port = (i : Int)) (hN : N ≤ 4) (w : World) (vb : Nat) (V : Vw) (hV : VwI w vb V) (heq : o.id = V.id) (hcp : V.cp = false) (hcd0 : V.cd i = false) (hm : mode = 1) :
    Calls Try.prog 20 #[.pointer (some ⟨vb, 0, none⟩), .agg #[.int .i64 o.kind, .int .i64 o.which, .int .i64 o.port, .int .i64 o.id, .string o.r.key, .int .i64 o.r.v.kind, .int .i64 o.r.v.int, .string o.r.v.text, .slice o.r.v.p o.r.v.n o.r.v.c, .slice o.r.p o.r.n o.r.c, .slice o.a.p o.a.n o.a.c, .slice o.q.p o.q.n o.q.c, .int .i64 o.num, .slice o.l.p o.l.n o.l.c], .int .i64 mode, .int .i64 (N : Int), .int .i64 back] w fun e w' => e = .returned (.bool (V.copiesB o mode N back i)) ∧ Below w.heap.size w w' := by
  have HP := hid hpi
  clear hpi
  obtain ⟨W0, hW0⟩ : ∃ x, x = w.alloc (.cells #[.int .i64 o.kind, .int .i64 o.which, .int .i64 o.port, .int .i64 o.id, .string o.r.key, .int .i64 o.r.v.kind, .int .i64 o.r.v.int, .string o.r.v.text, .slice o.r.v.p o.r.v.n o.r.v.c, .slice o.r.p o.r.n o.r.c, .slice o.a.p o.a.n o.a.c, .slice o.q.p o.q.n o.q.c, .int .i64 o.num, .slice o.l.p o.l.n o.l.c] 42) := ⟨_, rfl⟩
  have hB0 : Below w.heap.size w W0 := by rw [hW0]; exact (Below.refl _ _).alloc (Nat.le_refl _) _
  have hX0 : Box W0 w.heap.size #[.int .i64 o.kind, .int .i64 o.which, .int .i64 o.port, .int .i64 o.id, .string o.r.key, .int .i64 o.r.v.kind, .int .i64 o.r.v.int, .string o.r.v.text, .slice o.r.v.p o.r.v.n o.r.v.c, .slice o.r.p o.r.n o.r.c, .slice o.a.p o.a.n o.a.c, .slice o.q.p o.q.n o.q.c, .int .i64 o.num, .slice o.l.p o.l.n o.l.c] 42 := by rw [hW0]; exact Box.new _ _ _
  have HB0 := hid hB0
  have HX0 := hid hX0
  have HV0 := hid (hV.below hB0)
  have y2 := hX0.cell 2
  have y3 := hX0.cell 3
  have v0 := HV0.out.box.cell 0
  have v1 := HV0.out.box.cell 1
  have vc := HV0.out.cs hi
  have ol := hX0.lt
  have vl0 := HV0.out.box.lt
  have hi4 : (i : Int) < 4 := by omega
  simp [Vw.arr] at y2 y3 v0 v1
  rw [HP.out] at y2
  clear hB0 hX0
  subst hm
  rw [hcp] at v1
  rw [hcd0] at vc
  rw [heq] at y3
  have HR : Hid (V.copiesB o 1 N back i = (List.range N).all fun p => V.okC o back i p) := by unfold Hid; simp [Vw.copiesB, heq, hcp, hcd0]
  have HQ := hid heq
  clear heq
  go_enter Try.func20, Try.ntmps20
  go_wp2_with fail
  rw [← hW0]
  clear hW0
  refine wp_region_calmD 30 (fun wx => Below W0.heap.size W0 wx) [(0, true), (1, false), (2, true), (3, true), (4, true), (5, false), (6, true), (7, true), (8, true), (9, false), (10, true), (11, true), (12, true), (13, false), (14, true), (15, true), (16, true), (17, true), (18, true), (19, false), (20, true), (21, true), (22, true), (23, false), (24, true), (25, true), (26, true), (27, false), (28, true), (29, true), (30, true)] [] (by kernel_rfl) (by kernel_rfl) (Below.refl _ _).drew ?_
  refine wpPre_e rfl rfl (fun K1 hK1 => ?_)
  apply Exists.intro
  refine And.intro (fun wx hx => ?_) ?_
  · go_simp
    try rfl
  go_simp
  refine hK1 _ ?_
  clear hK1 K1
  refine wpPre_e rfl rfl (fun K1 hK1 => ?_)
  apply Exists.intro
  refine And.intro (fun wx hx => ?_) ?_
  · have e0 := below_fact hx rfl y2
    have e1 := below_fact hx rfl y3
    have e2 := below_fact hx rfl v0
    have e3 := below_fact hx rfl v1
    have e4 := below_fact hx rfl vc
    go_simp
    try rfl
  go_simp
  refine hK1 _ ?_
  clear hK1 K1
  refine wpPre_e rfl rfl (fun K1 hK1 => ?_)
  apply Exists.intro
  refine And.intro (fun wx hx => ?_) ?_
  · go_simp
    try rfl
  go_simp
  refine hK1 _ ?_
  clear hK1 K1
  refine wpPre_e rfl rfl (fun K1 hK1 => ?_)
  apply Exists.intro
  refine And.intro (fun wx hx => ?_) ?_
  · go_simp
    try rfl
  go_simp
  refine hK1 _ ?_
  clear hK1 K1
  refine wpPre_e rfl rfl (fun K1 hK1 => ?_)
  apply Exists.intro
  refine And.intro (fun wx hx => ?_) ?_
  · go_simp
    try rfl
  go_simp
  refine hK1 _ ?_
  clear hK1 K1
  refine wpPre_e rfl rfl (fun K1 hK1 => ?_)
  apply Exists.intro
  refine And.intro (fun wx hx => ?_) ?_
  · have e0 := below_fact hx rfl y2
    have e1 := below_fact hx rfl y3
    have e2 := below_fact hx rfl v0
    have e3 := below_fact hx rfl v1
    have e4 := below_fact hx rfl vc
    go_simp
    try rfl
  go_simp
  refine hK1 _ ?_
  clear hK1 K1
  refine wpPre_e rfl rfl (fun K1 hK1 => ?_)
  apply Exists.intro
  refine And.intro (fun wx hx => ?_) ?_
  · go_simp
    try rfl
  go_simp
  refine hK1 _ ?_
  clear hK1 K1
  refine wpPre_e rfl rfl (fun K1 hK1 => ?_)
  apply Exists.intro
  refine And.intro (fun wx hx => ?_) ?_
  · go_simp
    try rfl
  go_simp
  refine hK1 _ ?_
  clear hK1 K1
  refine wpPre_i rfl (fun K1 hK1 => ?_)
  rw [if_pos (by go_simp)]
  apply Exists.intro
  refine And.intro (fun wx hx => ?_) ?_
  · go_simp
    try rfl
  go_simp
  refine hK1 _ ?_
  clear hK1 K1
  refine wpPre_i rfl (fun K1 hK1 => ?_)
  rw [if_pos (by go_simp)]
  apply Exists.intro
  refine And.intro (fun wx hx => ?_) ?_
  · have e0 := below_fact hx rfl y2
    have e1 := below_fact hx rfl y3
    have e2 := below_fact hx rfl v0
    have e3 := below_fact hx rfl v1
    have e4 := below_fact hx rfl vc
    go_simp
    try rfl
  go_simp
  refine hK1 _ ?_
  clear hK1 K1
  refine wpPre_i rfl (fun K1 hK1 => ?_)
  rw [if_pos (by go_simp)]
  apply Exists.intro
  refine And.intro (fun wx hx => ?_) ?_
  · go_simp
    try rfl
  go_simp
  refine hK1 _ ?_
  clear hK1 K1
  refine wpPre_i rfl (fun K1 hK1 => ?_)
  rw [if_pos (by go_simp)]
  apply Exists.intro
  refine And.intro (fun wx hx => ?_) ?_
  · go_simp
    try rfl
  go_simp
  refine hK1 _ ?_
  clear hK1 K1
  refine wpPre_i rfl (fun K1 hK1 => ?_)
  rw [if_pos (by go_simp)]
  apply Exists.intro
  refine And.intro (fun wx hx => ?_) ?_
  · go_simp
    try rfl
  go_simp
  refine hK1 _ ?_
  clear hK1 K1
  refine wpPre_i rfl (fun K1 hK1 => ?_)
  rw [if_pos (by go_simp)]
  apply Exists.intro
  refine And.intro (fun wx hx => ?_) ?_
  · have e0 := below_fact hx rfl y2
    have e1 := below_fact hx rfl y3
    have e2 := below_fact hx rfl v0
    have e3 := below_fact hx rfl v1
    have e4 := below_fact hx rfl vc
    go_simp
    try rfl
  go_simp
  refine hK1 _ ?_
  clear hK1 K1
  refine wpPre_i rfl (fun K1 hK1 => ?_)
  rw [if_pos (by go_simp)]
  apply Exists.intro
  refine And.intro (fun wx hx => ?_) ?_
  · go_simp
    try rfl
  go_simp
  refine hK1 _ ?_
  clear hK1 K1
  refine wpPre_i rfl (fun K1 hK1 => ?_)
  rw [if_pos (by go_simp)]
  apply Exists.intro
  refine And.intro (fun wx hx => ?_) ?_
  · go_simp
    try rfl
  go_simp
  refine hK1 _ ?_
  clear hK1 K1
  refine wpPre_i rfl (fun K1 hK1 => ?_)
  rw [if_pos (by go_simp)]
  apply Exists.intro
  refine And.intro (fun wx hx => ?_) ?_
  · go_simp
    try rfl
  go_simp
  refine hK1 _ ?_
  clear hK1 K1
  refine wpPre_i rfl (fun K1 hK1 => ?_)
  rw [if_pos (by go_simp)]
  apply Exists.intro
  refine And.intro (fun wx hx => ?_) ?_
  · go_simp
    try rfl
  go_simp
  refine hK1 _ ?_
  clear hK1 K1
  refine wpPre_i rfl (fun K1 hK1 => ?_)
  rw [if_pos (by go_simp)]
  apply Exists.intro
  refine And.intro (fun wx hx => ?_) ?_
  · go_simp
    try rfl
  go_simp
  refine hK1 _ ?_
  clear hK1 K1
  refine wpPre_i rfl (fun K1 hK1 => ?_)
  rw [if_pos (by go_simp)]
  apply Exists.intro
  refine And.intro (fun wx hx => ?_) ?_
  · have e0 := below_fact hx rfl y2
    have e1 := below_fact hx rfl y3
    have e2 := below_fact hx rfl v0
    have e3 := below_fact hx rfl v1
    have e4 := below_fact hx rfl vc
    go_simp
    try rfl
  go_simp
  refine hK1 _ ?_
  clear hK1 K1
  refine wpPre_i rfl (fun K1 hK1 => ?_)
  rw [if_pos (by go_simp)]
  apply Exists.intro
  refine And.intro (fun wx hx => ?_) ?_
  · go_simp
    try rfl
  go_simp
  refine hK1 _ ?_
  clear hK1 K1
  refine wpPre_i rfl (fun K1 hK1 => ?_)
  rw [if_pos (by go_simp)]
  apply Exists.intro
  refine And.intro (fun wx hx => ?_) ?_
  · go_simp
    try rfl
  go_simp
  refine hK1 _ ?_
  clear hK1 K1
  refine wpPre_i rfl (fun K1 hK1 => ?_)
  rw [if_pos (by go_simp)]
  apply Exists.intro
  refine And.intro (fun wx hx => ?_) ?_
  · go_simp
    try rfl
  go_simp
  refine hK1 _ ?_
  clear hK1 K1
  refine wpPre_i rfl (fun K1 hK1 => ?_)
  rw [if_pos (by go_simp)]
  apply Exists.intro
  refine And.intro (fun wx hx => ?_) ?_
  · have e0 := below_fact hx rfl y2
    have e1 := below_fact hx rfl y3
    have e2 := below_fact hx rfl v0
    have e3 := below_fact hx rfl v1
    have e4 := below_fact hx rfl vc
    go_simp
    try rfl
  go_simp
  refine hK1 _ ?_
  clear hK1 K1
  refine wpPre_i rfl (fun K1 hK1 => ?_)
  rw [if_pos (by go_simp)]
  apply Exists.intro
  refine And.intro (fun wx hx => ?_) ?_
  · go_simp
    try rfl
  go_simp
  refine hK1 _ ?_
  clear hK1 K1
  refine wpPre_i rfl (fun K1 hK1 => ?_)
  rw [if_pos (by go_simp)]
  apply Exists.intro
  refine And.intro (fun wx hx => ?_) ?_
  · go_simp
    try rfl
  go_simp
  refine hK1 _ ?_
  clear hK1 K1
  refine wpPre_i rfl (fun K1 hK1 => ?_)
  rw [if_pos (by go_simp)]
  apply Exists.intro
  refine And.intro (fun wx hx => ?_) ?_
  · go_simp
    try rfl
  go_simp
  refine hK1 _ ?_
  clear hK1 K1
  refine wpPre_i rfl (fun K1 hK1 => ?_)
  rw [if_pos (by go_simp)]
  apply Exists.intro
  refine And.intro (fun wx hx => ?_) ?_
  · have e0 := below_fact hx rfl y2
    have e1 := below_fact hx rfl y3
    have e2 := below_fact hx rfl v0
    have e3 := below_fact hx rfl v1
    have e4 := below_fact hx rfl vc
    go_simp
    try rfl
  go_simp
  refine hK1 _ ?_
  clear hK1 K1
  refine wpPre_i rfl (fun K1 hK1 => ?_)
  rw [if_pos (by go_simp)]
  apply Exists.intro
  refine And.intro (fun wx hx => ?_) ?_
  · go_simp
    try rfl
  go_simp
  refine hK1 _ ?_
  clear hK1 K1
  refine wpPre_i rfl (fun K1 hK1 => ?_)
  rw [if_pos (by go_simp)]
  apply Exists.intro
  refine And.intro (fun wx hx => ?_) ?_
  · go_simp
    try rfl
  go_simp
  refine hK1 _ ?_
  clear hK1 K1
  refine wpPre_e rfl rfl (fun K1 hK1 => ?_)
  apply Exists.intro
  refine And.intro (fun wx hx => ?_) ?_
  · go_simp
    try rfl
  go_simp
  refine hK1 _ ?_
  clear hK1 K1
  refine wpPre_nil ?_
  refine wpStg_nil ?_
  go_wp2_with fail
  go_loopw [11] (fun x wr => ∃ k : Nat, k ≤ N ∧ x = .int .i64 (k : Int) ∧ VwI wr vb V ∧ Box wr w.heap.size #[.int .i64 o.kind, .int .i64 o.which, .int .i64 o.port, .int .i64 o.id, .string o.r.key, .int .i64 o.r.v.kind, .int .i64 o.r.v.int, .string o.r.v.text, .slice o.r.v.p o.r.v.n o.r.v.c, .slice o.r.p o.r.n o.r.c, .slice o.a.p o.a.n o.a.c, .slice o.q.p o.q.n o.q.c, .int .i64 o.num, .slice o.l.p o.l.n o.l.c] 42 ∧ Below w.heap.size w wr ∧ ∀ p, p < k → V.okC o back i p = true) (fun x _ => N - (intOf x).toNat)
  case atStart => exact ⟨0, Nat.zero_le _, rfl, HV0.out.below (Below.refl _ _).drew, HX0.out.below (Below.refl _ _).drew, HB0.out.drew, fun p hp => absurd hp (by omega)⟩
  case round =>
    obtain ⟨k, hk, rfl, i1, i2, i3, hok⟩ := hrel
    have HV1 := hid i1
    have HX1 := hid i2
    have HB1 := hid i3
    have HOk := hid hok
    have y2 := i2.cell 2
    have y3 := i2.cell 3
    have v0 := i1.box.cell 0
    have ol1 := i2.lt
    have vl1 := i1.box.lt
    simp [Vw.arr] at y2 y3 v0
    rw [HP.out] at y2
    rw [HQ.out] at y3
    clear i2 i3 hok
    by_cases hlt : k < N
    rotate_left
    · obtain rfl : k = N := by omega
      have hlt' : ¬ (k : Int) < (k : Int) := by omega
      clear i1
      have hall : ((List.range k).all fun p => V.okC o back i p) = true := by rw [List.all_eq_true]; intro p hp; exact HOk.out p (List.mem_range.1 hp)
      have HR2 := hid (HR.out.trans hall)
      go_wp2
      exact bodyPost_ret (v := .bool true) (by simp [results, Try.results20, go_sem]) rfl ⟨by rw [HR2.out], HB1.out⟩
    have hlt' : (k : Int) < (N : Int) := by omega
    have hk4 : (k : Int) < 4 := by omega
    have cp := i1.cs (i := k) (by omega)
    clear i1
    by_cases hki : k = i
    · have HK := hid hki
      have hki' : ((k : Int) == (i : Int)) = true := by simp [hki]
      clear hki
      go_wp2_with fail
      refine wp_region_calmD 30 (fun wx => Below wr.heap.size wr wx) [(0, true), (1, true), (2, false), (3, true), (4, true), (5, true), (6, false), (7, true), (8, true), (9, true), (10, false), (11, true), (12, true), (13, true), (14, true), (15, true), (16, true), (17, true), (18, false), (19, true), (20, true), (21, true)] [] (by kernel_rfl) (by kernel_rfl) (Below.refl _ _).drew ?_
      refine wpPre_e rfl rfl (fun K1 hK1 => ?_)
      apply Exists.intro
      refine And.intro (fun wx hx => ?_) ?_
      · go_simp
        try rfl
      go_simp
      refine hK1 _ ?_
      clear hK1 K1
      refine wpPre_e rfl rfl (fun K1 hK1 => ?_)
      apply Exists.intro
      refine And.intro (fun wx hx => ?_) ?_
      · go_simp
        try rfl
      go_simp
      refine hK1 _ ?_
      clear hK1 K1
      refine wpPre_e rfl rfl (fun K1 hK1 => ?_)
      apply Exists.intro
      refine And.intro (fun wx hx => ?_) ?_
      · have e0 := below_fact hx rfl y2
        have e1 := below_fact hx rfl y3
        have e2 := below_fact hx rfl v0
        have e3 := below_fact hx rfl cp
        go_simp
        try rfl
      go_simp
      refine hK1 _ ?_
      clear hK1 K1
      refine wpPre_e rfl rfl (fun K1 hK1 => ?_)
      apply Exists.intro
      refine And.intro (fun wx hx => ?_) ?_
      · go_simp
        try rfl
      go_simp
      refine hK1 _ ?_
      clear hK1 K1
      refine wpPre_e rfl rfl (fun K1 hK1 => ?_)
      apply Exists.intro
      refine And.intro (fun wx hx => ?_) ?_
      · go_simp
        try rfl
      go_simp
      refine hK1 _ ?_
      clear hK1 K1
      refine wpPre_i rfl (fun K1 hK1 => ?_)
      rw [if_neg (by go_simp; all_goals (intro h; cases h))]
      go_simp
      refine hK1 _ ?_
      clear hK1 K1
      refine wpPre_i rfl (fun K1 hK1 => ?_)
      rw [if_neg (by go_simp; all_goals (intro h; cases h))]
      go_simp
      refine hK1 _ ?_
      clear hK1 K1
      refine wpPre_i rfl (fun K1 hK1 => ?_)
      rw [if_neg (by go_simp; all_goals (intro h; cases h))]
      go_simp
      refine hK1 _ ?_
      clear hK1 K1
      refine wpPre_i rfl (fun K1 hK1 => ?_)
      rw [if_neg (by go_simp; all_goals (intro h; cases h))]
      go_simp
      refine hK1 _ ?_
      clear hK1 K1
      refine wpPre_i rfl (fun K1 hK1 => ?_)
      rw [if_neg (by go_simp; all_goals (intro h; cases h))]
      go_simp
      refine hK1 _ ?_
      clear hK1 K1
      refine wpPre_i rfl (fun K1 hK1 => ?_)
      rw [if_neg (by go_simp; all_goals (intro h; cases h))]
      go_simp
      refine hK1 _ ?_
      clear hK1 K1
      refine wpPre_i rfl (fun K1 hK1 => ?_)
      rw [if_neg (by go_simp; all_goals (intro h; cases h))]
      go_simp
      refine hK1 _ ?_
      clear hK1 K1
      refine wpPre_i rfl (fun K1 hK1 => ?_)
      rw [if_neg (by go_simp; all_goals (intro h; cases h))]
      go_simp
      refine hK1 _ ?_
      clear hK1 K1
      refine wpPre_i rfl (fun K1 hK1 => ?_)
      rw [if_neg (by go_simp; all_goals (intro h; cases h))]
      go_simp
      refine hK1 _ ?_
      clear hK1 K1
      refine wpPre_i rfl (fun K1 hK1 => ?_)
      rw [if_neg (by go_simp; all_goals (intro h; cases h))]
      go_simp
      refine hK1 _ ?_
      clear hK1 K1
      refine wpPre_i rfl (fun K1 hK1 => ?_)
      rw [if_neg (by go_simp; all_goals (intro h; cases h))]
      go_simp
      refine hK1 _ ?_
      clear hK1 K1
      refine wpPre_i rfl (fun K1 hK1 => ?_)
      rw [if_neg (by go_simp; all_goals (intro h; cases h))]
      go_simp
      refine hK1 _ ?_
      clear hK1 K1
      refine wpPre_i rfl (fun K1 hK1 => ?_)
      rw [if_neg (by go_simp; all_goals (intro h; cases h))]
      go_simp
      refine hK1 _ ?_
      clear hK1 K1
      refine wpPre_i rfl (fun K1 hK1 => ?_)
      rw [if_neg (by go_simp; all_goals (intro h; cases h))]
      go_simp
      refine hK1 _ ?_
      clear hK1 K1
      refine wpPre_i rfl (fun K1 hK1 => ?_)
      rw [if_neg (by go_simp; all_goals (intro h; cases h))]
      go_simp
      refine hK1 _ ?_
      clear hK1 K1
      refine wpPre_e rfl rfl (fun K1 hK1 => ?_)
      apply Exists.intro
      refine And.intro (fun wx hx => ?_) ?_
      · go_simp
        try rfl
      go_simp
      refine hK1 _ ?_
      clear hK1 K1
      refine wpPre_e rfl rfl (fun K1 hK1 => ?_)
      apply Exists.intro
      refine And.intro (fun wx hx => ?_) ?_
      · go_simp
        try rfl
      go_simp
      refine hK1 _ ?_
      clear hK1 K1
      refine wpPre_nil ?_
      refine wpStg_nil ?_
      have hq : V.okC o back i k = true := by simp [Vw.okC, HK.out]
      by_cases hbk : (k : Int) = back
      · have hbk' : ((k : Int) != back) = false := by simp [hbk]
        go_wp2
        go_roundw
        case rel => exact ⟨k + 1, by omega, by go_num, HV1.out.below (Below.refl _ _).drew, HX1.out.below (Below.refl _ _).drew, HB1.out.drew, fun p hp => by (rcases Nat.lt_or_ge p k with h | h; exact HOk.out p h; rw [show p = k by omega]; exact hq)⟩
        case measure => simp [intOf]; omega
      · have hbk' : ((k : Int) != back) = true := by simp [hbk]
        go_wp2
        go_roundw
        case rel => exact ⟨k + 1, by omega, by go_num, HV1.out.below (Below.refl _ _).drew, HX1.out.below (Below.refl _ _).drew, HB1.out.drew, fun p hp => by (rcases Nat.lt_or_ge p k with h | h; exact HOk.out p h; rw [show p = k by omega]; exact hq)⟩
        case measure => simp [intOf]; omega
    have hki' : ((k : Int) == (i : Int)) = false := by simp; omega
    rcases hcd : V.cd k with _ | _
    · rw [hcd] at cp
      go_wp2_with fail
      refine wp_region_calmD 30 (fun wx => Below wr.heap.size wr wx) [(0, true), (1, true), (2, false), (3, true), (4, true), (5, true), (6, false), (7, true), (8, true), (9, true), (10, false), (11, true), (12, true), (13, true), (14, true), (15, true), (16, true), (17, true), (18, false), (19, true), (20, true), (21, true)] [] (by kernel_rfl) (by kernel_rfl) (Below.refl _ _).drew ?_
      refine wpPre_e rfl rfl (fun K1 hK1 => ?_)
      apply Exists.intro
      refine And.intro (fun wx hx => ?_) ?_
      · go_simp
        try rfl
      go_simp
      refine hK1 _ ?_
      clear hK1 K1
      refine wpPre_e rfl rfl (fun K1 hK1 => ?_)
      apply Exists.intro
      refine And.intro (fun wx hx => ?_) ?_
      · go_simp
        try rfl
      go_simp
      refine hK1 _ ?_
      clear hK1 K1
      refine wpPre_e rfl rfl (fun K1 hK1 => ?_)
      apply Exists.intro
      refine And.intro (fun wx hx => ?_) ?_
      · have e0 := below_fact hx rfl y2
        have e1 := below_fact hx rfl y3
        have e2 := below_fact hx rfl v0
        have e3 := below_fact hx rfl cp
        go_simp
        try rfl
      go_simp
      refine hK1 _ ?_
      clear hK1 K1
      refine wpPre_e rfl rfl (fun K1 hK1 => ?_)
      apply Exists.intro
      refine And.intro (fun wx hx => ?_) ?_
      · go_simp
        try rfl
      go_simp
      refine hK1 _ ?_
      clear hK1 K1
      refine wpPre_e rfl rfl (fun K1 hK1 => ?_)
      apply Exists.intro
      refine And.intro (fun wx hx => ?_) ?_
      · go_simp
        try rfl
      go_simp
      refine hK1 _ ?_
      clear hK1 K1
      refine wpPre_i rfl (fun K1 hK1 => ?_)
      rw [if_pos (by go_simp)]
      apply Exists.intro
      refine And.intro (fun wx hx => ?_) ?_
      · go_simp
        try rfl
      go_simp
      refine hK1 _ ?_
      clear hK1 K1
      refine wpPre_i rfl (fun K1 hK1 => ?_)
      rw [if_pos (by go_simp)]
      apply Exists.intro
      refine And.intro (fun wx hx => ?_) ?_
      · have e0 := below_fact hx rfl y2
        have e1 := below_fact hx rfl y3
        have e2 := below_fact hx rfl v0
        have e3 := below_fact hx rfl cp
        go_simp
        try rfl
      go_simp
      refine hK1 _ ?_
      clear hK1 K1
      refine wpPre_i rfl (fun K1 hK1 => ?_)
      rw [if_pos (by go_simp)]
      apply Exists.intro
      refine And.intro (fun wx hx => ?_) ?_
      · go_simp
        try rfl
      go_simp
      refine hK1 _ ?_
      clear hK1 K1
      refine wpPre_i rfl (fun K1 hK1 => ?_)
      rw [if_pos (by go_simp)]
      apply Exists.intro
      refine And.intro (fun wx hx => ?_) ?_
      · go_simp
        try rfl
      go_simp
      refine hK1 _ ?_
      clear hK1 K1
      refine wpPre_i rfl (fun K1 hK1 => ?_)
      rw [if_pos (by go_simp)]
      apply Exists.intro
      refine And.intro (fun wx hx => ?_) ?_
      · go_simp
        try rfl
      go_simp
      refine hK1 _ ?_
      clear hK1 K1
      refine wpPre_i rfl (fun K1 hK1 => ?_)
      rw [if_pos (by go_simp)]
      apply Exists.intro
      refine And.intro (fun wx hx => ?_) ?_
      · have e0 := below_fact hx rfl y2
        have e1 := below_fact hx rfl y3
        have e2 := below_fact hx rfl v0
        have e3 := below_fact hx rfl cp
        go_simp
        try rfl
      go_simp
      refine hK1 _ ?_
      clear hK1 K1
      refine wpPre_i rfl (fun K1 hK1 => ?_)
      rw [if_pos (by go_simp)]
      apply Exists.intro
      refine And.intro (fun wx hx => ?_) ?_
      · go_simp
        try rfl
      go_simp
      refine hK1 _ ?_
      clear hK1 K1
      refine wpPre_i rfl (fun K1 hK1 => ?_)
      rw [if_pos (by go_simp)]
      apply Exists.intro
      refine And.intro (fun wx hx => ?_) ?_
      · go_simp
        try rfl
      go_simp
      refine hK1 _ ?_
      clear hK1 K1
      refine wpPre_i rfl (fun K1 hK1 => ?_)
      rw [if_pos (by go_simp)]
      apply Exists.intro
      refine And.intro (fun wx hx => ?_) ?_
      · go_simp
        try rfl
      go_simp
      refine hK1 _ ?_
      clear hK1 K1
      refine wpPre_i rfl (fun K1 hK1 => ?_)
      rw [if_pos (by go_simp)]
      apply Exists.intro
      refine And.intro (fun wx hx => ?_) ?_
      · go_simp
        try rfl
      go_simp
      refine hK1 _ ?_
      clear hK1 K1
      refine wpPre_i rfl (fun K1 hK1 => ?_)
      rw [if_pos (by go_simp)]
      apply Exists.intro
      refine And.intro (fun wx hx => ?_) ?_
      · go_simp
        try rfl
      go_simp
      refine hK1 _ ?_
      clear hK1 K1
      refine wpPre_i rfl (fun K1 hK1 => ?_)
      rw [if_pos (by go_simp)]
      apply Exists.intro
      refine And.intro (fun wx hx => ?_) ?_
      · go_simp
        try rfl
      go_simp
      refine hK1 _ ?_
      clear hK1 K1
      refine wpPre_i rfl (fun K1 hK1 => ?_)
      rw [if_pos (by go_simp)]
      apply Exists.intro
      refine And.intro (fun wx hx => ?_) ?_
      · go_simp
        try rfl
      go_simp
      refine hK1 _ ?_
      clear hK1 K1
      refine wpPre_i rfl (fun K1 hK1 => ?_)
      rw [if_pos (by go_simp)]
      apply Exists.intro
      refine And.intro (fun wx hx => ?_) ?_
      · have e0 := below_fact hx rfl y2
        have e1 := below_fact hx rfl y3
        have e2 := below_fact hx rfl v0
        have e3 := below_fact hx rfl cp
        go_simp
        try rfl
      go_simp
      refine hK1 _ ?_
      clear hK1 K1
      refine wpPre_i rfl (fun K1 hK1 => ?_)
      rw [if_pos (by go_simp)]
      apply Exists.intro
      refine And.intro (fun wx hx => ?_) ?_
      · go_simp
        try rfl
      go_simp
      refine hK1 _ ?_
      clear hK1 K1
      refine wpPre_e rfl rfl (fun K1 hK1 => ?_)
      apply Exists.intro
      refine And.intro (fun wx hx => ?_) ?_
      · go_simp
        try rfl
      go_simp
      refine hK1 _ ?_
      clear hK1 K1
      refine wpPre_e rfl rfl (fun K1 hK1 => ?_)
      apply Exists.intro
      refine And.intro (fun wx hx => ?_) ?_
      · go_simp
        try rfl
      go_simp
      refine hK1 _ ?_
      clear hK1 K1
      refine wpPre_nil ?_
      refine wpStg_nil ?_
      by_cases hbk : (k : Int) = back
      · have hbk' : ((k : Int) != back) = false := by simp [hbk]
        have hq : V.okC o back i k = true := by simp [Vw.okC, hbk]
        go_wp2
        go_roundw
        case rel => exact ⟨k + 1, by omega, by go_num, HV1.out.below (Below.refl _ _).drew, HX1.out.below (Below.refl _ _).drew, HB1.out.drew, fun p hp => by (rcases Nat.lt_or_ge p k with h | h; exact HOk.out p h; rw [show p = k by omega]; exact hq)⟩
        case measure => simp [intOf]; omega
      · have hbk' : ((k : Int) != back) = true := by simp [hbk]
        have hall : ((List.range N).all fun p => V.okC o back i p) = false := by
          rw [List.all_eq_false]
          refine ⟨k, List.mem_range.2 hlt, ?_⟩
          simp [Vw.okC, hbk, hki, hcd]
        have HR2 := hid (HR.out.trans hall)
        go_wp2
        exact bodyPost_ret (v := .bool false) (by simp [results, Try.results20, go_sem]) rfl ⟨by rw [HR2.out], HB1.out.drew⟩
    · rw [hcd] at cp
      go_wp2_with fail
      refine wp_region_calmD 30 (fun wx => Below wr.heap.size wr wx) [(0, true), (1, true), (2, false), (3, true), (4, true), (5, true), (6, false), (7, true), (8, true), (9, true), (10, false), (11, true), (12, true), (13, true), (14, true), (15, true), (16, true), (17, true), (18, false), (19, true), (20, true), (21, true)] [] (by kernel_rfl) (by kernel_rfl) (Below.refl _ _).drew ?_
      refine wpPre_e rfl rfl (fun K1 hK1 => ?_)
      apply Exists.intro
      refine And.intro (fun wx hx => ?_) ?_
      · go_simp
        try rfl
      go_simp
      refine hK1 _ ?_
      clear hK1 K1
      refine wpPre_e rfl rfl (fun K1 hK1 => ?_)
      apply Exists.intro
      refine And.intro (fun wx hx => ?_) ?_
      · go_simp
        try rfl
      go_simp
      refine hK1 _ ?_
      clear hK1 K1
      refine wpPre_e rfl rfl (fun K1 hK1 => ?_)
      apply Exists.intro
      refine And.intro (fun wx hx => ?_) ?_
      · have e0 := below_fact hx rfl y2
        have e1 := below_fact hx rfl y3
        have e2 := below_fact hx rfl v0
        have e3 := below_fact hx rfl cp
        go_simp
        try rfl
      go_simp
      refine hK1 _ ?_
      clear hK1 K1
      refine wpPre_e rfl rfl (fun K1 hK1 => ?_)
      apply Exists.intro
      refine And.intro (fun wx hx => ?_) ?_
      · go_simp
        try rfl
      go_simp
      refine hK1 _ ?_
      clear hK1 K1
      refine wpPre_e rfl rfl (fun K1 hK1 => ?_)
      apply Exists.intro
      refine And.intro (fun wx hx => ?_) ?_
      · go_simp
        try rfl
      go_simp
      refine hK1 _ ?_
      clear hK1 K1
      refine wpPre_i rfl (fun K1 hK1 => ?_)
      rw [if_pos (by go_simp)]
      apply Exists.intro
      refine And.intro (fun wx hx => ?_) ?_
      · go_simp
        try rfl
      go_simp
      refine hK1 _ ?_
      clear hK1 K1
      refine wpPre_i rfl (fun K1 hK1 => ?_)
      rw [if_pos (by go_simp)]
      apply Exists.intro
      refine And.intro (fun wx hx => ?_) ?_
      · have e0 := below_fact hx rfl y2
        have e1 := below_fact hx rfl y3
        have e2 := below_fact hx rfl v0
        have e3 := below_fact hx rfl cp
        go_simp
        try rfl
      go_simp
      refine hK1 _ ?_
      clear hK1 K1
      refine wpPre_i rfl (fun K1 hK1 => ?_)
      rw [if_pos (by go_simp)]
      apply Exists.intro
      refine And.intro (fun wx hx => ?_) ?_
      · go_simp
        try rfl
      go_simp
      refine hK1 _ ?_
      clear hK1 K1
      refine wpPre_i rfl (fun K1 hK1 => ?_)
      rw [if_pos (by go_simp)]
      apply Exists.intro
      refine And.intro (fun wx hx => ?_) ?_
      · go_simp
        try rfl
      go_simp
      refine hK1 _ ?_
      clear hK1 K1
      refine wpPre_i rfl (fun K1 hK1 => ?_)
      rw [if_pos (by go_simp)]
      apply Exists.intro
      refine And.intro (fun wx hx => ?_) ?_
      · go_simp
        try rfl
      go_simp
      refine hK1 _ ?_
      clear hK1 K1
      refine wpPre_i rfl (fun K1 hK1 => ?_)
      rw [if_pos (by go_simp)]
      apply Exists.intro
      refine And.intro (fun wx hx => ?_) ?_
      · have e0 := below_fact hx rfl y2
        have e1 := below_fact hx rfl y3
        have e2 := below_fact hx rfl v0
        have e3 := below_fact hx rfl cp
        go_simp
        try rfl
      go_simp
      refine hK1 _ ?_
      clear hK1 K1
      refine wpPre_i rfl (fun K1 hK1 => ?_)
      rw [if_pos (by go_simp)]
      apply Exists.intro
      refine And.intro (fun wx hx => ?_) ?_
      · go_simp
        try rfl
      go_simp
      refine hK1 _ ?_
      clear hK1 K1
      refine wpPre_i rfl (fun K1 hK1 => ?_)
      rw [if_pos (by go_simp)]
      apply Exists.intro
      refine And.intro (fun wx hx => ?_) ?_
      · go_simp
        try rfl
      go_simp
      refine hK1 _ ?_
      clear hK1 K1
      refine wpPre_i rfl (fun K1 hK1 => ?_)
      rw [if_pos (by go_simp)]
      apply Exists.intro
      refine And.intro (fun wx hx => ?_) ?_
      · go_simp
        try rfl
      go_simp
      refine hK1 _ ?_
      clear hK1 K1
      refine wpPre_i rfl (fun K1 hK1 => ?_)
      rw [if_pos (by go_simp)]
      apply Exists.intro
      refine And.intro (fun wx hx => ?_) ?_
      · go_simp
        try rfl
      go_simp
      refine hK1 _ ?_
      clear hK1 K1
      refine wpPre_i rfl (fun K1 hK1 => ?_)
      rw [if_pos (by go_simp)]
      apply Exists.intro
      refine And.intro (fun wx hx => ?_) ?_
      · go_simp
        try rfl
      go_simp
      refine hK1 _ ?_
      clear hK1 K1
      refine wpPre_i rfl (fun K1 hK1 => ?_)
      rw [if_pos (by go_simp)]
      apply Exists.intro
      refine And.intro (fun wx hx => ?_) ?_
      · go_simp
        try rfl
      go_simp
      refine hK1 _ ?_
      clear hK1 K1
      refine wpPre_i rfl (fun K1 hK1 => ?_)
      rw [if_pos (by go_simp)]
      apply Exists.intro
      refine And.intro (fun wx hx => ?_) ?_
      · go_simp
        try rfl
      go_simp
      refine hK1 _ ?_
      clear hK1 K1
      refine wpPre_i rfl (fun K1 hK1 => ?_)
      rw [if_pos (by go_simp)]
      apply Exists.intro
      refine And.intro (fun wx hx => ?_) ?_
      · have e0 := below_fact hx rfl y2
        have e1 := below_fact hx rfl y3
        have e2 := below_fact hx rfl v0
        have e3 := below_fact hx rfl cp
        go_simp
        try rfl
      go_simp
      refine hK1 _ ?_
      clear hK1 K1
      refine wpPre_i rfl (fun K1 hK1 => ?_)
      rw [if_pos (by go_simp)]
      apply Exists.intro
      refine And.intro (fun wx hx => ?_) ?_
      · go_simp
        try rfl
      go_simp
      refine hK1 _ ?_
      clear hK1 K1
      refine wpPre_e rfl rfl (fun K1 hK1 => ?_)
      apply Exists.intro
      refine And.intro (fun wx hx => ?_) ?_
      · go_simp
        try rfl
      go_simp
      refine hK1 _ ?_
      clear hK1 K1
      refine wpPre_e rfl rfl (fun K1 hK1 => ?_)
      apply Exists.intro
      refine And.intro (fun wx hx => ?_) ?_
      · go_simp
        try rfl
      go_simp
      refine hK1 _ ?_
      clear hK1 K1
      refine wpPre_nil ?_
      refine wpStg_nil ?_
      have hq : V.okC o back i k = true := by simp [Vw.okC, HQ.out, hcd]
      by_cases hbk : (k : Int) = back
      · have hbk' : ((k : Int) != back) = false := by simp [hbk]
        go_wp2
        go_roundw
        case rel => exact ⟨k + 1, by omega, by go_num, HV1.out.below (Below.refl _ _).drew, HX1.out.below (Below.refl _ _).drew, HB1.out.drew, fun p hp => by (rcases Nat.lt_or_ge p k with h | h; exact HOk.out p h; rw [show p = k by omega]; exact hq)⟩
        case measure => simp [intOf]; omega
      · have hbk' : ((k : Int) != back) = true := by simp [hbk]
        go_wp2
        go_roundw
        case rel => exact ⟨k + 1, by omega, by go_num, HV1.out.below (Below.refl _ _).drew, HX1.out.below (Below.refl _ _).drew, HB1.out.drew, fun p hp => by (rcases Nat.lt_or_ge p k with h | h; exact HOk.out p h; rw [show p = k by omega]; exact hq)⟩
        case measure => simp [intOf]; omega
end Go.Proofs.Ytdncnnjhfipokaa
