import Derived.Test.YtdncnnjhfipokaaPack15
import Derived.Test.YtdncnnjhfipokaaPack12
import Derived.Test.YtdncnnjhfipokaaKhT
namespace Go.Proofs.Ytdncnnjhfipokaa
open Go.RowKit
set_option maxRecDepth 8000
/-- is the copy to be made? -/
def Vw.okC (V : Vw) (o : OpT) (back : Int) (i p : Nat) : Bool := ((p : Int) == back) || ((p == i) || ((o.id == V.id) && V.cd p))
def Vw.copiesB (V : Vw) (o : OpT) (mode : Int) (N : Nat) (back : Int) (i : Nat) : Bool := !(decide (o.id < V.id) || ((o.id == V.id) && (V.cp || V.cd i))) && (!(mode == 1) || (List.range N).all fun p => V.okC o back i p)
set_option maxHeartbeats 8000000 in
theorem copiesA (o : OpT) (mode : Int) (N : Nat) (back : Int) (i : Nat) (hi : i < 4) (hpi : o.port = (i : Int)) (_hN : N ≤ 4) (w : World) (vb : Nat) (V : Vw) (hV : VwI w vb V) (hlt : o.id < V.id) :
    Calls Try.prog 20 #[.pointer (some ⟨vb, 0, none⟩), .agg #[.int .i64 o.kind, .int .i64 o.which, .int .i64 o.port, .int .i64 o.id, .string o.r.key, .int .i64 o.r.v.kind, .int .i64 o.r.v.int, .string o.r.v.text, .slice o.r.v.p o.r.v.n o.r.v.c, .slice o.r.p o.r.n o.r.c, .slice o.a.p o.a.n o.a.c, .slice o.q.p o.q.n o.q.c, .int .i64 o.num, .slice o.l.p o.l.n o.l.c], .int .i64 mode, .int .i64 (N : Int), .int .i64 back] w fun e w' => e = .returned (.bool (V.copiesB o mode N back i)) ∧ Below w.heap.size w w' := by
  have HP := hid hpi
  clear hpi
  obtain ⟨W0, hW0⟩ : ∃ x, x = w.alloc (.cells #[.int .i64 o.kind, .int .i64 o.which, .int .i64 o.port, .int .i64 o.id, .string o.r.key, .int .i64 o.r.v.kind, .int .i64 o.r.v.int, .string o.r.v.text, .slice o.r.v.p o.r.v.n o.r.v.c, .slice o.r.p o.r.n o.r.c, .slice o.a.p o.a.n o.a.c, .slice o.q.p o.q.n o.q.c, .int .i64 o.num, .slice o.l.p o.l.n o.l.c] 42) := ⟨_, rfl⟩
  have hB0 : Below w.heap.size w W0 := by rw [hW0]; exact (Below.refl _ _).alloc (Nat.le_refl _) _
  have hX0 : Box W0 w.heap.size #[.int .i64 o.kind, .int .i64 o.which, .int .i64 o.port, .int .i64 o.id, .string o.r.key, .int .i64 o.r.v.kind, .int .i64 o.r.v.int, .string o.r.v.text, .slice o.r.v.p o.r.v.n o.r.v.c, .slice o.r.p o.r.n o.r.c, .slice o.a.p o.a.n o.a.c, .slice o.q.p o.q.n o.q.c, .int .i64 o.num, .slice o.l.p o.l.n o.l.c] 42 := by rw [hW0]; exact Box.new _ _ _
  have HB0 := hid hB0
  have HX0 := hid hX0
  have HV0 := hid (hV.below hB0)
  have y2 := hX0.cell 2
  have y3 := hX0.cell 3
  have v0 := HV0.out.box.cell 0
  have v1 := HV0.out.box.cell 1
  have vc := HV0.out.cs hi
  have ol := hX0.lt
  have vl0 := HV0.out.box.lt
  have hi4 : (i : Int) < 4 := by omega
  simp [Vw.arr] at y2 y3 v0 v1
  rw [HP.out] at y2
  clear hB0 hX0
  have HR : Hid (V.copiesB o mode N back i = false) := by unfold Hid; simp [Vw.copiesB, hlt]
  go_enter Try.func20, Try.ntmps20
  go_wp2_with fail
  rw [← hW0]
  clear hW0
  refine wp_region_calmD 30 (fun wx => Below W0.heap.size W0 wx) [(0, true), (1, false), (2, true), (3, true), (4, true), (5, false), (6, true), (7, true), (8, true), (9, false), (10, true), (11, true), (12, true), (13, false), (14, true), (15, true), (16, true), (17, true), (18, true), (19, false), (20, true), (21, true), (22, true), (23, false), (24, true), (25, true), (26, true), (27, false), (28, true), (29, true), (30, true)] [] (by kernel_rfl) (by kernel_rfl) (Below.refl _ _).drew ?_
  refine wpPre_e rfl rfl (fun K1 hK1 => ?_)
  apply Exists.intro
  refine And.intro (fun wx hx => ?_) ?_
  · go_simp
    try rfl
  go_simp
  refine hK1 _ ?_
  clear hK1 K1
  refine wpPre_e rfl rfl (fun K1 hK1 => ?_)
  apply Exists.intro
  refine And.intro (fun wx hx => ?_) ?_
  · have e0 := below_fact hx rfl y2
    have e1 := below_fact hx rfl y3
    have e2 := below_fact hx rfl v0
    have e3 := below_fact hx rfl v1
    have e4 := below_fact hx rfl vc
    go_simp
    try rfl
  go_simp
  refine hK1 _ ?_
  clear hK1 K1
  refine wpPre_e rfl rfl (fun K1 hK1 => ?_)
  apply Exists.intro
  refine And.intro (fun wx hx => ?_) ?_
  · go_simp
    try rfl
  go_simp
  refine hK1 _ ?_
  clear hK1 K1
  refine wpPre_e rfl rfl (fun K1 hK1 => ?_)
  apply Exists.intro
  refine And.intro (fun wx hx => ?_) ?_
  · go_simp
    try rfl
  go_simp
  refine hK1 _ ?_
  clear hK1 K1
  refine wpPre_e rfl rfl (fun K1 hK1 => ?_)
  apply Exists.intro
  refine And.intro (fun wx hx => ?_) ?_
  · go_simp
    try rfl
  go_simp
  refine hK1 _ ?_
  clear hK1 K1
  refine wpPre_e rfl rfl (fun K1 hK1 => ?_)
  apply Exists.intro
  refine And.intro (fun wx hx => ?_) ?_
  · have e0 := below_fact hx rfl y2
    have e1 := below_fact hx rfl y3
    have e2 := below_fact hx rfl v0
    have e3 := below_fact hx rfl v1
    have e4 := below_fact hx rfl vc
    go_simp
    try rfl
  go_simp
  refine hK1 _ ?_
  clear hK1 K1
  refine wpPre_e rfl rfl (fun K1 hK1 => ?_)
  apply Exists.intro
  refine And.intro (fun wx hx => ?_) ?_
  · go_simp
    try rfl
  go_simp
  refine hK1 _ ?_
  clear hK1 K1
  refine wpPre_e rfl rfl (fun K1 hK1 => ?_)
  apply Exists.intro
  refine And.intro (fun wx hx => ?_) ?_
  · go_simp
    try rfl
  go_simp
  refine hK1 _ ?_
  clear hK1 K1
  refine wpPre_i rfl (fun K1 hK1 => ?_)
  rw [if_neg (by go_simp; all_goals (intro h; cases h))]
  go_simp
  refine hK1 _ ?_
  clear hK1 K1
  refine wpPre_i rfl (fun K1 hK1 => ?_)
  rw [if_neg (by go_simp; all_goals (intro h; cases h))]
  go_simp
  refine hK1 _ ?_
  clear hK1 K1
  refine wpPre_i rfl (fun K1 hK1 => ?_)
  rw [if_neg (by go_simp; all_goals (intro h; cases h))]
  go_simp
  refine hK1 _ ?_
  clear hK1 K1
  refine wpPre_i rfl (fun K1 hK1 => ?_)
  rw [if_neg (by go_simp; all_goals (intro h; cases h))]
  go_simp
  refine hK1 _ ?_
  clear hK1 K1
  refine wpPre_i rfl (fun K1 hK1 => ?_)
  rw [if_neg (by go_simp; all_goals (intro h; cases h))]
  go_simp
  refine hK1 _ ?_
  clear hK1 K1
  refine wpPre_i rfl (fun K1 hK1 => ?_)
  rw [if_neg (by go_simp; all_goals (intro h; cases h))]
  go_simp
  refine hK1 _ ?_
  clear hK1 K1
  refine wpPre_i rfl (fun K1 hK1 => ?_)
  rw [if_neg (by go_simp; all_goals (intro h; cases h))]
  go_simp
  refine hK1 _ ?_
  clear hK1 K1
  refine wpPre_i rfl (fun K1 hK1 => ?_)
  rw [if_neg (by go_simp; all_goals (intro h; cases h))]
  go_simp
  refine hK1 _ ?_
  clear hK1 K1
  refine wpPre_i rfl (fun K1 hK1 => ?_)
  rw [if_neg (by go_simp; all_goals (intro h; cases h))]
  go_simp
  refine hK1 _ ?_
  clear hK1 K1
  refine wpPre_i rfl (fun K1 hK1 => ?_)
  rw [if_neg (by go_simp; all_goals (intro h; cases h))]
  go_simp
  refine hK1 _ ?_
  clear hK1 K1
  refine wpPre_i rfl (fun K1 hK1 => ?_)
  rw [if_neg (by go_simp; all_goals (intro h; cases h))]
  go_simp
  refine hK1 _ ?_
  clear hK1 K1
  refine wpPre_i rfl (fun K1 hK1 => ?_)
  rw [if_neg (by go_simp; all_goals (intro h; cases h))]
  go_simp
  refine hK1 _ ?_
  clear hK1 K1
  refine wpPre_i rfl (fun K1 hK1 => ?_)
  rw [if_neg (by go_simp; all_goals (intro h; cases h))]
  go_simp
  refine hK1 _ ?_
  clear hK1 K1
  refine wpPre_i rfl (fun K1 hK1 => ?_)
  rw [if_neg (by go_simp; all_goals (intro h; cases h))]
  go_simp
  refine hK1 _ ?_
  clear hK1 K1
  refine wpPre_i rfl (fun K1 hK1 => ?_)
  rw [if_neg (by go_simp; all_goals (intro h; cases h))]
  go_simp
  refine hK1 _ ?_
  clear hK1 K1
  refine wpPre_i rfl (fun K1 hK1 => ?_)
  rw [if_neg (by go_simp; all_goals (intro h; cases h))]
  go_simp
  refine hK1 _ ?_
  clear hK1 K1
  refine wpPre_i rfl (fun K1 hK1 => ?_)
  rw [if_neg (by go_simp; all_goals (intro h; cases h))]
  go_simp
  refine hK1 _ ?_
  clear hK1 K1
  refine wpPre_i rfl (fun K1 hK1 => ?_)
  rw [if_neg (by go_simp; all_goals (intro h; cases h))]
  go_simp
  refine hK1 _ ?_
  clear hK1 K1
  refine wpPre_i rfl (fun K1 hK1 => ?_)
  rw [if_neg (by go_simp; all_goals (intro h; cases h))]
  go_simp
  refine hK1 _ ?_
  clear hK1 K1
  refine wpPre_i rfl (fun K1 hK1 => ?_)
  rw [if_neg (by go_simp; all_goals (intro h; cases h))]
  go_simp
  refine hK1 _ ?_
  clear hK1 K1
  refine wpPre_i rfl (fun K1 hK1 => ?_)
  rw [if_neg (by go_simp; all_goals (intro h; cases h))]
  go_simp
  refine hK1 _ ?_
  clear hK1 K1
  refine wpPre_i rfl (fun K1 hK1 => ?_)
  rw [if_neg (by go_simp; all_goals (intro h; cases h))]
  go_simp
  refine hK1 _ ?_
  clear hK1 K1
  refine wpPre_e rfl rfl (fun K1 hK1 => ?_)
  apply Exists.intro
  refine And.intro (fun wx hx => ?_) ?_
  · go_simp
    try rfl
  go_simp
  refine hK1 _ ?_
  clear hK1 K1
  refine wpPre_nil ?_
  refine wpStg_nil ?_
  go_wp2
  refine bodyPost_ret (v := .bool false) (by simp [results, Try.results20, go_sem]) rfl ⟨by rw [HR.out], HB0.out.drew⟩
set_option maxHeartbeats 8000000 in
theorem copiesB1 (o : OpT) (mode : Int) (N : Nat) (back : Int) (i : Nat) (hi : i < 4) (hpi : o.port = (i : Int)) (_hN : N ≤ 4) (w : World) (vb : Nat) (V : Vw) (hV : VwI w vb V) (heq : o.id = V.id) (hcp : V.cp = true) :
    Calls Try.prog 20 #[.pointer (some ⟨vb, 0, none⟩), .agg #[.int .i64 o.kind, .int .i64 o.which, .int .i64 o.port, .int .i64 o.id, .string o.r.key, .int .i64 o.r.v.kind, .int .i64 o.r.v.int, .string o.r.v.text, .slice o.r.v.p o.r.v.n o.r.v.c, .slice o.r.p o.r.n o.r.c, .slice o.a.p o.a.n o.a.c, .slice o.q.p o.q.n o.q.c, .int .i64 o.num, .slice o.l.p o.l.n o.l.c], .int .i64 mode, .int .i64 (N : Int), .int .i64 back] w fun e w' => e = .returned (.bool (V.copiesB o mode N back i)) ∧ Below w.heap.size w w' := by
  have HP := hid hpi
  clear hpi
  obtain ⟨W0, hW0⟩ : ∃ x, x = w.alloc (.cells #[.int .i64 o.kind, .int .i64 o.which, .int .i64 o.port, .int .i64 o.id, .string o.r.key, .int .i64 o.r.v.kind, .int .i64 o.r.v.int, .string o.r.v.text, .slice o.r.v.p o.r.v.n o.r.v.c, .slice o.r.p o.r.n o.r.c, .slice o.a.p o.a.n o.a.c, .slice o.q.p o.q.n o.q.c, .int .i64 o.num, .slice o.l.p o.l.n o.l.c] 42) := ⟨_, rfl⟩
  have hB0 : Below w.heap.size w W0 := by rw [hW0]; exact (Below.refl _ _).alloc (Nat.le_refl _) _
  have hX0 : Box W0 w.heap.size #[.int .i64 o.kind, .int .i64 o.which, .int .i64 o.port, .int .i64 o.id, .string o.r.key, .int .i64 o.r.v.kind, .int .i64 o.r.v.int, .string o.r.v.text, .slice o.r.v.p o.r.v.n o.r.v.c, .slice o.r.p o.r.n o.r.c, .slice o.a.p o.a.n o.a.c, .slice o.q.p o.q.n o.q.c, .int .i64 o.num, .slice o.l.p o.l.n o.l.c] 42 := by rw [hW0]; exact Box.new _ _ _
  have HB0 := hid hB0
  have HX0 := hid hX0
  have HV0 := hid (hV.below hB0)
  have y2 := hX0.cell 2
  have y3 := hX0.cell 3
  have v0 := HV0.out.box.cell 0
  have v1 := HV0.out.box.cell 1
  have vc := HV0.out.cs hi
  have ol := hX0.lt
  have vl0 := HV0.out.box.lt
  have hi4 : (i : Int) < 4 := by omega
  simp [Vw.arr] at y2 y3 v0 v1
  rw [HP.out] at y2
  clear hB0 hX0
  have HR : Hid (V.copiesB o mode N back i = false) := by unfold Hid; simp [Vw.copiesB, heq, hcp]
  rw [hcp] at v1
  rw [heq] at y3
  have HQ := hid heq
  clear heq
  go_enter Try.func20, Try.ntmps20
  go_wp2_with fail
  rw [← hW0]
  clear hW0
  refine wp_region_calmD 30 (fun wx => Below W0.heap.size W0 wx) [(0, true), (1, false), (2, true), (3, true), (4, true), (5, false), (6, true), (7, true), (8, true), (9, false), (10, true), (11, true), (12, true), (13, false), (14, true), (15, true), (16, true), (17, true), (18, true), (19, false), (20, true), (21, true), (22, true), (23, false), (24, true), (25, true), (26, true), (27, false), (28, true), (29, true), (30, true)] [] (by kernel_rfl) (by kernel_rfl) (Below.refl _ _).drew ?_
  refine wpPre_e rfl rfl (fun K1 hK1 => ?_)
  apply Exists.intro
  refine And.intro (fun wx hx => ?_) ?_
  · go_simp
    try rfl
  go_simp
  refine hK1 _ ?_
  clear hK1 K1
  refine wpPre_e rfl rfl (fun K1 hK1 => ?_)
  apply Exists.intro
  refine And.intro (fun wx hx => ?_) ?_
  · have e0 := below_fact hx rfl y2
    have e1 := below_fact hx rfl y3
    have e2 := below_fact hx rfl v0
    have e3 := below_fact hx rfl v1
    have e4 := below_fact hx rfl vc
    go_simp
    try rfl
  go_simp
  refine hK1 _ ?_
  clear hK1 K1
  refine wpPre_e rfl rfl (fun K1 hK1 => ?_)
  apply Exists.intro
  refine And.intro (fun wx hx => ?_) ?_
  · go_simp
    try rfl
  go_simp
  refine hK1 _ ?_
  clear hK1 K1
  refine wpPre_e rfl rfl (fun K1 hK1 => ?_)
  apply Exists.intro
  refine And.intro (fun wx hx => ?_) ?_
  · go_simp
    try rfl
  go_simp
  refine hK1 _ ?_
  clear hK1 K1
  refine wpPre_e rfl rfl (fun K1 hK1 => ?_)
  apply Exists.intro
  refine And.intro (fun wx hx => ?_) ?_
  · go_simp
    try rfl
  go_simp
  refine hK1 _ ?_
  clear hK1 K1
  refine wpPre_e rfl rfl (fun K1 hK1 => ?_)
  apply Exists.intro
  refine And.intro (fun wx hx => ?_) ?_
  · have e0 := below_fact hx rfl y2
    have e1 := below_fact hx rfl y3
    have e2 := below_fact hx rfl v0
    have e3 := below_fact hx rfl v1
    have e4 := below_fact hx rfl vc
    go_simp
    try rfl
  go_simp
  refine hK1 _ ?_
  clear hK1 K1
  refine wpPre_e rfl rfl (fun K1 hK1 => ?_)
  apply Exists.intro
  refine And.intro (fun wx hx => ?_) ?_
  · go_simp
    try rfl
  go_simp
  refine hK1 _ ?_
  clear hK1 K1
  refine wpPre_e rfl rfl (fun K1 hK1 => ?_)
  apply Exists.intro
  refine And.intro (fun wx hx => ?_) ?_
  · go_simp
    try rfl
  go_simp
  refine hK1 _ ?_
  clear hK1 K1
  refine wpPre_i rfl (fun K1 hK1 => ?_)
  rw [if_pos (by go_simp)]
  apply Exists.intro
  refine And.intro (fun wx hx => ?_) ?_
  · go_simp
    try rfl
  go_simp
  refine hK1 _ ?_
  clear hK1 K1
  refine wpPre_i rfl (fun K1 hK1 => ?_)
  rw [if_pos (by go_simp)]
  apply Exists.intro
  refine And.intro (fun wx hx => ?_) ?_
  · have e0 := below_fact hx rfl y2
    have e1 := below_fact hx rfl y3
    have e2 := below_fact hx rfl v0
    have e3 := below_fact hx rfl v1
    have e4 := below_fact hx rfl vc
    go_simp
    try rfl
  go_simp
  refine hK1 _ ?_
  clear hK1 K1
  refine wpPre_i rfl (fun K1 hK1 => ?_)
  rw [if_pos (by go_simp)]
  apply Exists.intro
  refine And.intro (fun wx hx => ?_) ?_
  · go_simp
    try rfl
  go_simp
  refine hK1 _ ?_
  clear hK1 K1
  refine wpPre_i rfl (fun K1 hK1 => ?_)
  rw [if_pos (by go_simp)]
  apply Exists.intro
  refine And.intro (fun wx hx => ?_) ?_
  · go_simp
    try rfl
  go_simp
  refine hK1 _ ?_
  clear hK1 K1
  refine wpPre_i rfl (fun K1 hK1 => ?_)
  rw [if_pos (by go_simp)]
  apply Exists.intro
  refine And.intro (fun wx hx => ?_) ?_
  · go_simp
    try rfl
  go_simp
  refine hK1 _ ?_
  clear hK1 K1
  refine wpPre_i rfl (fun K1 hK1 => ?_)
  rw [if_pos (by go_simp)]
  apply Exists.intro
  refine And.intro (fun wx hx => ?_) ?_
  · have e0 := below_fact hx rfl y2
    have e1 := below_fact hx rfl y3
    have e2 := below_fact hx rfl v0
    have e3 := below_fact hx rfl v1
    have e4 := below_fact hx rfl vc
    go_simp
    try rfl
  go_simp
  refine hK1 _ ?_
  clear hK1 K1
  refine wpPre_i rfl (fun K1 hK1 => ?_)
  rw [if_pos (by go_simp)]
  apply Exists.intro
  refine And.intro (fun wx hx => ?_) ?_
  · go_simp
    try rfl
  go_simp
  refine hK1 _ ?_
  clear hK1 K1
  refine wpPre_i rfl (fun K1 hK1 => ?_)
  rw [if_pos (by go_simp)]
  apply Exists.intro
  refine And.intro (fun wx hx => ?_) ?_
  · go_simp
    try rfl
  go_simp
  refine hK1 _ ?_
  clear hK1 K1
  refine wpPre_i rfl (fun K1 hK1 => ?_)
  rw [if_pos (by go_simp)]
  apply Exists.intro
  refine And.intro (fun wx hx => ?_) ?_
  · go_simp
    try rfl
  go_simp
  refine hK1 _ ?_
  clear hK1 K1
  refine wpPre_i rfl (fun K1 hK1 => ?_)
  rw [if_pos (by go_simp)]
  apply Exists.intro
  refine And.intro (fun wx hx => ?_) ?_
  · go_simp
    try rfl
  go_simp
  refine hK1 _ ?_
  clear hK1 K1
  refine wpPre_i rfl (fun K1 hK1 => ?_)
  rw [if_pos (by go_simp)]
  apply Exists.intro
  refine And.intro (fun wx hx => ?_) ?_
  · go_simp
    try rfl
  go_simp
  refine hK1 _ ?_
  clear hK1 K1
  refine wpPre_i rfl (fun K1 hK1 => ?_)
  rw [if_pos (by go_simp)]
  apply Exists.intro
  refine And.intro (fun wx hx => ?_) ?_
  · have e0 := below_fact hx rfl y2
    have e1 := below_fact hx rfl y3
    have e2 := below_fact hx rfl v0
    have e3 := below_fact hx rfl v1
    have e4 := below_fact hx rfl vc
    go_simp
    try rfl
  go_simp
  refine hK1 _ ?_
  clear hK1 K1
  refine wpPre_i rfl (fun K1 hK1 => ?_)
  rw [if_pos (by go_simp)]
  apply Exists.intro
  refine And.intro (fun wx hx => ?_) ?_
  · go_simp
    try rfl
  go_simp
  refine hK1 _ ?_
  clear hK1 K1
  refine wpPre_i rfl (fun K1 hK1 => ?_)
  rw [if_neg (by go_simp; all_goals (intro h; cases h))]
  go_simp
  refine hK1 _ ?_
  clear hK1 K1
  refine wpPre_i rfl (fun K1 hK1 => ?_)
  rw [if_neg (by go_simp; all_goals (intro h; cases h))]
  go_simp
  refine hK1 _ ?_
  clear hK1 K1
  refine wpPre_i rfl (fun K1 hK1 => ?_)
  rw [if_neg (by go_simp; all_goals (intro h; cases h))]
  go_simp
  refine hK1 _ ?_
  clear hK1 K1
  refine wpPre_i rfl (fun K1 hK1 => ?_)
  rw [if_neg (by go_simp; all_goals (intro h; cases h))]
  go_simp
  refine hK1 _ ?_
  clear hK1 K1
  refine wpPre_i rfl (fun K1 hK1 => ?_)
  rw [if_neg (by go_simp; all_goals (intro h; cases h))]
  go_simp
  refine hK1 _ ?_
  clear hK1 K1
  refine wpPre_i rfl (fun K1 hK1 => ?_)
  rw [if_neg (by go_simp; all_goals (intro h; cases h))]
  go_simp
  refine hK1 _ ?_
  clear hK1 K1
  refine wpPre_i rfl (fun K1 hK1 => ?_)
  rw [if_neg (by go_simp; all_goals (intro h; cases h))]
  go_simp
  refine hK1 _ ?_
  clear hK1 K1
  refine wpPre_i rfl (fun K1 hK1 => ?_)
  rw [if_pos (by go_simp)]
  apply Exists.intro
  refine And.intro (fun wx hx => ?_) ?_
  · go_simp
    try rfl
  go_simp
  refine hK1 _ ?_
  clear hK1 K1
  refine wpPre_i rfl (fun K1 hK1 => ?_)
  rw [if_pos (by go_simp)]
  apply Exists.intro
  refine And.intro (fun wx hx => ?_) ?_
  · go_simp
    try rfl
  go_simp
  refine hK1 _ ?_
  clear hK1 K1
  refine wpPre_e rfl rfl (fun K1 hK1 => ?_)
  apply Exists.intro
  refine And.intro (fun wx hx => ?_) ?_
  · go_simp
    try rfl
  go_simp
  refine hK1 _ ?_
  clear hK1 K1
  refine wpPre_nil ?_
  refine wpStg_nil ?_
  go_wp2
  refine bodyPost_ret (v := .bool false) (by simp [results, Try.results20, go_sem]) rfl ⟨by rw [HR.out], HB0.out.drew⟩
set_option maxHeartbeats 8000000 in
theorem copiesB2 (o : OpT) (mode : Int) (N : Nat) (back : Int) (i : Nat) (hi : i < 4) (hpi : o.port = (i : Int)) (_hN : N ≤ 4) (w : World) (vb : Nat) (V : Vw) (hV : VwI w vb V) (heq : o.id = V.id) (hcp : V.cp = false) (hcd : V.cd i = true) :
    Calls Try.prog 20 #[.pointer (some ⟨vb, 0, none⟩), .agg #[.int .i64 o.kind, .int .i64 o.which, .int .i64 o.port, .int .i64 o.id, .string o.r.key, .int .i64 o.r.v.kind, .int .i64 o.r.v.int, .string o.r.v.text, .slice o.r.v.p o.r.v.n o.r.v.c, .slice o.r.p o.r.n o.r.c, .slice o.a.p o.a.n o.a.c, .slice o.q.p o.q.n o.q.c, .int .i64 o.num, .slice o.l.p o.l.n o.l.c], .int .i64 mode, .int .i64 (N : Int), .int .i64 back] w fun e w' => e = .returned (.bool (V.copiesB o mode N back i)) ∧ Below w.heap.size w w' := by
  have HP := hid hpi
  clear hpi
  obtain ⟨W0, hW0⟩ : ∃ x, x = w.alloc (.cells #[.int .i64 o.kind, .int .i64 o.which, .int .i64 o.port, .int .i64 o.id, .string o.r.key, .int .i64 o.r.v.kind, .int .i64 o.r.v.int, .string o.r.v.text, .slice o.r.v.p o.r.v.n o.r.v.c, .slice o.r.p o.r.n o.r.c, .slice o.a.p o.a.n o.a.c, .slice o.q.p o.q.n o.q.c, .int .i64 o.num, .slice o.l.p o.l.n o.l.c] 42) := ⟨_, rfl⟩
  have hB0 : Below w.heap.size w W0 := by rw [hW0]; exact (Below.refl _ _).alloc (Nat.le_refl _) _
  have hX0 : Box W0 w.heap.size #[.int .i64 o.kind, .int .i64 o.which, .int .i64 o.port, .int .i64 o.id, .string o.r.key, .int .i64 o.r.v.kind, .int .i64 o.r.v.int, .string o.r.v.text, .slice o.r.v.p o.r.v.n o.r.v.c, .slice o.r.p o.r.n o.r.c, .slice o.a.p o.a.n o.a.c, .slice o.q.p o.q.n o.q.c, .int .i64 o.num, .slice o.l.p o.l.n o.l.c] 42 := by rw [hW0]; exact Box.new _ _ _
  have HB0 := hid hB0
  have HX0 := hid hX0
  have HV0 := hid (hV.below hB0)
  have y2 := hX0.cell 2
  have y3 := hX0.cell 3
  have v0 := HV0.out.box.cell 0
  have v1 := HV0.out.box.cell 1
  have vc := HV0.out.cs hi
  have ol := hX0.lt
  have vl0 := HV0.out.box.lt
  have hi4 : (i : Int) < 4 := by omega
  simp [Vw.arr] at y2 y3 v0 v1
  rw [HP.out] at y2
  clear hB0 hX0
  have HR : Hid (V.copiesB o mode N back i = false) := by unfold Hid; simp [Vw.copiesB, heq, hcd]
  rw [hcp] at v1
  rw [hcd] at vc
  rw [heq] at y3
  have HQ := hid heq
  clear heq
  go_enter Try.func20, Try.ntmps20
  go_wp2_with fail
  rw [← hW0]
  clear hW0
  refine wp_region_calmD 30 (fun wx => Below W0.heap.size W0 wx) [(0, true), (1, false), (2, true), (3, true), (4, true), (5, false), (6, true), (7, true), (8, true), (9, false), (10, true), (11, true), (12, true), (13, false), (14, true), (15, true), (16, true), (17, true), (18, true), (19, false), (20, true), (21, true), (22, true), (23, false), (24, true), (25, true), (26, true), (27, false), (28, true), (29, true), (30, true)] [] (by kernel_rfl) (by kernel_rfl) (Below.refl _ _).drew ?_
  refine wpPre_e rfl rfl (fun K1 hK1 => ?_)
  apply Exists.intro
  refine And.intro (fun wx hx => ?_) ?_
  · go_simp
    try rfl
  go_simp
  refine hK1 _ ?_
  clear hK1 K1
  refine wpPre_e rfl rfl (fun K1 hK1 => ?_)
  apply Exists.intro
  refine And.intro (fun wx hx => ?_) ?_
  · have e0 := below_fact hx rfl y2
    have e1 := below_fact hx rfl y3
    have e2 := below_fact hx rfl v0
    have e3 := below_fact hx rfl v1
    have e4 := below_fact hx rfl vc
    go_simp
    try rfl
  go_simp
  refine hK1 _ ?_
  clear hK1 K1
  refine wpPre_e rfl rfl (fun K1 hK1 => ?_)
  apply Exists.intro
  refine And.intro (fun wx hx => ?_) ?_
  · go_simp
    try rfl
  go_simp
  refine hK1 _ ?_
  clear hK1 K1
  refine wpPre_e rfl rfl (fun K1 hK1 => ?_)
  apply Exists.intro
  refine And.intro (fun wx hx => ?_) ?_
  · go_simp
    try rfl
  go_simp
  refine hK1 _ ?_
  clear hK1 K1
  refine wpPre_e rfl rfl (fun K1 hK1 => ?_)
  apply Exists.intro
  refine And.intro (fun wx hx => ?_) ?_
  · go_simp
    try rfl
  go_simp
  refine hK1 _ ?_
  clear hK1 K1
  refine wpPre_e rfl rfl (fun K1 hK1 => ?_)
  apply Exists.intro
  refine And.intro (fun wx hx => ?_) ?_
  · have e0 := below_fact hx rfl y2
    have e1 := below_fact hx rfl y3
    have e2 := below_fact hx rfl v0
    have e3 := below_fact hx rfl v1
    have e4 := below_fact hx rfl vc
    go_simp
    try rfl
  go_simp
  refine hK1 _ ?_
  clear hK1 K1
  refine wpPre_e rfl rfl (fun K1 hK1 => ?_)
  apply Exists.intro
  refine And.intro (fun wx hx => ?_) ?_
  · go_simp
    try rfl
  go_simp
  refine hK1 _ ?_
  clear hK1 K1
  refine wpPre_e rfl rfl (fun K1 hK1 => ?_)
  apply Exists.intro
  refine And.intro (fun wx hx => ?_) ?_
  · go_simp
    try rfl
  go_simp
  refine hK1 _ ?_
  clear hK1 K1
  refine wpPre_i rfl (fun K1 hK1 => ?_)
  rw [if_pos (by go_simp)]
  apply Exists.intro
  refine And.intro (fun wx hx => ?_) ?_
  · go_simp
    try rfl
  go_simp
  refine hK1 _ ?_
  clear hK1 K1
  refine wpPre_i rfl (fun K1 hK1 => ?_)
  rw [if_pos (by go_simp)]
  apply Exists.intro
  refine And.intro (fun wx hx => ?_) ?_
  · have e0 := below_fact hx rfl y2
    have e1 := below_fact hx rfl y3
    have e2 := below_fact hx rfl v0
    have e3 := below_fact hx rfl v1
    have e4 := below_fact hx rfl vc
    go_simp
    try rfl
  go_simp
  refine hK1 _ ?_
  clear hK1 K1
  refine wpPre_i rfl (fun K1 hK1 => ?_)
  rw [if_pos (by go_simp)]
  apply Exists.intro
  refine And.intro (fun wx hx => ?_) ?_
  · go_simp
    try rfl
  go_simp
  refine hK1 _ ?_
  clear hK1 K1
  refine wpPre_i rfl (fun K1 hK1 => ?_)
  rw [if_pos (by go_simp)]
  apply Exists.intro
  refine And.intro (fun wx hx => ?_) ?_
  · go_simp
    try rfl
  go_simp
  refine hK1 _ ?_
  clear hK1 K1
  refine wpPre_i rfl (fun K1 hK1 => ?_)
  rw [if_pos (by go_simp)]
  apply Exists.intro
  refine And.intro (fun wx hx => ?_) ?_
  · go_simp
    try rfl
  go_simp
  refine hK1 _ ?_
  clear hK1 K1
  refine wpPre_i rfl (fun K1 hK1 => ?_)
  rw [if_pos (by go_simp)]
  apply Exists.intro
  refine And.intro (fun wx hx => ?_) ?_
  · have e0 := below_fact hx rfl y2
    have e1 := below_fact hx rfl y3
    have e2 := below_fact hx rfl v0
    have e3 := below_fact hx rfl v1
    have e4 := below_fact hx rfl vc
    go_simp
    try rfl
  go_simp
  refine hK1 _ ?_
  clear hK1 K1
  refine wpPre_i rfl (fun K1 hK1 => ?_)
  rw [if_pos (by go_simp)]
  apply Exists.intro
  refine And.intro (fun wx hx => ?_) ?_
  · go_simp
    try rfl
  go_simp
  refine hK1 _ ?_
  clear hK1 K1
  refine wpPre_i rfl (fun K1 hK1 => ?_)
  rw [if_pos (by go_simp)]
  apply Exists.intro
  refine And.intro (fun wx hx => ?_) ?_
  · go_simp
    try rfl
  go_simp
  refine hK1 _ ?_
  clear hK1 K1
  refine wpPre_i rfl (fun K1 hK1 => ?_)
  rw [if_pos (by go_simp)]
  apply Exists.intro
  refine And.intro (fun wx hx => ?_) ?_
  · go_simp
    try rfl
  go_simp
  refine hK1 _ ?_
  clear hK1 K1
  refine wpPre_i rfl (fun K1 hK1 => ?_)
  rw [if_pos (by go_simp)]
  apply Exists.intro
  refine And.intro (fun wx hx => ?_) ?_
  · go_simp
    try rfl
  go_simp
  refine hK1 _ ?_
  clear hK1 K1
  refine wpPre_i rfl (fun K1 hK1 => ?_)
  rw [if_pos (by go_simp)]
  apply Exists.intro
  refine And.intro (fun wx hx => ?_) ?_
  · go_simp
    try rfl
  go_simp
  refine hK1 _ ?_
  clear hK1 K1
  refine wpPre_i rfl (fun K1 hK1 => ?_)
  rw [if_pos (by go_simp)]
  apply Exists.intro
  refine And.intro (fun wx hx => ?_) ?_
  · have e0 := below_fact hx rfl y2
    have e1 := below_fact hx rfl y3
    have e2 := below_fact hx rfl v0
    have e3 := below_fact hx rfl v1
    have e4 := below_fact hx rfl vc
    go_simp
    try rfl
  go_simp
  refine hK1 _ ?_
  clear hK1 K1
  refine wpPre_i rfl (fun K1 hK1 => ?_)
  rw [if_pos (by go_simp)]
  apply Exists.intro
  refine And.intro (fun wx hx => ?_) ?_
  · go_simp
    try rfl
  go_simp
  refine hK1 _ ?_
  clear hK1 K1
  refine wpPre_i rfl (fun K1 hK1 => ?_)
  rw [if_pos (by go_simp)]
  apply Exists.intro
  refine And.intro (fun wx hx => ?_) ?_
  · go_simp
    try rfl
  go_simp
  refine hK1 _ ?_
  clear hK1 K1
  refine wpPre_i rfl (fun K1 hK1 => ?_)
  rw [if_pos (by go_simp)]
  apply Exists.intro
  refine And.intro (fun wx hx => ?_) ?_
  · go_simp
    try rfl
  go_simp
  refine hK1 _ ?_
  clear hK1 K1
  refine wpPre_i rfl (fun K1 hK1 => ?_)
  rw [if_pos (by go_simp)]
  apply Exists.intro
  refine And.intro (fun wx hx => ?_) ?_
  · have e0 := below_fact hx rfl y2
    have e1 := below_fact hx rfl y3
    have e2 := below_fact hx rfl v0
    have e3 := below_fact hx rfl v1
    have e4 := below_fact hx rfl vc
    go_simp
    try rfl
  go_simp
  refine hK1 _ ?_
  clear hK1 K1
  refine wpPre_i rfl (fun K1 hK1 => ?_)
  rw [if_pos (by go_simp)]
  apply Exists.intro
  refine And.intro (fun wx hx => ?_) ?_
  · go_simp
    try rfl
  go_simp
  refine hK1 _ ?_
  clear hK1 K1
  refine wpPre_i rfl (fun K1 hK1 => ?_)
  rw [if_pos (by go_simp)]
  apply Exists.intro
  refine And.intro (fun wx hx => ?_) ?_
  · go_simp
    try rfl
  go_simp
  refine hK1 _ ?_
  clear hK1 K1
  refine wpPre_i rfl (fun K1 hK1 => ?_)
  rw [if_pos (by go_simp)]
  apply Exists.intro
  refine And.intro (fun wx hx => ?_) ?_
  · go_simp
    try rfl
  go_simp
  refine hK1 _ ?_
  clear hK1 K1
  refine wpPre_i rfl (fun K1 hK1 => ?_)
  rw [if_pos (by go_simp)]
  apply Exists.intro
  refine And.intro (fun wx hx => ?_) ?_
  · have e0 := below_fact hx rfl y2
    have e1 := below_fact hx rfl y3
    have e2 := below_fact hx rfl v0
    have e3 := below_fact hx rfl v1
    have e4 := below_fact hx rfl vc
    go_simp
    try rfl
  go_simp
  refine hK1 _ ?_
  clear hK1 K1
  refine wpPre_i rfl (fun K1 hK1 => ?_)
  rw [if_pos (by go_simp)]
  apply Exists.intro
  refine And.intro (fun wx hx => ?_) ?_
  · go_simp
    try rfl
  go_simp
  refine hK1 _ ?_
  clear hK1 K1
  refine wpPre_i rfl (fun K1 hK1 => ?_)
  rw [if_pos (by go_simp)]
  apply Exists.intro
  refine And.intro (fun wx hx => ?_) ?_
  · go_simp
    try rfl
  go_simp
  refine hK1 _ ?_
  clear hK1 K1
  refine wpPre_e rfl rfl (fun K1 hK1 => ?_)
  apply Exists.intro
  refine And.intro (fun wx hx => ?_) ?_
  · go_simp
    try rfl
  go_simp
  refine hK1 _ ?_
  clear hK1 K1
  refine wpPre_nil ?_
  refine wpStg_nil ?_
  go_wp2
  refine bodyPost_ret (v := .bool false) (by simp [results, Try.results20, go_sem]) rfl ⟨by rw [HR.out], HB0.out.drew⟩
end Go.Proofs.Ytdncnnjhfipokaa

namespace Go.Proofs.Ytdncnnjhfipokaa
open Go.RowKit
set_option maxRecDepth 8000
/-- the book and what the statement sees of it -/
structure HJ (K : Bk) (V : Vw) : Prop where
  id : V.id = K.now
  cp : V.cp = K.cp
  cd : ∀ p, p < 4 → V.cd p = !(K.st p == 0)
  h1 : ∀ p, p < 4 → (K.st p = 2 ↔ (K.mode = 1 ∧ K.cp = false ∧ K.st p ≠ 0))
  z : K.now = 0 → ∀ p, p < 4 → K.st p = 0
  al : K.mode = 1 → K.cp = true → K.alig = true
theorem Bk.alig_congr {K K' : Bk} (hp : K'.ports = K.ports) (hb : K'.back = K.back) (h : ∀ p, p < K.ports.toNat → (K'.st p = 0 ↔ K.st p = 0)) : K'.alig = K.alig := by
  unfold Bk.alig
  rw [hp]
  apply Bool.eq_iff_iff.2
  simp only [List.all_eq_true, List.mem_range]
  refine forall_congr' fun p => forall_congr' fun hlt => ?_
  unfold Bk.okP
  rw [hb]
  have := h p hlt
  by_cases e : K.st p = 0
  · simp [e, this.2 e]
  · have e' : ¬ K'.st p = 0 := fun x => e (this.1 x)
    simp [e, e']
theorem HJ.fresh (mode ports back : Int) : HJ (Bk.fresh mode ports back) (Vw.fresh 0) :=
  ⟨rfl, rfl, fun p _ => by simp [Vw.fresh, Bk.fresh], fun p _ => by simp [Bk.fresh], fun _ _ _ => rfl, fun _ h => by cases h⟩
theorem HJ.took {x : Int} {r : RT} {w w' : World} {b : Nat} {K K' : Bk} {V : Vw} (j : HJ K V) (q : TookQ x r w b K w' K') : HJ K' V := by
  rcases e : K.lays x with _ | _
  · rw [q.n e]; exact j
  · obtain ⟨u, p, cc, _, _, rfl⟩ := q.y e
    exact ⟨j.id, j.cp, j.cd, j.h1, j.z, j.al⟩
theorem HJ.held {K : Bk} {V : Vw} (j : HJ K V) (h0 : 0 ≤ K.now) {i : Nat} (hi : i < 4) (hh : K.has (i : Int) = true) : K.held (i : Int) = (decide (K.mode = 1) && (decide (0 < V.id) && (!V.cp && V.cd i))) := by
  unfold Bk.held
  rw [hh, Bool.true_and, show ((i : Int)).toNat = i by omega, j.id, j.cp, j.cd i hi]
  apply Bool.eq_iff_iff.2
  simp only [beq_iff_eq, Bool.and_eq_true, decide_eq_true_eq, Bool.not_eq_true', beq_eq_false_iff_ne, ne_eq, j.h1 i hi]
  constructor
  · rintro ⟨a, b, c⟩
    refine ⟨a, ?_, b, c⟩
    rcases (by omega : 0 < K.now ∨ K.now = 0) with h | h
    · exact h
    · exact absurd (j.z h i hi) c
  · rintro ⟨a, _, b, c⟩; exact ⟨a, b, c⟩
theorem HJ.base {K : Bk} {V : Vw} (j : HJ K V) {id : Int} (h1 : 1 ≤ id) : HJ (K.base id) (V.base id) := by
  unfold Bk.base Vw.base
  rw [j.id]
  split
  · exact ⟨rfl, rfl, fun p _ => by simp [Vw.fresh, Bk.begin], fun p _ => by simp [Bk.begin], fun h => absurd (show id = 0 from h) (by omega), fun _ h => by cases h⟩
  · exact j
theorem Bk.shutS_two (K : Bk) (hm : K.mode = 1) (i : Nat) (p : Nat) (hp : p < 4) : ((K.setSt i 2).alig = true → K.shutS i p ≠ 2) ∧ ((K.setSt i 2).alig = false → K.shutS i p = if p = i then 2 else K.st p) := by
  unfold Bk.shutS
  rw [if_pos hm]
  constructor
  · intro h
    rw [if_pos h]
    simp only [Bk.rel]
    split
    · decide
    · rename_i hc; exact fun e => hc ⟨hp, e⟩
  · intro h
    rw [if_neg (by rw [h]; decide)]
    rfl
theorem HJ.mark {i : Nat} {id : Int} {o : OpT} {a : LT RT} {num : Int} {l : LT VT} {q : LT RT} {w w' u u' : World} {b vb : Nat} {K K' : Bk} {V V' : Vw} {r : Bool} {mode : Int} (j : HJ K V) (hi : i < 4) (hid : o.id = id) (hre : K.refE (i : Int) id = 0) (m : MarkQ (i : Int) id a num l q w b K w' K' r) (s : SeesQ o r mode i u vb V u' V') : HJ K' V' := by
  have hh : K.has (i : Int) = true := by
    rcases h : K.has (i : Int) with _ | _
    · rw [Bk.refE, if_pos h] at hre; cases hre
    · rfl
  have hid0 : 1 ≤ id := by
    rw [Bk.refE, if_neg (by rw [hh]; decide)] at hre
    by_cases h : id < 1 ∨ 9999 < id
    · rw [if_pos h] at hre; cases hre
    · omega
  have htn : ((i : Int)).toNat = i := by omega
  have hsk : V.skips o i = !(K.marks (i : Int) id) := by
    unfold Vw.skips Bk.marks
    rw [hid, j.id, j.cd i hi, hre, htn]
    rcases (by omega : id < K.now ∨ id = K.now ∨ K.now < id) with h | h | h
    · have h1 : ¬ K.now < id := by omega
      have h2 : ¬ id = K.now := by omega
      simp [h, h1, h2]
    · subst h; simp
    · have h1 : ¬ id < K.now := by omega
      have h2 : ¬ id = K.now := by omega
      simp [h, h1, h2]
  rcases e : K.marks (i : Int) id with _ | _
  · rw [(m.n e).1, s.sk (by rw [hsk, e]; rfl)]; exact j
  have hs : V.skips o i = false := by rw [hsk, e]; rfl
  obtain ⟨w1, _, hr, hQ⟩ := m.y e
  rw [htn] at hr hQ
  have j1 := j.base hid0
  have hpos := hQ.b.now
  have hR := hQ.b.cp
  have hzero : ∀ p, K'.st p = 0 ↔ ((K.base id).st p = 0 ∧ p ≠ i) := fun p => by rw [hQ.st]; exact Bk.shutS_zero _ _ _
  have hsetz : ∀ p, ((K.base id).setSt i 2).st p = 0 ↔ ((K.base id).st p = 0 ∧ p ≠ i) := fun p => by
    simp only [Bk.setSt]
    by_cases h : p = i
    · subst h; simp
    · simp [h]
  have hal : K'.alig = ((K.base id).setSt i 2).alig := Bk.alig_congr hQ.b.ports hQ.b.back (fun p _ => (hzero p).trans (hsetz p).symm)
  have hali : (K.base id).alig = true → ((K.base id).setSt i 2).alig = true := by
    intro h
    unfold Bk.alig at h ⊢
    rw [List.all_eq_true] at h ⊢
    intro p hp
    have h2 := h p hp
    unfold Bk.okP at h2 ⊢
    simp only [Bk.setSt]
    by_cases hpi : p = i
    · subst hpi; simp
    · simpa [hpi] using h2
  have hnow1 : (K.base id).now = id := by
    unfold Bk.base
    split
    · rfl
    · simp only [Bk.marks, Bool.and_eq_true, Bool.or_eq_true, decide_eq_true_eq, beq_iff_eq] at e
      rcases e.2 with h | h
      · exact absurd h (by assumption)
      · exact h.1.symm
  refine ⟨?_, ?_, fun p hp => ?_, fun p hp => ?_, fun h => ?_, fun hm hc => ?_⟩
  · rw [s.id hs, hpos, hid, hnow1]
  · rw [s.cp hs, hR, hid, j1.cp, hr]
  · rw [s.cd hs]
    simp only [Vw.close]
    by_cases hpi : p = i
    · rw [if_pos hpi]
      have : ¬ K'.st p = 0 := fun x => ((hzero p).1 x).2 hpi
      simp [this]
    · rw [if_neg hpi, hid, j1.cd p hp]
      have h0 := hzero p
      by_cases hz : (K.base id).st p = 0
      · simp [hz, h0.2 ⟨hz, hpi⟩]
      · have this : ¬ K'.st p = 0 := fun x => hz (h0.1 x).1
        have e1 : ((K.base id).st p == 0) = false := by simpa using hz
        have e2 : (K'.st p == 0) = false := by simpa using this
        rw [e1, e2]
  · rw [hQ.b.mode]
    by_cases hm : (K.base id).mode = 1
    · obtain ⟨t1, t2⟩ := Bk.shutS_two (K.base id) hm i p hp
      rw [hQ.st] at *
      rcases hA : ((K.base id).setSt i 2).alig with _ | _
      · have hcp : (K.base id).cp = false := by
          rcases h : (K.base id).cp with _ | _
          · rfl
          · rw [hali (j1.al hm h)] at hA; cases hA
        have hcp' : K'.cp = false := by rw [hR, hcp, Bk.shutR, if_pos hm, hA]; rfl
        rw [t2 hA, hcp']
        by_cases hpi : p = i
        · simp [hpi, hm]
        · simp only [if_neg hpi]
          have := j1.h1 p hp
          rw [hcp] at this
          simpa using this
      · have hcp' : K'.cp = true := by rw [hR, Bk.shutR, if_pos hm, hA]; cases (K.base id).cp <;> rfl
        constructor
        · intro h; exact absurd h (t1 hA)
        · rintro ⟨_, h, _⟩; rw [hcp'] at h; cases h
    · constructor
      · intro h
        exfalso
        rw [hQ.st, Bk.shutS, if_neg hm] at h
        simp only [Bk.setSt] at h
        by_cases hpi : p = i
        · rw [if_pos hpi] at h; cases h
        · rw [if_neg hpi] at h
          exact hm ((j1.h1 p hp).1 h).1
      · rintro ⟨h, _⟩; exact absurd h hm
  · rw [hpos, hnow1] at h; omega
  · rw [hal]
    rw [hQ.b.mode] at hm
    rcases hA : ((K.base id).setSt i 2).alig with _ | _
    · rw [hR, Bk.shutR, if_pos hm, hA] at hc
      simp at hc
      rw [hali (j1.al hm hc)] at hA; cases hA
    · rfl
theorem HJ.copies {i N : Nat} {id : Int} {o : OpT} {a : LT RT} {num : Int} {l : LT VT} {q : LT RT} {w w' : World} {b : Nat} {K K' : Bk} {V : Vw} {r : Bool} (j : HJ K V) (hi : i < 4) (hN : N ≤ 4) (hp : K.ports = (N : Int)) (hid : o.id = id) (hre : K.refE (i : Int) id = 0) (m : MarkQ (i : Int) id a num l q w b K w' K' r) : V.copiesB o K.mode N K.back i = r := by
  have htn : ((i : Int)).toNat = i := by omega
  have hpt : K.ports.toNat = N := by omega
  unfold Vw.copiesB
  rw [hid, j.id, j.cp, j.cd i hi]
  rcases e : K.marks (i : Int) id with _ | _
  · rw [(m.n e).2]
    simp only [Bk.marks, hre, htn, beq_self_eq_true, Bool.true_and, Bool.or_eq_false_iff, decide_eq_false_iff_not, Bool.and_eq_false_iff, beq_eq_false_iff_ne] at e
    obtain ⟨e1, e2⟩ := e
    rcases (by omega : id < K.now ∨ id = K.now) with h | h
    · simp [h]
    · have : ¬ K.st i = 0 := by rcases e2 with e2 | e2; exact absurd h e2; exact e2
      simp [h, this]
  obtain ⟨w1, _, hr, hQ⟩ := m.y e
  rw [htn] at hr
  rw [hr]
  simp only [Bk.marks, hre, htn, beq_self_eq_true, Bool.true_and, Bool.or_eq_true, decide_eq_true_eq, Bool.and_eq_true, beq_iff_eq] at e
  by_cases hgt : K.now < id
  · have hb : K.base id = K.begin id := by rw [Bk.base, if_pos hgt]
    have h1 : ¬ id < K.now := by omega
    have h2 : ¬ id = K.now := by omega
    rw [hb]
    unfold Bk.shutR
    by_cases hm : K.mode = 1
    · have hm2 : (K.begin id).mode = 1 := hm
      rw [if_pos hm2]
      simp only [h1, hm, decide_false, Bool.false_or]
      unfold Bk.alig
      rw [show ((K.begin id).setSt i 2).ports = K.ports from rfl, hpt]
      simp only [show (K.begin id).cp = false from rfl, Bool.not_false, Bool.and_true]
      have : ∀ p, V.okC o K.back i p = ((K.begin id).setSt i 2).okP p := fun p => by
        unfold Vw.okC Bk.okP
        rw [hid, j.id]
        simp only [Bk.setSt, Bk.begin]
        by_cases hpi : p = i
        · simp [hpi]
        · simp [hpi, h2]
      simp [this, h2]
    · have hm2 : ¬ (K.begin id).mode = 1 := hm
      rw [if_neg hm2]
      simp [h1, h2, hm, Bk.begin]
  · have hb : K.base id = K := by rw [Bk.base, if_neg hgt]
    rw [hb]
    obtain ⟨rfl, hst⟩ : id = K.now ∧ K.st i = 0 := by
      rcases e with h | h
      · exact absurd h hgt
      · exact h
    unfold Bk.shutR
    by_cases hm : K.mode = 1
    · rw [if_pos hm]
      unfold Bk.alig
      rw [show (K.setSt i 2).ports = K.ports from rfl, hpt]
      have : ∀ p, p ∈ List.range N → V.okC o K.back i p = (K.setSt i 2).okP p := fun p hp2 => by
        have hp4 : p < 4 := by have := List.mem_range.1 hp2; omega
        unfold Vw.okC Bk.okP
        rw [hid, j.id, j.cd p hp4]
        simp only [Bk.setSt]
        by_cases hpi : p = i
        · simp [hpi]
        · have e1 : (p == i) = false := by simpa using hpi
          simp [hpi, e1]
      have hall : ((List.range N).all fun p => V.okC o K.back i p) = (List.range N).all fun p => (K.setSt i 2).okP p := by
        apply Bool.eq_iff_iff.2
        simp only [List.all_eq_true]
        exact ⟨fun h p hp2 => by rw [← this p hp2]; exact h p hp2, fun h p hp2 => by rw [this p hp2]; exact h p hp2⟩
      rw [hall]
      cases K.cp <;> simp [hm, hst]
    · rw [if_neg hm]
      cases K.cp <;> simp [hm, hst]
end Go.Proofs.Ytdncnnjhfipokaa
