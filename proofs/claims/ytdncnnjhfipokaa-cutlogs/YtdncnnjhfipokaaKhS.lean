import Derived.Test.YtdncnnjhfipokaaPack15
import Derived.Deep.DeepCutAuto
namespace Go.Proofs.Ytdncnnjhfipokaa
open Go.RowKit
set_option maxRecDepth 8000
set_option maxHeartbeats 8000000 in
theorem seesA (o : OpT) (x : Bool) (mode : Int) (i : Nat) (hi : i < 4) (hpi : o.port = (i : Int)) (w : World) (S : Nat → Prop) (vb : Nat) (V : Vw) (hV : VwI w vb V) (hS : ∀ k, S k → ¬ V.C vb k) (hin : OpT.In w S o) (hs : OpSz o) (_hnl0 : (V.lg i).n ≤ 1000000000) (hlt : o.id < V.id) :
    Calls Try.prog 21 #[.pointer (some ⟨vb, 0, none⟩), .agg #[.int .i64 o.kind, .int .i64 o.which, .int .i64 o.port, .int .i64 o.id, .string o.r.key, .int .i64 o.r.v.kind, .int .i64 o.r.v.int, .string o.r.v.text, .slice o.r.v.p o.r.v.n o.r.v.c, .slice o.r.p o.r.n o.r.c, .slice o.a.p o.a.n o.a.c, .slice o.q.p o.q.n o.q.c, .int .i64 o.num, .slice o.l.p o.l.n o.l.c], .bool x, .int .i64 mode] w fun e w' => e = .returned (.tuple #[]) ∧ ∃ V', SeesQ o x mode i w vb V w' V' := by
  have HP := hid hpi
  clear hpi
  obtain ⟨W0, hW0⟩ : ∃ x, x = w.alloc (.cells #[.int .i64 o.kind, .int .i64 o.which, .int .i64 o.port, .int .i64 o.id, .string o.r.key, .int .i64 o.r.v.kind, .int .i64 o.r.v.int, .string o.r.v.text, .slice o.r.v.p o.r.v.n o.r.v.c, .slice o.r.p o.r.n o.r.c, .slice o.a.p o.a.n o.a.c, .slice o.q.p o.q.n o.q.c, .int .i64 o.num, .slice o.l.p o.l.n o.l.c] 42) := ⟨_, rfl⟩
  have hB0 : Below w.heap.size w W0 := by rw [hW0]; exact (Below.refl _ _).alloc (Nat.le_refl _) _
  have hX0 : Box W0 w.heap.size #[.int .i64 o.kind, .int .i64 o.which, .int .i64 o.port, .int .i64 o.id, .string o.r.key, .int .i64 o.r.v.kind, .int .i64 o.r.v.int, .string o.r.v.text, .slice o.r.v.p o.r.v.n o.r.v.c, .slice o.r.p o.r.n o.r.c, .slice o.a.p o.a.n o.a.c, .slice o.q.p o.q.n o.q.c, .int .i64 o.num, .slice o.l.p o.l.n o.l.c] 42 := by rw [hW0]; exact Box.new _ _ _
  have HB0 := hid hB0
  have HX0 := hid hX0
  have HV0 := hid (hV.below hB0)
  have HNo : Hid (¬ V.C vb w.heap.size) := fun e => by have := hV.lt e; omega
  have HLk : Hid (∀ (W : World) (V1 : Vw), VSet W0 vb V W V1 → OpT.In W (fun k => S k ∧ k < w.heap.size) o) := fun W V1 g => (OpT.In.mono hin fun k hk hl => ⟨hk, hl⟩).kept (Nat.le_trans hB0.size g.but.size) (fun k hk _ => (g.but.block k (by have := hB0.size; omega) (hS k hk.1)).trans (hB0.block k hk.2))
  have HSz := hid hs
  obtain ⟨i0, Kd⟩ := kindRs
  have HKd := hid Kd
  have y2 := hX0.cell 2
  have y3 := hX0.cell 3
  have v0 := HV0.out.box.cell 0
  have vc := HV0.out.cs hi
  have ol := hX0.lt
  have vl0 := HV0.out.box.lt
  have hi4 : (i : Int) < 4 := by omega
  simp [Vw.arr] at y2 y3 v0
  rw [HP.out] at y2
  clear hB0 hX0 hs Kd hin
  have hsk : Hid (V.skips o i = true) := by unfold Hid; simp [Vw.skips, hlt]
  go_enter Try.func21, Try.ntmps21
  go_wp2_with fail
  rw [← hW0]
  clear hW0
  refine wp_region_calmD 30 (fun wx => Below W0.heap.size W0 wx) [(0, true), (1, false), (2, true), (3, true), (4, true), (5, false), (6, true), (7, true), (8, true), (9, false), (10, true), (11, true), (12, true), (13, false), (14, true), (15, true), (16, true), (17, true), (18, false), (19, true), (20, true), (21, true), (22, false), (23, true), (24, true)] [] (by kernel_rfl) (by kernel_rfl) (Below.refl _ _).drew ?_
  refine wpPre_e rfl rfl (fun K1 hK1 => ?_)
  apply Exists.intro
  refine And.intro (fun wx hx => ?_) ?_
  · go_simp
    try rfl
  go_simp
  refine hK1 _ ?_
  clear hK1 K1
  refine wpPre_e rfl rfl (fun K1 hK1 => ?_)
  apply Exists.intro
  refine And.intro (fun wx hx => ?_) ?_
  · have e0 := below_fact hx rfl y2
    have e1 := below_fact hx rfl y3
    have e2 := below_fact hx rfl v0
    have e3 := below_fact hx rfl vc
    go_simp
    try rfl
  go_simp
  refine hK1 _ ?_
  clear hK1 K1
  refine wpPre_e rfl rfl (fun K1 hK1 => ?_)
  apply Exists.intro
  refine And.intro (fun wx hx => ?_) ?_
  · go_simp
    try rfl
  go_simp
  refine hK1 _ ?_
  clear hK1 K1
  refine wpPre_e rfl rfl (fun K1 hK1 => ?_)
  apply Exists.intro
  refine And.intro (fun wx hx => ?_) ?_
  · go_simp
    try rfl
  go_simp
  refine hK1 _ ?_
  clear hK1 K1
  refine wpPre_e rfl rfl (fun K1 hK1 => ?_)
  apply Exists.intro
  refine And.intro (fun wx hx => ?_) ?_
  · go_simp
    try rfl
  go_simp
  refine hK1 _ ?_
  clear hK1 K1
  refine wpPre_e rfl rfl (fun K1 hK1 => ?_)
  apply Exists.intro
  refine And.intro (fun wx hx => ?_) ?_
  · have e0 := below_fact hx rfl y2
    have e1 := below_fact hx rfl y3
    have e2 := below_fact hx rfl v0
    have e3 := below_fact hx rfl vc
    go_simp
    try rfl
  go_simp
  refine hK1 _ ?_
  clear hK1 K1
  refine wpPre_e rfl rfl (fun K1 hK1 => ?_)
  apply Exists.intro
  refine And.intro (fun wx hx => ?_) ?_
  · go_simp
    try rfl
  go_simp
  refine hK1 _ ?_
  clear hK1 K1
  refine wpPre_e rfl rfl (fun K1 hK1 => ?_)
  apply Exists.intro
  refine And.intro (fun wx hx => ?_) ?_
  · go_simp
    try rfl
  go_simp
  refine hK1 _ ?_
  clear hK1 K1
  refine wpPre_i rfl (fun K1 hK1 => ?_)
  rw [if_neg (by go_simp; all_goals (intro h; cases h))]
  go_simp
  refine hK1 _ ?_
  clear hK1 K1
  refine wpPre_i rfl (fun K1 hK1 => ?_)
  rw [if_neg (by go_simp; all_goals (intro h; cases h))]
  go_simp
  refine hK1 _ ?_
  clear hK1 K1
  refine wpPre_i rfl (fun K1 hK1 => ?_)
  rw [if_neg (by go_simp; all_goals (intro h; cases h))]
  go_simp
  refine hK1 _ ?_
  clear hK1 K1
  refine wpPre_i rfl (fun K1 hK1 => ?_)
  rw [if_neg (by go_simp; all_goals (intro h; cases h))]
  go_simp
  refine hK1 _ ?_
  clear hK1 K1
  refine wpPre_i rfl (fun K1 hK1 => ?_)
  rw [if_neg (by go_simp; all_goals (intro h; cases h))]
  go_simp
  refine hK1 _ ?_
  clear hK1 K1
  refine wpPre_i rfl (fun K1 hK1 => ?_)
  rw [if_neg (by go_simp; all_goals (intro h; cases h))]
  go_simp
  refine hK1 _ ?_
  clear hK1 K1
  refine wpPre_i rfl (fun K1 hK1 => ?_)
  rw [if_neg (by go_simp; all_goals (intro h; cases h))]
  go_simp
  refine hK1 _ ?_
  clear hK1 K1
  refine wpPre_i rfl (fun K1 hK1 => ?_)
  rw [if_neg (by go_simp; all_goals (intro h; cases h))]
  go_simp
  refine hK1 _ ?_
  clear hK1 K1
  refine wpPre_i rfl (fun K1 hK1 => ?_)
  rw [if_neg (by go_simp; all_goals (intro h; cases h))]
  go_simp
  refine hK1 _ ?_
  clear hK1 K1
  refine wpPre_i rfl (fun K1 hK1 => ?_)
  rw [if_neg (by go_simp; all_goals (intro h; cases h))]
  go_simp
  refine hK1 _ ?_
  clear hK1 K1
  refine wpPre_i rfl (fun K1 hK1 => ?_)
  rw [if_neg (by go_simp; all_goals (intro h; cases h))]
  go_simp
  refine hK1 _ ?_
  clear hK1 K1
  refine wpPre_i rfl (fun K1 hK1 => ?_)
  rw [if_neg (by go_simp; all_goals (intro h; cases h))]
  go_simp
  refine hK1 _ ?_
  clear hK1 K1
  refine wpPre_i rfl (fun K1 hK1 => ?_)
  rw [if_neg (by go_simp; all_goals (intro h; cases h))]
  go_simp
  refine hK1 _ ?_
  clear hK1 K1
  refine wpPre_i rfl (fun K1 hK1 => ?_)
  rw [if_neg (by go_simp; all_goals (intro h; cases h))]
  go_simp
  refine hK1 _ ?_
  clear hK1 K1
  refine wpPre_i rfl (fun K1 hK1 => ?_)
  rw [if_neg (by go_simp; all_goals (intro h; cases h))]
  go_simp
  refine hK1 _ ?_
  clear hK1 K1
  refine wpPre_i rfl (fun K1 hK1 => ?_)
  rw [if_neg (by go_simp; all_goals (intro h; cases h))]
  go_simp
  refine hK1 _ ?_
  clear hK1 K1
  refine wpPre_e rfl rfl (fun K1 hK1 => ?_)
  apply Exists.intro
  refine And.intro (fun wx hx => ?_) ?_
  · go_simp
    try rfl
  go_simp
  refine hK1 _ ?_
  clear hK1 K1
  refine wpPre_nil ?_
  refine wpStg_nil ?_
  go_wp2
  refine bodyPost_ret (v := .tuple #[]) (by simp [results, Try.results21, go_sem]) rfl ⟨rfl, V, (VSet.same hV HB0.out).drew, fun _ => rfl, fun h => (by rw [hsk.out] at h; cases h), fun h => (by rw [hsk.out] at h; cases h), fun h => (by rw [hsk.out] at h; cases h), fun h => (by rw [hsk.out] at h; cases h), fun h => (by rw [hsk.out] at h; cases h), fun h => (by rw [hsk.out] at h; cases h), fun h => (by rw [hsk.out] at h; cases h), fun h => (by rw [hsk.out] at h; cases h), fun h => (by rw [hsk.out] at h; cases h)⟩
set_option maxHeartbeats 8000000 in
theorem seesB (o : OpT) (x : Bool) (mode : Int) (i : Nat) (hi : i < 4) (hpi : o.port = (i : Int)) (w : World) (S : Nat → Prop) (vb : Nat) (V : Vw) (hV : VwI w vb V) (hS : ∀ k, S k → ¬ V.C vb k) (hin : OpT.In w S o) (hs : OpSz o) (_hnl0 : (V.lg i).n ≤ 1000000000) (heq : o.id = V.id) (hcd : V.cd i = true) :
    Calls Try.prog 21 #[.pointer (some ⟨vb, 0, none⟩), .agg #[.int .i64 o.kind, .int .i64 o.which, .int .i64 o.port, .int .i64 o.id, .string o.r.key, .int .i64 o.r.v.kind, .int .i64 o.r.v.int, .string o.r.v.text, .slice o.r.v.p o.r.v.n o.r.v.c, .slice o.r.p o.r.n o.r.c, .slice o.a.p o.a.n o.a.c, .slice o.q.p o.q.n o.q.c, .int .i64 o.num, .slice o.l.p o.l.n o.l.c], .bool x, .int .i64 mode] w fun e w' => e = .returned (.tuple #[]) ∧ ∃ V', SeesQ o x mode i w vb V w' V' := by
  have HP := hid hpi
  clear hpi
  obtain ⟨W0, hW0⟩ : ∃ x, x = w.alloc (.cells #[.int .i64 o.kind, .int .i64 o.which, .int .i64 o.port, .int .i64 o.id, .string o.r.key, .int .i64 o.r.v.kind, .int .i64 o.r.v.int, .string o.r.v.text, .slice o.r.v.p o.r.v.n o.r.v.c, .slice o.r.p o.r.n o.r.c, .slice o.a.p o.a.n o.a.c, .slice o.q.p o.q.n o.q.c, .int .i64 o.num, .slice o.l.p o.l.n o.l.c] 42) := ⟨_, rfl⟩
  have hB0 : Below w.heap.size w W0 := by rw [hW0]; exact (Below.refl _ _).alloc (Nat.le_refl _) _
  have hX0 : Box W0 w.heap.size #[.int .i64 o.kind, .int .i64 o.which, .int .i64 o.port, .int .i64 o.id, .string o.r.key, .int .i64 o.r.v.kind, .int .i64 o.r.v.int, .string o.r.v.text, .slice o.r.v.p o.r.v.n o.r.v.c, .slice o.r.p o.r.n o.r.c, .slice o.a.p o.a.n o.a.c, .slice o.q.p o.q.n o.q.c, .int .i64 o.num, .slice o.l.p o.l.n o.l.c] 42 := by rw [hW0]; exact Box.new _ _ _
  have HB0 := hid hB0
  have HX0 := hid hX0
  have HV0 := hid (hV.below hB0)
  have HNo : Hid (¬ V.C vb w.heap.size) := fun e => by have := hV.lt e; omega
  have HLk : Hid (∀ (W : World) (V1 : Vw), VSet W0 vb V W V1 → OpT.In W (fun k => S k ∧ k < w.heap.size) o) := fun W V1 g => (OpT.In.mono hin fun k hk hl => ⟨hk, hl⟩).kept (Nat.le_trans hB0.size g.but.size) (fun k hk _ => (g.but.block k (by have := hB0.size; omega) (hS k hk.1)).trans (hB0.block k hk.2))
  have HSz := hid hs
  obtain ⟨i0, Kd⟩ := kindRs
  have HKd := hid Kd
  have y2 := hX0.cell 2
  have y3 := hX0.cell 3
  have v0 := HV0.out.box.cell 0
  have vc := HV0.out.cs hi
  have ol := hX0.lt
  have vl0 := HV0.out.box.lt
  have hi4 : (i : Int) < 4 := by omega
  simp [Vw.arr] at y2 y3 v0
  rw [HP.out] at y2
  clear hB0 hX0 hs Kd hin
  have hsk : Hid (V.skips o i = true) := by unfold Hid; simp [Vw.skips, heq, hcd]
  rw [hcd] at vc
  rw [heq] at y3
  have HQ := hid heq
  clear heq
  go_enter Try.func21, Try.ntmps21
  go_wp2_with fail
  rw [← hW0]
  clear hW0
  refine wp_region_calmD 30 (fun wx => Below W0.heap.size W0 wx) [(0, true), (1, false), (2, true), (3, true), (4, true), (5, false), (6, true), (7, true), (8, true), (9, false), (10, true), (11, true), (12, true), (13, false), (14, true), (15, true), (16, true), (17, true), (18, false), (19, true), (20, true), (21, true), (22, false), (23, true), (24, true)] [] (by kernel_rfl) (by kernel_rfl) (Below.refl _ _).drew ?_
  refine wpPre_e rfl rfl (fun K1 hK1 => ?_)
  apply Exists.intro
  refine And.intro (fun wx hx => ?_) ?_
  · go_simp
    try rfl
  go_simp
  refine hK1 _ ?_
  clear hK1 K1
  refine wpPre_e rfl rfl (fun K1 hK1 => ?_)
  apply Exists.intro
  refine And.intro (fun wx hx => ?_) ?_
  · have e0 := below_fact hx rfl y2
    have e1 := below_fact hx rfl y3
    have e2 := below_fact hx rfl v0
    have e3 := below_fact hx rfl vc
    go_simp
    try rfl
  go_simp
  refine hK1 _ ?_
  clear hK1 K1
  refine wpPre_e rfl rfl (fun K1 hK1 => ?_)
  apply Exists.intro
  refine And.intro (fun wx hx => ?_) ?_
  · go_simp
    try rfl
  go_simp
  refine hK1 _ ?_
  clear hK1 K1
  refine wpPre_e rfl rfl (fun K1 hK1 => ?_)
  apply Exists.intro
  refine And.intro (fun wx hx => ?_) ?_
  · go_simp
    try rfl
  go_simp
  refine hK1 _ ?_
  clear hK1 K1
  refine wpPre_e rfl rfl (fun K1 hK1 => ?_)
  apply Exists.intro
  refine And.intro (fun wx hx => ?_) ?_
  · go_simp
    try rfl
  go_simp
  refine hK1 _ ?_
  clear hK1 K1
  refine wpPre_e rfl rfl (fun K1 hK1 => ?_)
  apply Exists.intro
  refine And.intro (fun wx hx => ?_) ?_
  · have e0 := below_fact hx rfl y2
    have e1 := below_fact hx rfl y3
    have e2 := below_fact hx rfl v0
    have e3 := below_fact hx rfl vc
    go_simp
    try rfl
  go_simp
  refine hK1 _ ?_
  clear hK1 K1
  refine wpPre_e rfl rfl (fun K1 hK1 => ?_)
  apply Exists.intro
  refine And.intro (fun wx hx => ?_) ?_
  · go_simp
    try rfl
  go_simp
  refine hK1 _ ?_
  clear hK1 K1
  refine wpPre_e rfl rfl (fun K1 hK1 => ?_)
  apply Exists.intro
  refine And.intro (fun wx hx => ?_) ?_
  · go_simp
    try rfl
  go_simp
  refine hK1 _ ?_
  clear hK1 K1
  refine wpPre_i rfl (fun K1 hK1 => ?_)
  rw [if_pos (by go_simp)]
  apply Exists.intro
  refine And.intro (fun wx hx => ?_) ?_
  · go_simp
    try rfl
  go_simp
  refine hK1 _ ?_
  clear hK1 K1
  refine wpPre_i rfl (fun K1 hK1 => ?_)
  rw [if_pos (by go_simp)]
  apply Exists.intro
  refine And.intro (fun wx hx => ?_) ?_
  · have e0 := below_fact hx rfl y2
    have e1 := below_fact hx rfl y3
    have e2 := below_fact hx rfl v0
    have e3 := below_fact hx rfl vc
    go_simp
    try rfl
  go_simp
  refine hK1 _ ?_
  clear hK1 K1
  refine wpPre_i rfl (fun K1 hK1 => ?_)
  rw [if_pos (by go_simp)]
  apply Exists.intro
  refine And.intro (fun wx hx => ?_) ?_
  · go_simp
    try rfl
  go_simp
  refine hK1 _ ?_
  clear hK1 K1
  refine wpPre_i rfl (fun K1 hK1 => ?_)
  rw [if_pos (by go_simp)]
  apply Exists.intro
  refine And.intro (fun wx hx => ?_) ?_
  · go_simp
    try rfl
  go_simp
  refine hK1 _ ?_
  clear hK1 K1
  refine wpPre_i rfl (fun K1 hK1 => ?_)
  rw [if_pos (by go_simp)]
  apply Exists.intro
  refine And.intro (fun wx hx => ?_) ?_
  · go_simp
    try rfl
  go_simp
  refine hK1 _ ?_
  clear hK1 K1
  refine wpPre_i rfl (fun K1 hK1 => ?_)
  rw [if_pos (by go_simp)]
  apply Exists.intro
  refine And.intro (fun wx hx => ?_) ?_
  · have e0 := below_fact hx rfl y2
    have e1 := below_fact hx rfl y3
    have e2 := below_fact hx rfl v0
    have e3 := below_fact hx rfl vc
    go_simp
    try rfl
  go_simp
  refine hK1 _ ?_
  clear hK1 K1
  refine wpPre_i rfl (fun K1 hK1 => ?_)
  rw [if_pos (by go_simp)]
  apply Exists.intro
  refine And.intro (fun wx hx => ?_) ?_
  · go_simp
    try rfl
  go_simp
  refine hK1 _ ?_
  clear hK1 K1
  refine wpPre_i rfl (fun K1 hK1 => ?_)
  rw [if_pos (by go_simp)]
  apply Exists.intro
  refine And.intro (fun wx hx => ?_) ?_
  · go_simp
    try rfl
  go_simp
  refine hK1 _ ?_
  clear hK1 K1
  refine wpPre_i rfl (fun K1 hK1 => ?_)
  rw [if_pos (by go_simp)]
  apply Exists.intro
  refine And.intro (fun wx hx => ?_) ?_
  · go_simp
    try rfl
  go_simp
  refine hK1 _ ?_
  clear hK1 K1
  refine wpPre_i rfl (fun K1 hK1 => ?_)
  rw [if_pos (by go_simp)]
  apply Exists.intro
  refine And.intro (fun wx hx => ?_) ?_
  · go_simp
    try rfl
  go_simp
  refine hK1 _ ?_
  clear hK1 K1
  refine wpPre_i rfl (fun K1 hK1 => ?_)
  rw [if_pos (by go_simp)]
  apply Exists.intro
  refine And.intro (fun wx hx => ?_) ?_
  · have e0 := below_fact hx rfl y2
    have e1 := below_fact hx rfl y3
    have e2 := below_fact hx rfl v0
    have e3 := below_fact hx rfl vc
    go_simp
    try rfl
  go_simp
  refine hK1 _ ?_
  clear hK1 K1
  refine wpPre_i rfl (fun K1 hK1 => ?_)
  rw [if_pos (by go_simp)]
  apply Exists.intro
  refine And.intro (fun wx hx => ?_) ?_
  · go_simp
    try rfl
  go_simp
  refine hK1 _ ?_
  clear hK1 K1
  refine wpPre_i rfl (fun K1 hK1 => ?_)
  rw [if_pos (by go_simp)]
  apply Exists.intro
  refine And.intro (fun wx hx => ?_) ?_
  · go_simp
    try rfl
  go_simp
  refine hK1 _ ?_
  clear hK1 K1
  refine wpPre_i rfl (fun K1 hK1 => ?_)
  rw [if_pos (by go_simp)]
  apply Exists.intro
  refine And.intro (fun wx hx => ?_) ?_
  · go_simp
    try rfl
  go_simp
  refine hK1 _ ?_
  clear hK1 K1
  refine wpPre_i rfl (fun K1 hK1 => ?_)
  rw [if_pos (by go_simp)]
  apply Exists.intro
  refine And.intro (fun wx hx => ?_) ?_
  · have e0 := below_fact hx rfl y2
    have e1 := below_fact hx rfl y3
    have e2 := below_fact hx rfl v0
    have e3 := below_fact hx rfl vc
    go_simp
    try rfl
  go_simp
  refine hK1 _ ?_
  clear hK1 K1
  refine wpPre_i rfl (fun K1 hK1 => ?_)
  rw [if_pos (by go_simp)]
  apply Exists.intro
  refine And.intro (fun wx hx => ?_) ?_
  · go_simp
    try rfl
  go_simp
  refine hK1 _ ?_
  clear hK1 K1
  refine wpPre_e rfl rfl (fun K1 hK1 => ?_)
  apply Exists.intro
  refine And.intro (fun wx hx => ?_) ?_
  · go_simp
    try rfl
  go_simp
  refine hK1 _ ?_
  clear hK1 K1
  refine wpPre_nil ?_
  refine wpStg_nil ?_
  go_wp2
  refine bodyPost_ret (v := .tuple #[]) (by simp [results, Try.results21, go_sem]) rfl ⟨rfl, V, (VSet.same hV HB0.out).drew, fun _ => rfl, fun h => (by rw [hsk.out] at h; cases h), fun h => (by rw [hsk.out] at h; cases h), fun h => (by rw [hsk.out] at h; cases h), fun h => (by rw [hsk.out] at h; cases h), fun h => (by rw [hsk.out] at h; cases h), fun h => (by rw [hsk.out] at h; cases h), fun h => (by rw [hsk.out] at h; cases h), fun h => (by rw [hsk.out] at h; cases h), fun h => (by rw [hsk.out] at h; cases h)⟩
end Go.Proofs.Ytdncnnjhfipokaa
