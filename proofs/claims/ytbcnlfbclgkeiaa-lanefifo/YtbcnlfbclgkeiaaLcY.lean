import Derived.Test.YtbcnlfbclgkeiaaLcX
namespace Go.Proofs.Ytbcnlfbclgkeiaa
open Go.RowKit Go.Conc
set_option maxRecDepth 8000
set_option maxHeartbeats 4000000 in
theorem pull0_any (B0 : Nat) (w : World) (k : Nat) (X : Bb) (h : BbI B0 w k X) (p : Option Addr) (c : Nat) (ho : X.oM = X.M.n) : Calls Try.prog 41 #[.pointer (some ⟨k, 0, none⟩), .int .i64 0, .slice p 0 c] w fun e w' => e = .returned (.bool true) ∧ Below w.heap.size w w' := by
  have c1 : w.cell? ⟨k, 1, none⟩ = some (.slice X.M.p X.M.n X.M.c) := by rw [h.box.cell]; rfl
  have c3 : w.cell? ⟨k, 3, none⟩ = some (.int .i64 (X.M.n : Int)) := by rw [h.box.cell, ho]; rfl
  have bl := h.box.lt
  clear h ho
  go_enter Try.func41, Try.ntmps41
  go_upto_region 2 with fail
  refine wp_region_calmD 30 (fun wx => Below w.heap.size w wx) [(0, true), (1, true), (2, true), (3, false), (4, true), (5, true), (6, true), (7, false), (8, true), (9, true), (10, true), (11, true), (12, true), (13, true), (14, true), (15, true)] [] (by kernel_rfl) (by kernel_rfl) (Below.refl _ _).drew ?_
  refine wpPre_e rfl rfl (fun K1 hK1 => ?_)
  apply Exists.intro
  refine And.intro (fun wx hx => ?_) ?_
  · go_simp
    try rfl
  go_simp
  refine hK1 _ ?_
  clear hK1 K1
  refine wpPre_e rfl rfl (fun K1 hK1 => ?_)
  apply Exists.intro
  refine And.intro (fun wx hx => ?_) ?_
  · go_simp
    try rfl
  go_simp
  refine hK1 _ ?_
  clear hK1 K1
  refine wpPre_e rfl rfl (fun K1 hK1 => ?_)
  apply Exists.intro
  refine And.intro (fun wx hx => ?_) ?_
  · go_simp
    try rfl
  go_simp
  refine hK1 _ ?_
  clear hK1 K1
  refine wpPre_e rfl rfl (fun K1 hK1 => ?_)
  apply Exists.intro
  refine And.intro (fun wx hx => ?_) ?_
  · have e0 := below_fact hx rfl c1
    have e1 := below_fact hx rfl c3
    go_simp
    try rfl
  go_simp
  refine hK1 _ ?_
  clear hK1 K1
  refine wpPre_e rfl rfl (fun K1 hK1 => ?_)
  apply Exists.intro
  refine And.intro (fun wx hx => ?_) ?_
  · go_simp
    try rfl
  go_simp
  refine hK1 _ ?_
  clear hK1 K1
  refine wpPre_e rfl rfl (fun K1 hK1 => ?_)
  apply Exists.intro
  refine And.intro (fun wx hx => ?_) ?_
  · go_simp
    try rfl
  go_simp
  refine hK1 _ ?_
  clear hK1 K1
  refine wpPre_e rfl rfl (fun K1 hK1 => ?_)
  apply Exists.intro
  refine And.intro (fun wx hx => ?_) ?_
  · go_simp
    try rfl
  go_simp
  refine hK1 _ ?_
  clear hK1 K1
  refine wpPre_e rfl rfl (fun K1 hK1 => ?_)
  apply Exists.intro
  refine And.intro (fun wx hx => ?_) ?_
  · have e0 := below_fact hx rfl c1
    have e1 := below_fact hx rfl c3
    go_simp
    try rfl
  go_simp
  refine hK1 _ ?_
  clear hK1 K1
  refine wpPre_e rfl rfl (fun K1 hK1 => ?_)
  apply Exists.intro
  refine And.intro (fun wx hx => ?_) ?_
  · go_simp
    try rfl
  go_simp
  refine hK1 _ ?_
  clear hK1 K1
  refine wpPre_e rfl rfl (fun K1 hK1 => ?_)
  apply Exists.intro
  refine And.intro (fun wx hx => ?_) ?_
  · go_simp
    try rfl
  go_simp
  refine hK1 _ ?_
  clear hK1 K1
  refine wpPre_e rfl rfl (fun K1 hK1 => ?_)
  apply Exists.intro
  refine And.intro (fun wx hx => ?_) ?_
  · go_simp
    try rfl
  go_simp
  refine hK1 _ ?_
  clear hK1 K1
  refine wpPre_i rfl (fun K1 hK1 => ?_)
  rw [if_pos (by go_simp)]
  apply Exists.intro
  refine And.intro (fun wx hx => ?_) ?_
  · go_simp
    try rfl
  go_simp
  refine hK1 _ ?_
  clear hK1 K1
  refine wpPre_i rfl (fun K1 hK1 => ?_)
  rw [if_pos (by go_simp)]
  apply Exists.intro
  refine And.intro (fun wx hx => ?_) ?_
  · go_simp
    try rfl
  go_simp
  refine hK1 _ ?_
  clear hK1 K1
  refine wpPre_i rfl (fun K1 hK1 => ?_)
  rw [if_pos (by go_simp)]
  apply Exists.intro
  refine And.intro (fun wx hx => ?_) ?_
  · go_simp
    try rfl
  go_simp
  refine hK1 _ ?_
  clear hK1 K1
  refine wpPre_e rfl rfl (fun K1 hK1 => ?_)
  apply Exists.intro
  refine And.intro (fun wx hx => ?_) ?_
  · go_simp
    try rfl
  go_simp
  refine hK1 _ ?_
  clear hK1 K1
  refine wpPre_e rfl rfl (fun K1 hK1 => ?_)
  apply Exists.intro
  refine And.intro (fun wx hx => ?_) ?_
  · go_simp
    try rfl
  go_simp
  refine hK1 _ ?_
  clear hK1 K1
  refine wpPre_nil ?_
  refine wpStg_nil ?_
  go_wp2
  exact bodyPost_ret (v := .bool true) (by simp [results, Try.results41, go_sem]) rfl ⟨rfl, (Below.refl _ _).drew⟩
set_option maxRecDepth 60000 in
set_option maxHeartbeats 8000000 in
theorem pull1_any (B0 : Nat) (w : World) (k : Nat) (X : Bb) (h : BbI B0 w k X) (id : Int) (ah : LT RT) (S : Nat → Prop) (hah : LT.In elRec w S ah) (hS : ∀ j, S j → j ≠ k) (hid0 : id ≠ 0) (ho : X.oM < X.M.n) (he : X.M.item X.oM = id) (hn : X.oR + ah.n ≤ X.R.n) (hal : ∀ j, j < ah.n → RT.Alike (ah.item j) (X.R.item (X.oR + j))) :
    Calls Try.prog 41 #[.pointer (some ⟨k, 0, none⟩), .int .i64 id, .slice ah.p ah.n ah.c] w fun e w' => e = .returned (.bool true) ∧ BSet B0 w k X w' ⟨X.R, X.M, X.oR, X.oM + 1⟩ := by
  have hS1 := h.setM ho
  have HS1 := hid hS1
  obtain ⟨W1, hW1⟩ : ∃ W1, W1 = w.setCell ⟨k, 3, none⟩ (.int .i64 ((X.oM : Int) + 1)) := ⟨_, rfl⟩
  rw [← hW1] at hS1 HS1
  have hs := (But.one w k).setAt 3 (.int .i64 ((X.oM : Int) + 1))
  rw [← hW1] at hs
  have b3 : w.cell? ⟨k, 3, none⟩ = some (.int .i64 (X.oM : Int)) := by rw [h.box.cell]; rfl
  have g3 := h.box.frozen 3
  have bl := h.box.lt
  obtain ⟨bm, om, hp, _, hbm, hat⟩ := hS1.bk.inM.at_ (Nat.lt_of_le_of_lt (Nat.zero_le _) ho)
  have c1 : W1.cell? ⟨k, 1, none⟩ = some (.slice (some ⟨bm, om, none⟩) X.M.n X.M.c) := by rw [hS1.bk.box.cell, ← hp]; rfl
  have c3 : W1.cell? ⟨k, 3, none⟩ = some (.int .i64 ((X.oM : Int) + 1)) := by rw [hS1.bk.box.cell]; simp
  have mc : W1.cell? ⟨bm, om + X.oM, none⟩ = some (.int .i64 id) := by
    have := hat X.oM ho 0 _ rfl
    rw [show (Bb.mk X.R X.M X.oR (X.oM + 1)).M.item X.oM = id from he] at this
    simpa [elInt] using this
  have bl1 := hS1.bk.box.lt
  have hmn := h.mn
  have hrn := h.rn
  have HH : Hid (∀ V, Below W1.heap.size W1 V → Calls Try.prog 40 #[.pointer (some ⟨k, 0, none⟩)] V fun e w' => e = .returned (.int .i64 ((X.R.n - X.oR : Nat) : Int)) ∧ Below V.heap.size V w') := fun V hV => held_any B0 V k ⟨X.R, X.M, X.oR, X.oM + 1⟩ (hS1.bk.below hV)
  have hgt : decide ((X.M.n : Int) < (X.oM : Int) + 1) = false := decide_eq_false (by omega)
  have hgt' : ¬ (X.M.n : Int) < (X.oM : Int) + 1 := by omega
  have hlt : (X.oM : Int) < (X.M.n : Int) := by omega
  have hwr : IntKind.i64.wrap (X.oM : Int) = (X.oM : Int) := by rw [IntKind.wrap_i64]; omega
  have hoM : X.oM ≤ 10000 := by omega
  have hah2 : decide (((X.R.n - X.oR : Nat) : Int) < (ah.n : Int)) = false := decide_eq_false (by omega)
  have hah3 : ¬ ((X.R.n - X.oR : Nat) : Int) < (ah.n : Int) := by omega
  have hid1 : (id == 0) = false := by simp [hid0]
  have HWr := hid hwr
  have HW1 := hid hW1
  have HAh := hid (LT.In.kept hah hs.size fun g hg hl => hs.block g hl (hS g hg))
  have HAl := hid hal
  have HN := hid hn
  clear hs hat hW1 hp h hah he hwr hS hid0 hal hS1 hn
  go_enter Try.func41, Try.ntmps41
  go_upto_region 4 with fail
  rw [← HW1.out]
  have hwr := HWr.out
  refine wp_region_calmE 30 (fun wx => Below W1.heap.size W1 wx) [(0, true), (1, true), (2, true), (3, false), (4, true), (5, true), (6, true), (7, false), (8, true), (9, true), (10, true), (11, true), (12, true), (13, true), (14, false), (15, true), (16, true), (17, true), (18, false), (19, true), (20, true), (21, false), (22, true), (23, true), (24, true), (25, true), (26, true), (27, true), (28, true)] (.one 29 false [(30, true), (31, true)] .done) (by kernel_rfl) (by kernel_rfl) (Below.refl _ _).drew ?_
  refine wpPre_e rfl rfl (fun K1 hK1 => ?_)
  apply Exists.intro
  refine And.intro (fun wx hx => ?_) ?_
  · go_simp
    try rfl
  go_simp
  refine hK1 _ ?_
  clear hK1 K1
  refine wpPre_e rfl rfl (fun K1 hK1 => ?_)
  apply Exists.intro
  refine And.intro (fun wx hx => ?_) ?_
  · go_simp
    try rfl
  go_simp
  refine hK1 _ ?_
  clear hK1 K1
  refine wpPre_e rfl rfl (fun K1 hK1 => ?_)
  apply Exists.intro
  refine And.intro (fun wx hx => ?_) ?_
  · go_simp
    try rfl
  go_simp
  refine hK1 _ ?_
  clear hK1 K1
  refine wpPre_e rfl rfl (fun K1 hK1 => ?_)
  apply Exists.intro
  refine And.intro (fun wx hx => ?_) ?_
  · have e0 := below_fact hx rfl c1
    have e1 := below_fact hx rfl c3
    have e2 := below_fact hx rfl mc
    go_simp
    try rfl
  go_simp
  refine hK1 _ ?_
  clear hK1 K1
  refine wpPre_e rfl rfl (fun K1 hK1 => ?_)
  apply Exists.intro
  refine And.intro (fun wx hx => ?_) ?_
  · go_simp
    try rfl
  go_simp
  refine hK1 _ ?_
  clear hK1 K1
  refine wpPre_e rfl rfl (fun K1 hK1 => ?_)
  apply Exists.intro
  refine And.intro (fun wx hx => ?_) ?_
  · go_simp
    try rfl
  go_simp
  refine hK1 _ ?_
  clear hK1 K1
  refine wpPre_e rfl rfl (fun K1 hK1 => ?_)
  apply Exists.intro
  refine And.intro (fun wx hx => ?_) ?_
  · go_simp
    try rfl
  go_simp
  refine hK1 _ ?_
  clear hK1 K1
  refine wpPre_e rfl rfl (fun K1 hK1 => ?_)
  apply Exists.intro
  refine And.intro (fun wx hx => ?_) ?_
  · have e0 := below_fact hx rfl c1
    have e1 := below_fact hx rfl c3
    have e2 := below_fact hx rfl mc
    go_simp
    try rfl
  go_simp
  refine hK1 _ ?_
  clear hK1 K1
  refine wpPre_e rfl rfl (fun K1 hK1 => ?_)
  apply Exists.intro
  refine And.intro (fun wx hx => ?_) ?_
  · go_simp
    try rfl
  go_simp
  refine hK1 _ ?_
  clear hK1 K1
  refine wpPre_e rfl rfl (fun K1 hK1 => ?_)
  apply Exists.intro
  refine And.intro (fun wx hx => ?_) ?_
  · go_simp
    try rfl
  go_simp
  refine hK1 _ ?_
  clear hK1 K1
  refine wpPre_e rfl rfl (fun K1 hK1 => ?_)
  apply Exists.intro
  refine And.intro (fun wx hx => ?_) ?_
  · go_simp
    try rfl
  go_simp
  refine hK1 _ ?_
  clear hK1 K1
  refine wpPre_i rfl (fun K1 hK1 => ?_)
  rw [if_pos (by go_simp)]
  apply Exists.intro
  refine And.intro (fun wx hx => ?_) ?_
  · go_simp
    try rfl
  go_simp
  refine hK1 _ ?_
  clear hK1 K1
  refine wpPre_i rfl (fun K1 hK1 => ?_)
  rw [if_pos (by go_simp)]
  apply Exists.intro
  refine And.intro (fun wx hx => ?_) ?_
  · go_simp
    try rfl
  go_simp
  refine hK1 _ ?_
  clear hK1 K1
  refine wpPre_i rfl (fun K1 hK1 => ?_)
  rw [if_pos (by go_simp)]
  apply Exists.intro
  refine And.intro (fun wx hx => ?_) ?_
  · go_simp
    try rfl
  go_simp
  refine hK1 _ ?_
  clear hK1 K1
  refine wpPre_i rfl (fun K1 hK1 => ?_)
  rw [if_pos (by go_simp)]
  apply Exists.intro
  refine And.intro (fun wx hx => ?_) ?_
  · have e0 := below_fact hx rfl c1
    have e1 := below_fact hx rfl c3
    have e2 := below_fact hx rfl mc
    go_simp
    try rfl
  go_simp
  refine hK1 _ ?_
  clear hK1 K1
  refine wpPre_i rfl (fun K1 hK1 => ?_)
  rw [if_pos (by go_simp)]
  apply Exists.intro
  refine And.intro (fun wx hx => ?_) ?_
  · go_simp
    try rfl
  go_simp
  refine hK1 _ ?_
  clear hK1 K1
  refine wpPre_i rfl (fun K1 hK1 => ?_)
  rw [if_pos (by go_simp)]
  apply Exists.intro
  refine And.intro (fun wx hx => ?_) ?_
  · go_simp
    try rfl
  go_simp
  refine hK1 _ ?_
  clear hK1 K1
  refine wpPre_i rfl (fun K1 hK1 => ?_)
  rw [if_pos (by go_simp)]
  apply Exists.intro
  refine And.intro (fun wx hx => ?_) ?_
  · go_simp
    try rfl
  go_simp
  refine hK1 _ ?_
  clear hK1 K1
  refine wpPre_i rfl (fun K1 hK1 => ?_)
  rw [if_pos (by go_simp)]
  apply Exists.intro
  refine And.intro (fun wx hx => ?_) ?_
  · have e0 := below_fact hx rfl c1
    have e1 := below_fact hx rfl c3
    have e2 := below_fact hx rfl mc
    go_simp
    try rfl
  go_simp
  refine hK1 _ ?_
  clear hK1 K1
  refine wpPre_i rfl (fun K1 hK1 => ?_)
  rw [if_pos (by go_simp)]
  apply Exists.intro
  refine And.intro (fun wx hx => ?_) ?_
  · go_simp
    try rfl
  go_simp
  refine hK1 _ ?_
  clear hK1 K1
  refine wpPre_i rfl (fun K1 hK1 => ?_)
  rw [if_pos (by go_simp)]
  apply Exists.intro
  refine And.intro (fun wx hx => ?_) ?_
  · go_simp
    try rfl
  go_simp
  refine hK1 _ ?_
  clear hK1 K1
  refine wpPre_i rfl (fun K1 hK1 => ?_)
  rw [if_pos (by go_simp)]
  apply Exists.intro
  refine And.intro (fun wx hx => ?_) ?_
  · have e0 := below_fact hx rfl c1
    have e1 := below_fact hx rfl c3
    have e2 := below_fact hx rfl mc
    go_simp
    try rfl
  go_simp
  refine hK1 _ ?_
  clear hK1 K1
  refine wpPre_i rfl (fun K1 hK1 => ?_)
  rw [if_pos (by go_simp)]
  apply Exists.intro
  refine And.intro (fun wx hx => ?_) ?_
  · go_simp
    try rfl
  go_simp
  refine hK1 _ ?_
  clear hK1 K1
  refine wpPre_i rfl (fun K1 hK1 => ?_)
  rw [if_pos (by go_simp)]
  apply Exists.intro
  refine And.intro (fun wx hx => ?_) ?_
  · go_simp
    try rfl
  go_simp
  refine hK1 _ ?_
  clear hK1 K1
  refine wpPre_e rfl rfl (fun K1 hK1 => ?_)
  apply Exists.intro
  refine And.intro (fun wx hx => ?_) ?_
  · go_simp
    try rfl
  go_simp
  refine hK1 _ ?_
  clear hK1 K1
  refine wpPre_e rfl rfl (fun K1 hK1 => ?_)
  apply Exists.intro
  refine And.intro (fun wx hx => ?_) ?_
  · go_simp
    try rfl
  go_simp
  refine hK1 _ ?_
  clear hK1 K1
  refine wpPre_i rfl (fun K1 hK1 => ?_)
  rw [if_pos (by go_simp)]
  apply Exists.intro
  refine And.intro (fun wx hx => ?_) ?_
  · go_simp
    try rfl
  go_simp
  refine hK1 _ ?_
  clear hK1 K1
  refine wpPre_i rfl (fun K1 hK1 => ?_)
  rw [if_pos (by go_simp)]
  apply Exists.intro
  refine And.intro (fun wx hx => ?_) ?_
  · go_simp
    try rfl
  go_simp
  refine hK1 _ ?_
  clear hK1 K1
  refine wpPre_i rfl (fun K1 hK1 => ?_)
  rw [if_pos (by go_simp)]
  apply Exists.intro
  refine And.intro (fun wx hx => ?_) ?_
  · go_simp
    try rfl
  go_simp
  refine hK1 _ ?_
  clear hK1 K1
  refine wpPre_nil ?_
  refine wpTr_e rfl (fun K1 hK1 => ?_)
  refine step_callG (by go_simp) 40 #[.tmp 59] _ rfl Try.f40 Try.func40 (by kernel_rfl) rfl #[.pointer (some ⟨k, 0, none⟩)] rfl _ (HH.out _ (Below.refl _ _).drew) (fun e w9 h9 => ?_)
  obtain ⟨rfl, hb9⟩ := h9
  refine ⟨_, rfl, ?_⟩
  have HB9 : Hid (Below W1.heap.size W1 w9) := (Below.refl W1.heap.size W1).drew.trans hb9
  clear hb9
  go_simp
  refine hK1 _ _ (fun h => by cases h) ?_
  clear hK1 K1
  refine wpPre_i rfl (fun K1 hK1 => ?_)
  rw [if_pos (by go_simp)]
  apply Exists.intro
  refine And.intro (fun wx hx => ?_) ?_
  · go_simp
    try rfl
  go_simp
  refine hK1 _ ?_
  clear hK1 K1
  refine wpPre_e rfl rfl (fun K1 hK1 => ?_)
  apply Exists.intro
  refine And.intro (fun wx hx => ?_) ?_
  · go_simp
    try rfl
  go_simp
  refine hK1 _ ?_
  clear hK1 K1
  refine wpPre_nil ?_
  refine wpTr_done ?_
  clear hwr
  have hB9 := HS1.out.bk.below HB9.out
  have d0 : w9.cell? ⟨k, 0, none⟩ = some (.slice X.R.p X.R.n X.R.c) := by rw [hB9.box.cell]; rfl
  have d2 : w9.cell? ⟨k, 2, none⟩ = some (.int .i64 (X.oR : Int)) := by rw [hB9.box.cell]; rfl
  have bl9 := hB9.box.lt
  have hRi := hB9.inR
  obtain ⟨sp, hsp⟩ : ∃ sp, sp = (if X.R.c = X.oR then X.R.p else X.R.p.map (·.add (X.oR * 6))) := ⟨_, rfl⟩
  obtain ⟨sc, hsc⟩ : ∃ sc, sc = X.R.c - X.oR := ⟨_, rfl⟩
  have hcut : LT.In elRec w9 (fun _ => True) ⟨sp, ah.n, sc, fun j => X.R.item (X.oR + j)⟩ := by rw [hsp, hsc]; exact hRi.cut X.oR ah.n HN.out
  have hsl : ∀ V : World, (Instr.slice 38 (.slice X.R.p X.R.n X.R.c) (some (.int .i64 (X.oR : Int))) (some (.int .i64 ((X.oR : Int) + (ah.n : Int)))) none).run Try.prog V = .ok (.slice sp ah.n sc) V := fun V => by
    have hnc := hRi.nc
    have hN := HN.out
    have := slice_run V X.R.p X.R.n X.R.c X.oR (X.oR + ah.n) (by omega) (by have h1 : X.R.n ≤ X.R.c := hnc; omega)
    rw [Nat.add_sub_cancel_left, ← hsp, ← hsc] at this
    simpa using this
  have hwn : IntKind.i64.wrap ((X.oR : Int) + (ah.n : Int)) = (X.oR : Int) + (ah.n : Int) := by have := HN.out; rw [IntKind.wrap_i64]; omega
  have HSm : Hid (∀ V, Below w9.heap.size w9 V → Calls Try.prog 12 #[.slice ah.p ah.n ah.c, .slice sp ah.n sc] V fun e w' => e = .returned (.bool true) ∧ Below V.heap.size V w') := fun V hV => sameRecs_yes ah ⟨sp, ah.n, sc, fun j => X.R.item (X.oR + j)⟩ V _ _ ((HAh.out.below HB9.out).below hV) (hcut.below hV) rfl HAl.out
  clear hB9 hRi hcut hsp hsc c1 c3 mc
  go_upto_region 6 with fail
  refine wp_region_calmE 30 (fun wx => Below w9.heap.size w9 wx) [(0, true), (1, true), (2, true), (3, true), (4, false), (5, true), (6, true), (7, true), (8, false), (9, true), (10, true), (11, true), (12, false), (13, true), (14, true), (15, true), (16, true)] (.one 17 false [(18, true)] .done) (by kernel_rfl) (by kernel_rfl) (Below.refl _ _).drew ?_
  refine wpPre_e rfl rfl (fun K1 hK1 => ?_)
  apply Exists.intro
  refine And.intro (fun wx hx => ?_) ?_
  · go_simp
    try rfl
  go_simp
  refine hK1 _ ?_
  clear hK1 K1
  refine wpPre_e rfl rfl (fun K1 hK1 => ?_)
  apply Exists.intro
  refine And.intro (fun wx hx => ?_) ?_
  · go_simp
    try rfl
  go_simp
  refine hK1 _ ?_
  clear hK1 K1
  refine wpPre_e rfl rfl (fun K1 hK1 => ?_)
  apply Exists.intro
  refine And.intro (fun wx hx => ?_) ?_
  · go_simp
    try rfl
  go_simp
  refine hK1 _ ?_
  clear hK1 K1
  refine wpPre_e rfl rfl (fun K1 hK1 => ?_)
  apply Exists.intro
  refine And.intro (fun wx hx => ?_) ?_
  · go_simp
    try rfl
  go_simp
  refine hK1 _ ?_
  clear hK1 K1
  refine wpPre_e rfl rfl (fun K1 hK1 => ?_)
  apply Exists.intro
  refine And.intro (fun wx hx => ?_) ?_
  · have e0 := below_fact hx rfl d0
    have e1 := below_fact hx rfl d2
    go_simp
    try rfl
  go_simp
  refine hK1 _ ?_
  clear hK1 K1
  refine wpPre_e rfl rfl (fun K1 hK1 => ?_)
  apply Exists.intro
  refine And.intro (fun wx hx => ?_) ?_
  · go_simp
    try rfl
  go_simp
  refine hK1 _ ?_
  clear hK1 K1
  refine wpPre_e rfl rfl (fun K1 hK1 => ?_)
  apply Exists.intro
  refine And.intro (fun wx hx => ?_) ?_
  · go_simp
    try rfl
  go_simp
  refine hK1 _ ?_
  clear hK1 K1
  refine wpPre_e rfl rfl (fun K1 hK1 => ?_)
  apply Exists.intro
  refine And.intro (fun wx hx => ?_) ?_
  · go_simp
    try rfl
  go_simp
  refine hK1 _ ?_
  clear hK1 K1
  refine wpPre_e rfl rfl (fun K1 hK1 => ?_)
  apply Exists.intro
  refine And.intro (fun wx hx => ?_) ?_
  · have e0 := below_fact hx rfl d0
    have e1 := below_fact hx rfl d2
    go_simp
    try rfl
  go_simp
  refine hK1 _ ?_
  clear hK1 K1
  refine wpPre_e rfl rfl (fun K1 hK1 => ?_)
  apply Exists.intro
  refine And.intro (fun wx hx => ?_) ?_
  · go_simp
    try rfl
  go_simp
  refine hK1 _ ?_
  clear hK1 K1
  refine wpPre_e rfl rfl (fun K1 hK1 => ?_)
  apply Exists.intro
  refine And.intro (fun wx hx => ?_) ?_
  · go_simp
    try rfl
  go_simp
  refine hK1 _ ?_
  clear hK1 K1
  refine wpPre_e rfl rfl (fun K1 hK1 => ?_)
  apply Exists.intro
  refine And.intro (fun wx hx => ?_) ?_
  · go_simp
    try rfl
  go_simp
  refine hK1 _ ?_
  clear hK1 K1
  refine wpPre_e rfl rfl (fun K1 hK1 => ?_)
  apply Exists.intro
  refine And.intro (fun wx hx => ?_) ?_
  · have e0 := below_fact hx rfl d0
    have e1 := below_fact hx rfl d2
    go_simp
    try rfl
  go_simp
  refine hK1 _ ?_
  clear hK1 K1
  refine wpPre_e rfl rfl (fun K1 hK1 => ?_)
  apply Exists.intro
  refine And.intro (fun wx hx => ?_) ?_
  · go_simp
    try rfl
  go_simp
  refine hK1 _ ?_
  clear hK1 K1
  refine wpPre_e rfl rfl (fun K1 hK1 => ?_)
  apply Exists.intro
  refine And.intro (fun wx hx => ?_) ?_
  · go_simp
    try rfl
  go_simp
  refine hK1 _ ?_
  clear hK1 K1
  refine wpPre_e rfl rfl (fun K1 hK1 => ?_)
  apply Exists.intro
  refine And.intro (fun wx hx => ?_) ?_
  · go_simp
    try rfl
  go_simp
  refine hK1 _ ?_
  clear hK1 K1
  refine wpPre_e rfl rfl (fun K1 hK1 => ?_)
  apply Exists.intro
  refine And.intro (fun wx hx => ?_) ?_
  · go_simp
    try rfl
  go_simp
  refine hK1 _ ?_
  clear hK1 K1
  refine wpPre_nil ?_
  refine wpTr_e rfl (fun K1 hK1 => ?_)
  refine step_call rfl 12 #[.tmp 63, .tmp 79] _ rfl Try.f12 Try.func12 (by kernel_rfl) rfl #[.slice ah.p ah.n ah.c, .slice sp ah.n sc] rfl _ (HSm.out _ (Below.refl _ _).drew) (fun e w10 h10 => ?_)
  obtain ⟨rfl, hb10⟩ := h10
  refine ⟨_, rfl, ?_⟩
  have HB10 : Hid (Below w9.heap.size w9 w10) := (Below.refl w9.heap.size w9).drew.trans hb10
  clear hb10
  go_simp
  refine hK1 _ _ (fun h => by cases h) ?_
  clear hK1 K1
  refine wpPre_e rfl rfl (fun K1 hK1 => ?_)
  apply Exists.intro
  refine And.intro (fun wx hx => ?_) ?_
  · go_simp
    try rfl
  go_simp
  refine hK1 _ ?_
  clear hK1 K1
  refine wpPre_nil ?_
  refine wpTr_done ?_
  clear hwn hsl
  go_wp2
  exact bodyPost_ret (v := .bool true) (by simp [results, Try.results41, go_sem]) rfl ⟨rfl, BSet.trans HS1.out (BSet.trans (BSet.below HS1.out.bk HB9.out) (BSet.below (HS1.out.bk.below HB9.out) HB10.out))⟩
/-- what Put's answer is to be -/
structure PutA (room : Int) (N0 : Nat) (l : LT IT) (m : Nat) (er : Int) : Prop where
  le : m ≤ l.n
  each : ∀ j, j < m → refI room ((N0 + nR (l.toL.take j) : Nat) : Int) (l.item j).mark = 0
  fin : (m = l.n ∧ er = 0) ∨ (m < l.n ∧ er ≠ 0 ∧ er = refI room ((N0 + nR (l.toL.take m) : Nat) : Int) (l.item m).mark)
theorem PutA.at_ {room : Int} {N0 : Nat} {l : LT IT} {m : Nat} {er : Int} (h : PutA room N0 l m er) {i : Nat} (hi : i ≤ m) (hl : i < l.n) : (refI room ((N0 + nR (l.toL.take i) : Nat) : Int) (l.item i).mark = 0 → i < m) ∧ (refI room ((N0 + nR (l.toL.take i) : Nat) : Int) (l.item i).mark ≠ 0 → i = m ∧ er = refI room ((N0 + nR (l.toL.take i) : Nat) : Int) (l.item i).mark) := by
  refine ⟨fun h0 => ?_, fun h0 => ?_⟩
  · rcases Nat.lt_or_ge i m with e | e
    · exact e
    · obtain rfl : i = m := by omega
      rcases h.fin with ⟨h1, _⟩ | ⟨_, h2, h3⟩
      · omega
      · rw [h0] at h3; exact absurd h3 h2
  · rcases Nat.lt_or_ge i m with e | e
    · exact absurd (h.each i e) h0
    · obtain rfl : i = m := by omega
      rcases h.fin with ⟨h1, _⟩ | ⟨_, _, h3⟩
      · omega
      · exact ⟨rfl, h3⟩
structure PtR (B0 : Nat) (w : World) (k : Nat) (X : Bb) (l : LT IT) (i : Nat) (X' : Bb) (w' : World) : Prop where
  set : BSet B0 w k X w' X'
  r : X'.R.toL = X.R.toL ++ ((l.toL.take i).filter fun x => x.mark = 0).map IT.r
  m : X'.M.toL = X.M.toL ++ ((l.toL.take i).filter fun x => ¬ (x.mark = 0)).map IT.mark
  oR : X'.oR = X.oR
  oM : X'.oM = X.oM
set_option maxRecDepth 60000 in
set_option maxHeartbeats 16000000 in
theorem put_bk (B0 : Nat) (w : World) (k : Nat) (X : Bb) (h : BbI B0 w k X) (room : Int) (l : LT IT) (hl : LT.In elItem w (fun b => b < B0) l) (m : Nat) (er : Int) (hA : PutA room (X.R.n - X.oR) l m er) (h1 : X.R.n + l.n ≤ 10000) (h2 : X.M.n + l.n ≤ 10000) :
    Calls Try.prog 39 #[.pointer (some ⟨k, 0, none⟩), .int .i64 room, .slice l.p l.n l.c, .int .i64 (m : Int), .int .i64 er] w fun e w' => e = .returned (.bool true) ∧ ∃ X', PtR B0 w k X l m X' w' := by
  have hnn := hl.nn
  have H0 : Hid (PtR B0 w k X l 0 X w) := ⟨BSet.refl h, by simp, by simp, rfl, rfl⟩
  have HL := hid hl
  have HA := hid hA
  have HI := hid h
  have hB0 : B0 ≤ w.heap.size := Nat.le_of_lt (Nat.lt_of_le_of_lt h.kb h.box.lt)
  have hml := hA.le
  clear hl hA h
  go_enter Try.func39, Try.ntmps39
  go_wp2_with fail
  go_loopw [11] (fun v wr => ∃ i X', v = .int .i64 ((i : Nat) : Int) ∧ i ≤ m ∧ PtR B0 w k X l i X' wr) (fun v _ => l.n - (intOf v).toNat)
  case atStart => exact ⟨0, X, rfl, Nat.zero_le _, H0.out⟩
  case round =>
    obtain ⟨i, X1, rfl, him, hP⟩ := hrel
    have HP := hid hP
    have hs1 := hP.set.but.size
    have hRn : X1.R.n = X.R.n + nR (l.toL.take i) := by
      have := congrArg List.length hP.r
      rw [LT.toL_len, List.length_append, LT.toL_len, List.length_map] at this
      exact this
    have hMn : X1.M.n ≤ X.M.n + i := by
      have := congrArg List.length hP.m
      rw [LT.toL_len, List.length_append, LT.toL_len, List.length_map] at this
      have h4 := List.length_filter_le (fun x : IT => decide (¬ (x.mark = 0))) (l.toL.take i)
      rw [List.length_take] at h4
      omega
    have hnri : nR (l.toL.take i) ≤ i := Nat.le_trans (nR_le _) (by rw [List.length_take]; omega)
    have hob : X.oR ≤ X.R.n := HI.out.b1
    have hheld : X1.R.n - X1.oR = X.R.n - X.oR + nR (l.toL.take i) := by rw [hP.oR, hRn]; omega
    have HHe := hid hheld
    have HRn := hid hRn
    have HMn := hid hMn
    clear hP H0 hheld hRn hMn
    by_cases hlt : i < l.n
    case neg =>
      obtain rfl : i = l.n := by omega
      have hmm : m = l.n := by omega
      subst hmm
      have her : er = 0 := by
        rcases HA.out.fin with ⟨_, h3⟩ | ⟨h3, _⟩
        · exact h3
        · omega
      rw [her]
      clear hlt her
      go_wp2
      exact bodyPost_ret (v := .bool true) (by simp [results, Try.results39, go_sem]) rfl ⟨rfl, X1, HP.out⟩
    case pos =>
    have hlt' : (i : Int) < (l.n : Int) := by omega
    obtain ⟨bb, o, hp, hSb, hbb, hat⟩ := HL.out.at_ (by omega)
    rw [hp]
    have hcell : ∀ r u, (elItem.cells (l.item i))[r]? = some u → wr.cell? ⟨bb, o + i * 7 + r, none⟩ = some u := fun r u hu => (World.cell?_of_block (a := ⟨bb, o + i * 7 + r, none⟩) (HP.out.set.but.block bb hbb fun e => by have := (HI.out.c_lt e).1; omega)).trans (hat i hlt r u hu)
    have c0 : wr.cell? ⟨bb, o + i * 7, none⟩ = some (.int .i64 (l.item i).mark) := hcell 0 _ rfl
    have c1 := hcell 1 _ rfl
    have c2 := hcell 2 _ rfl
    have c3 := hcell 3 _ rfl
    have c4 := hcell 4 _ rfl
    have c5 := hcell 5 _ rfl
    have c6 := hcell 6 _ rfl
    have hbb2 : bb < wr.heap.size := by omega
    have hxi : IT.In wr (fun b => b < B0) (l.item i) := IT.In.kept (HL.out.each i hlt) hs1 fun j hj hl => HP.out.set.but.block j hl fun e => by have := (HI.out.c_lt e).1; omega
    have HCt := hid (HA.out.at_ him hlt)
    have HIn := hid (fun h3 h4 => in_any B0 wr k X1 HP.out.set.bk (l.item i) hxi h3 h4)
    have HHl := hid (held_any B0 wr k X1 HP.out.set.bk)
    rw [HHe.out] at HHl
    have hx := l.toL_get hlt
    have HX := hid hx
    obtain ⟨N, hN⟩ : ∃ N, N = X.R.n - X.oR + nR (l.toL.take i) := ⟨_, rfl⟩
    rw [← hN] at HHl HCt
    have hN2 : N ≤ 20000 := by omega
    have HNe := hid hN
    clear hcell hat hxi hx hN
    by_cases hneg : (l.item i).mark < 0
    · -- refused: no such item
      have hrf : refI room (N : Int) (l.item i).mark = 52 := by unfold refI; rw [if_pos hneg]
      obtain ⟨him2, her⟩ := HCt.out.2 (by rw [hrf]; decide)
      rw [hrf] at her
      subst him2 her
      clear hrf
      go_wp2
      exact bodyPost_ret (v := .bool true) (by simp [results, Try.results39, go_sem]) rfl ⟨rfl, X1, HP.out⟩
    · have hpos : 0 ≤ (l.item i).mark := by omega
      by_cases hm0 : (l.item i).mark = 0
      · have hm0' : ((l.item i).mark == 0) = true := by simp [hm0]
        by_cases hr0 : 0 < room
        · have hr0' : decide (0 < room) = true := decide_eq_true hr0
          by_cases hfu : room ≤ (N : Int)
          · have hrf : refI room (N : Int) (l.item i).mark = 51 := by unfold refI fullB; rw [if_neg hneg, if_pos ⟨hm0, by simp [hr0, hfu]⟩]
            obtain ⟨him2, her⟩ := HCt.out.2 (by rw [hrf]; decide)
            rw [hrf] at her
            subst him2 her
            rw [hm0] at c0
            clear hrf hneg hpos hm0 hm0'
            go_wp2_with fail
            refine HHl.out.mono ?_
            rintro e w2 ⟨rfl, hB2⟩
            have HB2 := hid (BSet.trans HP.out.set (BSet.below HP.out.set.bk hB2))
            clear hB2
            go_wp2
            exact bodyPost_ret (v := .bool true) (by simp [results, Try.results39, go_sem]) rfl ⟨rfl, X1, HB2.out, HP.out.r, HP.out.m, HP.out.oR, HP.out.oM⟩
          · have hrf : refI room (N : Int) (l.item i).mark = 0 := by unfold refI fullB; rw [if_neg hneg, if_neg (by rintro ⟨_, h5⟩; simp [hr0, hfu] at h5)]
            have him2 := HCt.out.1 hrf
            clear hrf
            have HT1 : Hid ((l.toL.take (i + 1)).filter (fun x => x.mark = 0) = (l.toL.take i).filter (fun x => x.mark = 0) ++ [l.item i] ∧ (l.toL.take (i + 1)).filter (fun x => ¬ (x.mark = 0)) = (l.toL.take i).filter (fun x => ¬ (x.mark = 0))) := by
              refine hid ?_
              rw [List.take_add_one, HX.out, List.filter_append, List.filter_append]
              simp [hm0]
            have hnp : ¬ 0 < (l.item i).mark := by omega
            have HNp := hid hnp
            have HM0 := hid hm0
            rw [hm0] at c0
            have HIn2 := hid (HIn.out (by have := HRn.out; omega) (by have := HMn.out; omega))
            rw [show (l.item i).mark = 0 from HM0.out] at HIn2
            clear hneg hpos hm0 hm0' hnp
            have hB0w : True := trivial
            go_wp2_with fail
            refine HHl.out.mono ?_
            rintro e w2 ⟨rfl, hB2⟩
            have e0 := (World.cell?_of_block (a := ⟨bb, o + i * 7, none⟩) (hB2.block bb hbb2)).trans c0
            have e1 := (World.cell?_of_block (a := ⟨bb, o + i * 7 + 1, none⟩) (hB2.block bb hbb2)).trans c1
            have e2 := (World.cell?_of_block (a := ⟨bb, o + i * 7 + 2, none⟩) (hB2.block bb hbb2)).trans c2
            have e3 := (World.cell?_of_block (a := ⟨bb, o + i * 7 + 3, none⟩) (hB2.block bb hbb2)).trans c3
            have e4 := (World.cell?_of_block (a := ⟨bb, o + i * 7 + 4, none⟩) (hB2.block bb hbb2)).trans c4
            have e5 := (World.cell?_of_block (a := ⟨bb, o + i * 7 + 5, none⟩) (hB2.block bb hbb2)).trans c5
            have e6 := (World.cell?_of_block (a := ⟨bb, o + i * 7 + 6, none⟩) (hB2.block bb hbb2)).trans c6
            have HS2 := hid (BSet.trans HP.out.set (BSet.below HP.out.set.bk hB2))
            have hxi2 : IT.In w2 (fun b => b < B0) (l.item i) := IT.In.kept (HL.out.each i hlt) (Nat.le_trans hs1 hB2.size) fun j hj hl => (hB2.block j (by omega)).trans (HP.out.set.but.block j hl fun e => by have := (HI.out.c_lt e).1; omega)
            have HIn3 := hid (in_any B0 w2 k X1 HS2.out.bk (l.item i) hxi2 (by have := HRn.out; omega) (by have := HMn.out; omega))
            rw [show (l.item i).mark = 0 from HM0.out] at HIn3
            clear hB2 hxi2 c0 c1 c2 c3 c4 c5 c6
            go_wp2_with fail
            refine HIn3.out.mono ?_
            rintro e w3 ⟨rfl, X2, hQ⟩
            have HR2 : Hid (PtR B0 w k X l (i + 1) X2 w3) := ⟨BSet.trans HS2.out hQ.set, by rw [hQ.r, if_neg (by have := HNp.out; omega), HP.out.r, HT1.out.1]; simp, by rw [hQ.m, if_neg (by have := HNp.out; omega), HP.out.m, HT1.out.2]; simp, hQ.oR.trans HP.out.oR, hQ.oM.trans HP.out.oM⟩
            clear hQ e0 e1 e2 e3 e4 e5 e6
            go_wp2_with fail
            go_roundw
            case rel => exact ⟨i + 1, X2, by go_num, him2, HR2.out⟩
            case measure => simp [intOf]; omega
        · have hrf : refI room (N : Int) (l.item i).mark = 0 := by unfold refI fullB; rw [if_neg hneg, if_neg (by rintro ⟨_, h5⟩; simp [hr0] at h5)]
          have him2 := HCt.out.1 hrf
          have hr0' : decide (0 < room) = false := decide_eq_false hr0
          clear hrf
          have HT1 : Hid ((l.toL.take (i + 1)).filter (fun x => x.mark = 0) = (l.toL.take i).filter (fun x => x.mark = 0) ++ [l.item i] ∧ (l.toL.take (i + 1)).filter (fun x => ¬ (x.mark = 0)) = (l.toL.take i).filter (fun x => ¬ (x.mark = 0))) := by
            refine hid ?_
            rw [List.take_add_one, HX.out, List.filter_append, List.filter_append]
            simp [hm0]
          have hnp : ¬ 0 < (l.item i).mark := by omega
          have HNp := hid hnp
          have HM0 := hid hm0
          rw [hm0] at c0
          have HIn2 := hid (HIn.out (by have := HRn.out; omega) (by have := HMn.out; omega))
          rw [show (l.item i).mark = 0 from HM0.out] at HIn2
          clear hneg hpos hm0 hm0' hnp
          go_wp2_with fail
          refine HIn2.out.mono ?_
          rintro e w3 ⟨rfl, X2, hQ⟩
          have HR2 : Hid (PtR B0 w k X l (i + 1) X2 w3) := ⟨BSet.trans HP.out.set hQ.set, by rw [hQ.r, if_neg (by have := HNp.out; omega), HP.out.r, HT1.out.1]; simp, by rw [hQ.m, if_neg (by have := HNp.out; omega), HP.out.m, HT1.out.2]; simp, hQ.oR.trans HP.out.oR, hQ.oM.trans HP.out.oM⟩
          clear hQ c0 c1 c2 c3 c4 c5 c6
          go_wp2_with fail
          go_roundw
          case rel => exact ⟨i + 1, X2, by go_num, him2, HR2.out⟩
          case measure => simp [intOf]; omega
      · have hm0' : ((l.item i).mark == 0) = false := by simp [hm0]
        have hrf : refI room (N : Int) (l.item i).mark = 0 := by unfold refI; rw [if_neg hneg, if_neg (fun h5 => hm0 h5.1)]
        have him2 := HCt.out.1 hrf
        clear hrf
        have HT1 : Hid ((l.toL.take (i + 1)).filter (fun x => x.mark = 0) = (l.toL.take i).filter (fun x => x.mark = 0) ∧ (l.toL.take (i + 1)).filter (fun x => ¬ (x.mark = 0)) = (l.toL.take i).filter (fun x => ¬ (x.mark = 0)) ++ [l.item i]) := by
          refine hid ?_
          rw [List.take_add_one, HX.out, List.filter_append, List.filter_append]
          simp [hm0]
        have hnp : 0 < (l.item i).mark := by omega
        have HNp := hid hnp
        have HIn2 := hid (HIn.out (by have := HRn.out; omega) (by have := HMn.out; omega))
        clear hpos hnp hm0
        go_wp2_with fail
        refine HIn2.out.mono ?_
        rintro e w3 ⟨rfl, X2, hQ⟩
        have HR2 : Hid (PtR B0 w k X l (i + 1) X2 w3) := ⟨BSet.trans HP.out.set hQ.set, by rw [hQ.r, if_pos (by have := HNp.out; omega), HP.out.r, HT1.out.1]; simp, by rw [hQ.m, if_pos (by have := HNp.out; omega), HP.out.m, HT1.out.2]; simp, hQ.oR.trans HP.out.oR, hQ.oM.trans HP.out.oM⟩
        clear hQ c0 c1 c2 c3 c4 c5 c6
        go_wp2_with fail
        go_roundw
        case rel => exact ⟨i + 1, X2, by go_num, him2, HR2.out⟩
        case measure => simp [intOf]; omega
end Go.Proofs.Ytbcnlfbclgkeiaa
