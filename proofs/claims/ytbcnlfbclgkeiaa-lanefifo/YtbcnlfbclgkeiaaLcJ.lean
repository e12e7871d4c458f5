import Derived.Test.YtbcnlfbclgkeiaaLcI
import Derived.Test.YtbcnlfbclgkeiaaRgE
namespace Go.Proofs.Ytbcnlfbclgkeiaa
open Go.RowKit Go.Conc
set_option maxRecDepth 8000
def fullB (room n : Int) : Bool := decide (0 < room) && decide (room ≤ n)
set_option maxHeartbeats 2000000 in
/-- Full -/
theorem full_cells (w : World) (b : Nat) (room n : Int) (c0 : w.cell? ⟨b, 0, none⟩ = some (.int .i64 room)) (c1 : w.cell? ⟨b, 1, none⟩ = some (.int .i64 n)) (_bl : b < w.heap.size) : Calls Try.prog 18 #[.pointer (some ⟨b, 0, none⟩)] w fun e w' => e = .returned (.bool (fullB room n)) ∧ Below w.heap.size w w' := by
  by_cases hr : 0 < room
  · have hd : decide (0 < room) = true := decide_eq_true hr
    go_enter Try.func18, Try.ntmps18
    go_wp2_with fail
    refine wp_region_calmD 30 (fun wx => Below w.heap.size w wx) [(0, true), (1, true), (2, true), (3, false), (4, true), (5, true), (6, true), (7, true), (8, true), (9, false), (10, true), (11, true), (12, true), (13, false), (14, true), (15, true), (16, true)] [] (by kernel_rfl) (by kernel_rfl) (Below.refl _ _).drew ?_
    refine wpPre_e rfl rfl (fun K1 hK1 => ?_)
    apply Exists.intro
    refine And.intro (fun wx hx => ?_) ?_
    · go_simp
      try rfl
    go_simp
    refine hK1 _ ?_
    clear hK1 K1
    refine wpPre_e rfl rfl (fun K1 hK1 => ?_)
    apply Exists.intro
    refine And.intro (fun wx hx => ?_) ?_
    · go_simp
      try rfl
    go_simp
    refine hK1 _ ?_
    clear hK1 K1
    refine wpPre_e rfl rfl (fun K1 hK1 => ?_)
    apply Exists.intro
    refine And.intro (fun wx hx => ?_) ?_
    · go_simp
      try rfl
    go_simp
    refine hK1 _ ?_
    clear hK1 K1
    refine wpPre_e rfl rfl (fun K1 hK1 => ?_)
    apply Exists.intro
    refine And.intro (fun wx hx => ?_) ?_
    · have e0 := below_fact hx rfl c0
      have e1 := below_fact hx rfl c1
      go_simp
      try rfl
    go_simp
    refine hK1 _ ?_
    clear hK1 K1
    refine wpPre_e rfl rfl (fun K1 hK1 => ?_)
    apply Exists.intro
    refine And.intro (fun wx hx => ?_) ?_
    · go_simp
      try rfl
    go_simp
    refine hK1 _ ?_
    clear hK1 K1
    refine wpPre_e rfl rfl (fun K1 hK1 => ?_)
    apply Exists.intro
    refine And.intro (fun wx hx => ?_) ?_
    · go_simp
      try rfl
    go_simp
    refine hK1 _ ?_
    clear hK1 K1
    refine wpPre_i rfl (fun K1 hK1 => ?_)
    rw [if_pos (by go_simp)]
    apply Exists.intro
    refine And.intro (fun wx hx => ?_) ?_
    · go_simp
      try rfl
    go_simp
    refine hK1 _ ?_
    clear hK1 K1
    refine wpPre_i rfl (fun K1 hK1 => ?_)
    rw [if_pos (by go_simp)]
    apply Exists.intro
    refine And.intro (fun wx hx => ?_) ?_
    · go_simp
      try rfl
    go_simp
    refine hK1 _ ?_
    clear hK1 K1
    refine wpPre_i rfl (fun K1 hK1 => ?_)
    rw [if_pos (by go_simp)]
    apply Exists.intro
    refine And.intro (fun wx hx => ?_) ?_
    · go_simp
      try rfl
    go_simp
    refine hK1 _ ?_
    clear hK1 K1
    refine wpPre_i rfl (fun K1 hK1 => ?_)
    rw [if_pos (by go_simp)]
    apply Exists.intro
    refine And.intro (fun wx hx => ?_) ?_
    · have e0 := below_fact hx rfl c0
      have e1 := below_fact hx rfl c1
      go_simp
      try rfl
    go_simp
    refine hK1 _ ?_
    clear hK1 K1
    refine wpPre_i rfl (fun K1 hK1 => ?_)
    rw [if_pos (by go_simp)]
    apply Exists.intro
    refine And.intro (fun wx hx => ?_) ?_
    · go_simp
      try rfl
    go_simp
    refine hK1 _ ?_
    clear hK1 K1
    refine wpPre_i rfl (fun K1 hK1 => ?_)
    rw [if_pos (by go_simp)]
    apply Exists.intro
    refine And.intro (fun wx hx => ?_) ?_
    · go_simp
      try rfl
    go_simp
    refine hK1 _ ?_
    clear hK1 K1
    refine wpPre_i rfl (fun K1 hK1 => ?_)
    rw [if_pos (by go_simp)]
    apply Exists.intro
    refine And.intro (fun wx hx => ?_) ?_
    · go_simp
      try rfl
    go_simp
    refine hK1 _ ?_
    clear hK1 K1
    refine wpPre_i rfl (fun K1 hK1 => ?_)
    rw [if_pos (by go_simp)]
    apply Exists.intro
    refine And.intro (fun wx hx => ?_) ?_
    · have e0 := below_fact hx rfl c0
      have e1 := below_fact hx rfl c1
      go_simp
      try rfl
    go_simp
    refine hK1 _ ?_
    clear hK1 K1
    refine wpPre_i rfl (fun K1 hK1 => ?_)
    rw [if_pos (by go_simp)]
    apply Exists.intro
    refine And.intro (fun wx hx => ?_) ?_
    · go_simp
      try rfl
    go_simp
    refine hK1 _ ?_
    clear hK1 K1
    refine wpPre_e rfl rfl (fun K1 hK1 => ?_)
    apply Exists.intro
    refine And.intro (fun wx hx => ?_) ?_
    · go_simp
      try rfl
    go_simp
    refine hK1 _ ?_
    clear hK1 K1
    refine wpPre_e rfl rfl (fun K1 hK1 => ?_)
    apply Exists.intro
    refine And.intro (fun wx hx => ?_) ?_
    · go_simp
      try rfl
    go_simp
    refine hK1 _ ?_
    clear hK1 K1
    refine wpPre_nil ?_
    refine wpStg_nil ?_
    go_wp2
    refine bodyPost_ret (v := .bool (fullB room n)) (by simp [results, Try.results18, go_sem, fullB, hr]) rfl ⟨rfl, (Below.refl _ _).drew⟩
  · have hd : decide (0 < room) = false := decide_eq_false hr
    have HE : Hid (fullB room n = false) := by unfold fullB; rw [hd]; rfl
    go_enter Try.func18, Try.ntmps18
    go_wp2_with fail
    refine wp_region_calmD 30 (fun wx => Below w.heap.size w wx) [(0, true), (1, true), (2, true), (3, false), (4, true), (5, true), (6, true), (7, true), (8, true), (9, false), (10, true), (11, true), (12, true), (13, false), (14, true), (15, true), (16, true)] [] (by kernel_rfl) (by kernel_rfl) (Below.refl _ _).drew ?_
    refine wpPre_e rfl rfl (fun K1 hK1 => ?_)
    apply Exists.intro
    refine And.intro (fun wx hx => ?_) ?_
    · go_simp
      try rfl
    go_simp
    refine hK1 _ ?_
    clear hK1 K1
    refine wpPre_e rfl rfl (fun K1 hK1 => ?_)
    apply Exists.intro
    refine And.intro (fun wx hx => ?_) ?_
    · go_simp
      try rfl
    go_simp
    refine hK1 _ ?_
    clear hK1 K1
    refine wpPre_e rfl rfl (fun K1 hK1 => ?_)
    apply Exists.intro
    refine And.intro (fun wx hx => ?_) ?_
    · go_simp
      try rfl
    go_simp
    refine hK1 _ ?_
    clear hK1 K1
    refine wpPre_e rfl rfl (fun K1 hK1 => ?_)
    apply Exists.intro
    refine And.intro (fun wx hx => ?_) ?_
    · have e0 := below_fact hx rfl c0
      have e1 := below_fact hx rfl c1
      go_simp
      try rfl
    go_simp
    refine hK1 _ ?_
    clear hK1 K1
    refine wpPre_e rfl rfl (fun K1 hK1 => ?_)
    apply Exists.intro
    refine And.intro (fun wx hx => ?_) ?_
    · go_simp
      try rfl
    go_simp
    refine hK1 _ ?_
    clear hK1 K1
    refine wpPre_e rfl rfl (fun K1 hK1 => ?_)
    apply Exists.intro
    refine And.intro (fun wx hx => ?_) ?_
    · go_simp
      try rfl
    go_simp
    refine hK1 _ ?_
    clear hK1 K1
    refine wpPre_i rfl (fun K1 hK1 => ?_)
    rw [if_neg (by go_simp; all_goals (intro h; cases h))]
    go_simp
    refine hK1 _ ?_
    clear hK1 K1
    refine wpPre_i rfl (fun K1 hK1 => ?_)
    rw [if_neg (by go_simp; all_goals (intro h; cases h))]
    go_simp
    refine hK1 _ ?_
    clear hK1 K1
    refine wpPre_i rfl (fun K1 hK1 => ?_)
    rw [if_neg (by go_simp; all_goals (intro h; cases h))]
    go_simp
    refine hK1 _ ?_
    clear hK1 K1
    refine wpPre_i rfl (fun K1 hK1 => ?_)
    rw [if_neg (by go_simp; all_goals (intro h; cases h))]
    go_simp
    refine hK1 _ ?_
    clear hK1 K1
    refine wpPre_i rfl (fun K1 hK1 => ?_)
    rw [if_neg (by go_simp; all_goals (intro h; cases h))]
    go_simp
    refine hK1 _ ?_
    clear hK1 K1
    refine wpPre_i rfl (fun K1 hK1 => ?_)
    rw [if_neg (by go_simp; all_goals (intro h; cases h))]
    go_simp
    refine hK1 _ ?_
    clear hK1 K1
    refine wpPre_i rfl (fun K1 hK1 => ?_)
    rw [if_neg (by go_simp; all_goals (intro h; cases h))]
    go_simp
    refine hK1 _ ?_
    clear hK1 K1
    refine wpPre_i rfl (fun K1 hK1 => ?_)
    rw [if_neg (by go_simp; all_goals (intro h; cases h))]
    go_simp
    refine hK1 _ ?_
    clear hK1 K1
    refine wpPre_i rfl (fun K1 hK1 => ?_)
    rw [if_neg (by go_simp; all_goals (intro h; cases h))]
    go_simp
    refine hK1 _ ?_
    clear hK1 K1
    refine wpPre_e rfl rfl (fun K1 hK1 => ?_)
    apply Exists.intro
    refine And.intro (fun wx hx => ?_) ?_
    · go_simp
      try rfl
    go_simp
    refine hK1 _ ?_
    clear hK1 K1
    refine wpPre_e rfl rfl (fun K1 hK1 => ?_)
    apply Exists.intro
    refine And.intro (fun wx hx => ?_) ?_
    · go_simp
      try rfl
    go_simp
    refine hK1 _ ?_
    clear hK1 K1
    refine wpPre_nil ?_
    refine wpStg_nil ?_
    go_wp2
    refine bodyPost_ret (v := .bool (fullB room n)) (by rw [HE.out]; simp [results, Try.results18, go_sem]) rfl ⟨rfl, (Below.refl _ _).drew⟩
theorem full_any (w : World) (Z : Nat → Prop) (b : Nat) (L : Ln) (hI : LnI w Z b L) : Calls Try.prog 18 #[.pointer (some ⟨b, 0, none⟩)] w fun e w' => e = .returned (.bool (fullB L.room (nR L.q))) ∧ Below w.heap.size w w' :=
  full_cells w b L.room (nR L.q) hI.c0 hI.c1 hI.b_lt
/-- why an item can't be laid -/
def refI (room n m : Int) : Int := if m < 0 then 52 else if m = 0 ∧ fullB room n = true then 51 else 0
set_option maxRecDepth 60000 in
set_option maxHeartbeats 4000000 in
theorem refusal_any (w : World) (Z : Nat → Prop) (b : Nat) (L : Ln) (hI : LnI w Z b L) (x : IT) : Calls Try.prog 29 #[.pointer (some ⟨b, 0, none⟩), .agg #[.int .i64 x.mark, .string x.r.key, .int .i64 x.r.v.kind, .int .i64 x.r.v.int, .string x.r.v.text, .slice x.r.v.p x.r.v.n x.r.v.c, .slice x.r.p x.r.n x.r.c]] w fun e w' => e = .returned (.int .i64 (refI L.room (nR L.q) x.mark)) ∧ Below w.heap.size w w' := by
  obtain ⟨W, hW⟩ : ∃ W, W = w.alloc (.cells #[.int .i64 x.mark, .string x.r.key, .int .i64 x.r.v.kind, .int .i64 x.r.v.int, .string x.r.v.text, .slice x.r.v.p x.r.v.n x.r.v.c, .slice x.r.p x.r.n x.r.c] 35) := ⟨_, rfl⟩
  have hB : Below w.heap.size w W := by rw [hW]; exact (Below.refl _ _).alloc (Nat.le_refl _) _
  have hX : Box W w.heap.size #[.int .i64 x.mark, .string x.r.key, .int .i64 x.r.v.kind, .int .i64 x.r.v.int, .string x.r.v.text, .slice x.r.v.p x.r.v.n x.r.v.c, .slice x.r.p x.r.n x.r.c] 35 := by rw [hW]; exact Box.new _ _ _
  have hI2 := hI.below hB
  have HS := hid (shut_no W Z b L hI2)
  have HR := hid (isRec_any x W)
  have HI := hid hI2
  have HB := hid hB
  have HW := hid hW
  have z0 := hX.cell 0
  have z1 := hX.cell 1
  have z2 := hX.cell 2
  have z3 := hX.cell 3
  have z4 := hX.cell 4
  have z5 := hX.cell 5
  have z6 := hX.cell 6
  simp at z0 z1 z2 z3 z4 z5 z6
  clear hI hI2 hB hX hW
  go_enter Try.func29, Try.ntmps29
  go_upto_region 1 with fail
  rw [← HW.out]
  go_wp2_with fail
  refine HS.out.mono ?_
  rintro e w1 ⟨rfl, rfl⟩
  by_cases hneg : x.mark < 0
  · go_wp2
    refine bodyPost_ret (v := .int .i64 52) (by simp [results, Try.results29, go_sem]) rfl ⟨by simp [refI, hneg], HB.out⟩
  · have HNg := hid hneg
    have hpos : 0 ≤ x.mark := by omega
    clear hneg
    go_wp2_with fail
    refine HR.out.mono ?_
    rintro e w2 ⟨rfl, hB2⟩
    have HF := hid (full_any w2 Z b L (HI.out.below hB2))
    have HB2 := hid (HB.out.trans (hB2.mono HB.out.size))
    clear hB2
    by_cases hm : x.mark = 0
    · have hm' : (x.mark == 0) = true := by simp [hm]
      rw [hm']
      have HM := hid hm
      clear hm hm' hpos
      go_wp2_with fail
      refine HF.out.mono ?_
      rintro e w3 ⟨rfl, hB3⟩
      have HB3 := hid (HB2.out.trans (hB3.mono HB2.out.size))
      clear hB3
      cases hfb : fullB L.room (nR L.q) with
      | true =>
        go_wp2
        refine bodyPost_ret (v := .int .i64 51) (by simp [results, Try.results29, go_sem]) rfl ⟨by simp [refI, HM.out, hfb], HB3.out⟩
      | false =>
        go_wp2
        refine bodyPost_ret (v := .int .i64 0) (by simp [results, Try.results29, go_sem]) rfl ⟨by simp [refI, HM.out, hfb], HB3.out⟩
    · have hm' : (x.mark == 0) = false := by simp [hm]
      rw [hm']
      have HM := hid hm
      clear hm hm' hpos
      go_wp2
      refine bodyPost_ret (v := .int .i64 0) (by simp [results, Try.results29, go_sem]) rfl ⟨by simp [refI, HM.out, HNg.out], HB2.out⟩
set_option maxRecDepth 60000 in
set_option maxHeartbeats 4000000 in
theorem take_none (w : World) (Z : Nat → Prop) (b : Nat) (L : Ln) (hI : LnI w Z b L) (hq : L.q = []) : Calls Try.prog 13 #[.pointer (some ⟨b, 0, none⟩)] w fun e w' => e = .returned (.tuple #[zI, .bool false]) ∧ Below w.heap.size w w' := by
  obtain ⟨W, hW⟩ : ∃ W, W = w.alloc (.cells #[.int .i64 0, .string ⟨#[]⟩, .int .i64 0, .int .i64 0, .string ⟨#[]⟩, .slice none 0 0, .slice none 0 0] 35) := ⟨_, rfl⟩
  have hB : Below w.heap.size w W := by rw [hW]; exact (Below.refl _ _).alloc (Nat.le_refl _) _
  have hX : Box W w.heap.size #[.int .i64 0, .string ⟨#[]⟩, .int .i64 0, .int .i64 0, .string ⟨#[]⟩, .slice none 0 0, .slice none 0 0] 35 := by rw [hW]; exact Box.new _ _ _
  have HRc := hid (receive_none W Z b L (hI.below hB) hq)
  have HB := hid hB
  have HW := hid hW
  have HX := hid hX
  clear hI hq hB hX hW
  go_enter Try.func13, Try.ntmps13
  go_upto_region 1 with fail
  rw [← HW.out]
  go_wp2_with fail
  refine HRc.out.mono ?_
  rintro e w1 ⟨rfl, hB1⟩
  have hX1 := HX.out.below hB1
  have HB1 := hid (HB.out.trans (hB1.mono HB.out.size))
  have z0 := hX1.cell 0
  have z1 := hX1.cell 1
  have z2 := hX1.cell 2
  have z3 := hX1.cell 3
  have z4 := hX1.cell 4
  have z5 := hX1.cell 5
  have z6 := hX1.cell 6
  simp at z0 z1 z2 z3 z4 z5 z6
  have f0 := hX1.frozen 0
  have f1 := hX1.frozen 1
  have f2 := hX1.frozen 2
  have f3 := hX1.frozen 3
  have f4 := hX1.frozen 4
  have f5 := hX1.frozen 5
  have f6 := hX1.frozen 6
  have zl := hX1.lt
  have hs1 := hB1.size
  have hs0 := HB.out.size
  clear hB1 hX1
  unfold zI
  go_wp2
  have hp := put7_but w1 w.heap.size ⟨0, rz⟩
  refine bodyPost_ret (v := .tuple #[zI, .bool false]) (by simp [results, Try.results13, go_sem, z0, z1, z2, z3, z4, z5, z6, zl, zI]) rfl ⟨rfl, ?_⟩
  change Below w.heap.size w ((put7 w1 w.heap.size ⟨0, rz⟩).alloc _)
  exact (HB1.out.trans (hp.below (by omega) (fun k hk e => by omega))).alloc (by have := hp.size; omega) _
end Go.Proofs.Ytbcnlfbclgkeiaa
