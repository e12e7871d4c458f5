import Derived.Test.YtpknlbibijheaabDlC
import Derived.RangeFuncLeaves
import Derived.RangeFuncFrom
import Derived.Test.YtpknlbibijheaabPack0
namespace Go.Proofs.Ytpknlbibijheaab
open Go.RowKit
set_option maxRecDepth 8000
set_option maxRecDepth 60000 in
set_option maxHeartbeats 4000000 in
theorem leastA_CC (w : World) (la : LT VT) (lb : LT VT) (S : Nat → Prop) (ha : LT.In elCell w S la) (hb : LT.In elCell w S lb) (hna : 0 < la.n) (hnb : lb.n = 0) :
    Calls Try.prog 31 #[.agg #[.slice la.p la.n la.c, .func (.func 33) #[] #[]], .agg #[.slice lb.p lb.n lb.c, .func (.func 33) #[] #[]]] w fun e w' => e = .returned (.string ((la.item 0).text)) ∧ Below w.heap.size w w' := by
  obtain ⟨W, hW⟩ : ∃ V, V = (w.alloc (.cells #[.slice la.p la.n la.c, .func (.func 33) #[] #[]] 53)).alloc (.cells #[.slice lb.p lb.n lb.c, .func (.func 33) #[] #[]] 53) := ⟨_, rfl⟩
  have hB : Below w.heap.size w W := by rw [hW]; exact ((Below.refl _ _).alloc (Nat.le_refl _) _).alloc (by simp) _
  have hxa : Box W w.heap.size #[.slice la.p la.n la.c, .func (.func 33) #[] #[]] 53 := by rw [hW]; exact (Box.new w _ _).below ((Below.refl _ _).alloc (Nat.le_refl _) _)
  have hxb : Box W (w.heap.size + 1) #[.slice lb.p lb.n lb.c, .func (.func 33) #[] #[]] 53 := by
    have h := Box.new (w.alloc (.cells #[.slice la.p la.n la.c, .func (.func 33) #[] #[]] 53)) #[.slice lb.p lb.n lb.c, .func (.func 33) #[] #[]] 53
    rw [← hW, show (w.alloc (.cells #[.slice la.p la.n la.c, .func (.func 33) #[] #[]] 53)).heap.size = w.heap.size + 1 by simp] at h
    exact h
  have HB := hid hB
  have HW := hid hW
  have HXa := hid hxa
  have HXb := hid hxb
  have HA := hid ha
  have HLb := hid hb
  have b0 := hxb.cell 0
  have b1 := hxb.cell 1
  have bl := hxb.lt
  simp at b0 b1
  clear hB hW hxa hxb ha hb
  have hq : ((lb.n : Int) == 0) = true := by simp [hnb]
  clear hnb
  go_enter Try.func31, Try.ntmps31
  go_upto_region 1 with fail
  rw [← HW.out]
  go_wp2_with (go_at_call 30; refine (count_C lb.p lb.n lb.c W).mono ?_)
  rintro e w1 ⟨rfl, hb1⟩
  have HB1 := hid hb1
  clear hb1 b0 b1

  have HBz : Hid (Below w.heap.size w w1) := HB.out.trans (HB1.out.mono HB.out.size)
  have ax := HXa.out.below HB1.out
  have a0 := ax.cell 0
  have a1 := ax.cell 1
  have al := ax.lt
  simp at a0 a1
  clear ax
  obtain ⟨sb, so, sp, _, slt, sat⟩ := HA.out.at_ hna
  rw [sp] at a0
  have d0 : w1.cell? ⟨sb, so, none⟩ = some (.string (la.item 0).text) := by
    have h := sat 0 hna 0 _ rfl
    rw [show so + 0 * elCell.size + 0 = so by omega] at h
    exact (World.cell?_of_block (a := ⟨sb, so, none⟩) (HBz.out.block sb slt)).trans h
  have d1 : w1.cell? ⟨sb, so + 1, none⟩ = some (.slice (la.item 0).p (la.item 0).n (la.item 0).c) := by
    have h := sat 0 hna 1 _ rfl
    rw [show so + 0 * elCell.size + 1 = so + 1 by omega] at h
    exact (World.cell?_of_block (a := ⟨sb, so + 1, none⟩) (HBz.out.block sb slt)).trans h
  have slt2 : sb < w1.heap.size := Nat.lt_of_lt_of_le slt HBz.out.size
  clear sat
  go_upto_region 2 with fail
  refine wp_region_calmE 30 (fun wx => Below w1.heap.size w1 wx) [(0, true), (1, false), (2, true), (3, false), (4, true), (5, false)] (.one 6 false [(7, true)] .done) (by kernel_rfl) (by kernel_rfl) (Below.refl _ _).drew ?_
  refine wpPre_e rfl rfl (fun K1 hK1 => ?_)
  apply Exists.intro
  refine And.intro (fun wx hx => ?_) ?_
  · go_simp
    try rfl
  go_simp
  refine hK1 _ ?_
  clear hK1 K1
  refine wpPre_e rfl rfl (fun K1 hK1 => ?_)
  apply Exists.intro
  refine And.intro (fun wx hx => ?_) ?_
  · have e0 := below_fact hx rfl a0
    have e1 := below_fact hx rfl a1
    have e2 := below_fact hx rfl d0
    have e3 := below_fact hx rfl d1
    go_simp
    try rfl
  go_simp
  refine hK1 _ ?_
  clear hK1 K1
  refine wpPre_e rfl rfl (fun K1 hK1 => ?_)
  apply Exists.intro
  refine And.intro (fun wx hx => ?_) ?_
  · go_simp
    try rfl
  go_simp
  refine hK1 _ ?_
  clear hK1 K1
  refine wpPre_e rfl rfl (fun K1 hK1 => ?_)
  apply Exists.intro
  refine And.intro (fun wx hx => ?_) ?_
  · have e0 := below_fact hx rfl a0
    have e1 := below_fact hx rfl a1
    have e2 := below_fact hx rfl d0
    have e3 := below_fact hx rfl d1
    go_simp
    try rfl
  go_simp
  refine hK1 _ ?_
  clear hK1 K1
  refine wpPre_e rfl rfl (fun K1 hK1 => ?_)
  apply Exists.intro
  refine And.intro (fun wx hx => ?_) ?_
  · go_simp
    try rfl
  go_simp
  refine hK1 _ ?_
  clear hK1 K1
  refine wpPre_e rfl rfl (fun K1 hK1 => ?_)
  apply Exists.intro
  refine And.intro (fun wx hx => ?_) ?_
  · have e0 := below_fact hx rfl a0
    have e1 := below_fact hx rfl a1
    have e2 := below_fact hx rfl d0
    have e3 := below_fact hx rfl d1
    go_simp
    try rfl
  go_simp
  refine hK1 _ ?_
  clear hK1 K1
  refine wpPre_nil ?_
  refine wpTr_e rfl (fun K1 hK1 => ?_)
  rw [if_pos (by go_simp)]
  refine step_callT 33 (.tmp 9) #[.tmp 13] _ rfl rfl Try.f33 Try.func33 (by kernel_rfl) rfl #[.agg #[.string (la.item 0).text, .slice (la.item 0).p (la.item 0).n (la.item 0).c]] rfl _ (key_C (la.item 0) _) (fun e w4 h4 => ?_)
  obtain ⟨rfl, h4⟩ := h4
  have HBq : Hid (Below w.heap.size w w4) := HBz.out.trans ((((Below.refl _ w1).drew).trans h4).mono HBz.out.size)
  clear h4
  refine ⟨_, rfl, ?_⟩
  go_simp
  refine hK1 _ _ (fun h => by cases h) ?_
  clear hK1 K1
  refine wpPre_e rfl rfl (fun K1 hK1 => ?_)
  apply Exists.intro
  refine And.intro (fun wx hx => ?_) ?_
  · go_simp
    try rfl
  go_simp
  refine hK1 _ ?_
  clear hK1 K1
  refine wpPre_nil ?_
  refine wpTr_done ?_
  go_wp2
  exact bodyPost_ret (v := .string ((la.item 0).text)) (by simp [results, Try.results31, go_sem]) rfl ⟨rfl, HBq.out⟩
set_option maxRecDepth 60000 in
set_option maxHeartbeats 4000000 in
theorem leastB_CC (w : World) (la : LT VT) (lb : LT VT) (S : Nat → Prop) (ha : LT.In elCell w S la) (hb : LT.In elCell w S lb) (hna : la.n = 0) (hnb : 0 < lb.n) :
    Calls Try.prog 31 #[.agg #[.slice la.p la.n la.c, .func (.func 33) #[] #[]], .agg #[.slice lb.p lb.n lb.c, .func (.func 33) #[] #[]]] w fun e w' => e = .returned (.string ((lb.item 0).text)) ∧ Below w.heap.size w w' := by
  obtain ⟨W, hW⟩ : ∃ V, V = (w.alloc (.cells #[.slice la.p la.n la.c, .func (.func 33) #[] #[]] 53)).alloc (.cells #[.slice lb.p lb.n lb.c, .func (.func 33) #[] #[]] 53) := ⟨_, rfl⟩
  have hB : Below w.heap.size w W := by rw [hW]; exact ((Below.refl _ _).alloc (Nat.le_refl _) _).alloc (by simp) _
  have hxa : Box W w.heap.size #[.slice la.p la.n la.c, .func (.func 33) #[] #[]] 53 := by rw [hW]; exact (Box.new w _ _).below ((Below.refl _ _).alloc (Nat.le_refl _) _)
  have hxb : Box W (w.heap.size + 1) #[.slice lb.p lb.n lb.c, .func (.func 33) #[] #[]] 53 := by
    have h := Box.new (w.alloc (.cells #[.slice la.p la.n la.c, .func (.func 33) #[] #[]] 53)) #[.slice lb.p lb.n lb.c, .func (.func 33) #[] #[]] 53
    rw [← hW, show (w.alloc (.cells #[.slice la.p la.n la.c, .func (.func 33) #[] #[]] 53)).heap.size = w.heap.size + 1 by simp] at h
    exact h
  have HB := hid hB
  have HW := hid hW
  have HXa := hid hxa
  have HXb := hid hxb
  have HA := hid ha
  have HLb := hid hb
  have b0 := hxb.cell 0
  have b1 := hxb.cell 1
  have bl := hxb.lt
  simp at b0 b1
  clear hB hW hxa hxb ha hb
  have hr : ((la.n : Int) == 0) = true := by simp [hna]
  clear hna
  go_enter Try.func31, Try.ntmps31
  go_upto_region 1 with fail
  rw [← HW.out]
  go_wp2_with (go_at_call 30; refine (count_C lb.p lb.n lb.c W).mono ?_)
  rintro e w1 ⟨rfl, hb1⟩
  have HB1 := hid hb1
  clear hb1 b0 b1
  have hq : ((lb.n : Int) == 0) = false := by simp; omega
  have ax := HXa.out.below HB1.out
  have a0 := ax.cell 0
  have a1 := ax.cell 1
  have al := ax.lt
  simp at a0 a1
  clear ax
  go_wp2_with (go_at_call 30; refine (count_C la.p la.n la.c w1).mono ?_)
  rintro e w2 ⟨rfl, hb2⟩
  have HB2 : Hid (Below W.heap.size W w2) := HB1.out.trans (hb2.mono HB1.out.size)
  have HBz : Hid (Below w.heap.size w w2) := HB.out.trans (HB2.out.mono HB.out.size)
  clear hb2 a0 a1

  have bx := HXb.out.below HB2.out
  have b0 := bx.cell 0
  have b1 := bx.cell 1
  have bl := bx.lt
  simp at b0 b1
  clear bx
  obtain ⟨sb, so, sp, _, slt, sat⟩ := HLb.out.at_ hnb
  rw [sp] at b0
  have d0 : w2.cell? ⟨sb, so, none⟩ = some (.string (lb.item 0).text) := by
    have h := sat 0 hnb 0 _ rfl
    rw [show so + 0 * elCell.size + 0 = so by omega] at h
    exact (World.cell?_of_block (a := ⟨sb, so, none⟩) (HBz.out.block sb slt)).trans h
  have d1 : w2.cell? ⟨sb, so + 1, none⟩ = some (.slice (lb.item 0).p (lb.item 0).n (lb.item 0).c) := by
    have h := sat 0 hnb 1 _ rfl
    rw [show so + 0 * elCell.size + 1 = so + 1 by omega] at h
    exact (World.cell?_of_block (a := ⟨sb, so + 1, none⟩) (HBz.out.block sb slt)).trans h
  have slt2 : sb < w2.heap.size := Nat.lt_of_lt_of_le slt HBz.out.size
  clear sat
  go_upto_region 4 with fail
  refine wp_region_calmE 30 (fun wx => Below w2.heap.size w2 wx) [(0, true), (1, false), (2, true), (3, false), (4, true), (5, false)] (.one 6 false [(7, true)] .done) (by kernel_rfl) (by kernel_rfl) (Below.refl _ _).drew ?_
  refine wpPre_e rfl rfl (fun K1 hK1 => ?_)
  apply Exists.intro
  refine And.intro (fun wx hx => ?_) ?_
  · go_simp
    try rfl
  go_simp
  refine hK1 _ ?_
  clear hK1 K1
  refine wpPre_e rfl rfl (fun K1 hK1 => ?_)
  apply Exists.intro
  refine And.intro (fun wx hx => ?_) ?_
  · have e0 := below_fact hx rfl b0
    have e1 := below_fact hx rfl b1
    have e2 := below_fact hx rfl d0
    have e3 := below_fact hx rfl d1
    go_simp
    try rfl
  go_simp
  refine hK1 _ ?_
  clear hK1 K1
  refine wpPre_e rfl rfl (fun K1 hK1 => ?_)
  apply Exists.intro
  refine And.intro (fun wx hx => ?_) ?_
  · go_simp
    try rfl
  go_simp
  refine hK1 _ ?_
  clear hK1 K1
  refine wpPre_e rfl rfl (fun K1 hK1 => ?_)
  apply Exists.intro
  refine And.intro (fun wx hx => ?_) ?_
  · have e0 := below_fact hx rfl b0
    have e1 := below_fact hx rfl b1
    have e2 := below_fact hx rfl d0
    have e3 := below_fact hx rfl d1
    go_simp
    try rfl
  go_simp
  refine hK1 _ ?_
  clear hK1 K1
  refine wpPre_e rfl rfl (fun K1 hK1 => ?_)
  apply Exists.intro
  refine And.intro (fun wx hx => ?_) ?_
  · go_simp
    try rfl
  go_simp
  refine hK1 _ ?_
  clear hK1 K1
  refine wpPre_e rfl rfl (fun K1 hK1 => ?_)
  apply Exists.intro
  refine And.intro (fun wx hx => ?_) ?_
  · have e0 := below_fact hx rfl b0
    have e1 := below_fact hx rfl b1
    have e2 := below_fact hx rfl d0
    have e3 := below_fact hx rfl d1
    go_simp
    try rfl
  go_simp
  refine hK1 _ ?_
  clear hK1 K1
  refine wpPre_nil ?_
  refine wpTr_e rfl (fun K1 hK1 => ?_)
  rw [if_pos (by go_simp)]
  refine step_callT 33 (.tmp 19) #[.tmp 23] _ rfl rfl Try.f33 Try.func33 (by kernel_rfl) rfl #[.agg #[.string (lb.item 0).text, .slice (lb.item 0).p (lb.item 0).n (lb.item 0).c]] rfl _ (key_C (lb.item 0) _) (fun e w4 h4 => ?_)
  obtain ⟨rfl, h4⟩ := h4
  have HBq : Hid (Below w.heap.size w w4) := HBz.out.trans ((((Below.refl _ w2).drew).trans h4).mono HBz.out.size)
  clear h4
  refine ⟨_, rfl, ?_⟩
  go_simp
  refine hK1 _ _ (fun h => by cases h) ?_
  clear hK1 K1
  refine wpPre_e rfl rfl (fun K1 hK1 => ?_)
  apply Exists.intro
  refine And.intro (fun wx hx => ?_) ?_
  · go_simp
    try rfl
  go_simp
  refine hK1 _ ?_
  clear hK1 K1
  refine wpPre_nil ?_
  refine wpTr_done ?_
  go_wp2
  exact bodyPost_ret (v := .string ((lb.item 0).text)) (by simp [results, Try.results31, go_sem]) rfl ⟨rfl, HBq.out⟩
set_option maxRecDepth 60000 in
set_option maxHeartbeats 4000000 in
theorem leastAB_CC (w : World) (la : LT VT) (lb : LT VT) (S : Nat → Prop) (ha : LT.In elCell w S la) (hb : LT.In elCell w S lb) (hna : 0 < la.n) (hnb : 0 < lb.n) (res : ByteArray) (hres : res = (if Op.bytesLess (la.item 0).text.toList (lb.item 0).text.toList = true ∨ (la.item 0).text.toList = (lb.item 0).text.toList then (la.item 0).text else (lb.item 0).text)) :
    Calls Try.prog 31 #[.agg #[.slice la.p la.n la.c, .func (.func 33) #[] #[]], .agg #[.slice lb.p lb.n lb.c, .func (.func 33) #[] #[]]] w fun e w' => e = .returned (.string (res)) ∧ Below w.heap.size w w' := by
  obtain ⟨W, hW⟩ : ∃ V, V = (w.alloc (.cells #[.slice la.p la.n la.c, .func (.func 33) #[] #[]] 53)).alloc (.cells #[.slice lb.p lb.n lb.c, .func (.func 33) #[] #[]] 53) := ⟨_, rfl⟩
  have hB : Below w.heap.size w W := by rw [hW]; exact ((Below.refl _ _).alloc (Nat.le_refl _) _).alloc (by simp) _
  have hxa : Box W w.heap.size #[.slice la.p la.n la.c, .func (.func 33) #[] #[]] 53 := by rw [hW]; exact (Box.new w _ _).below ((Below.refl _ _).alloc (Nat.le_refl _) _)
  have hxb : Box W (w.heap.size + 1) #[.slice lb.p lb.n lb.c, .func (.func 33) #[] #[]] 53 := by
    have h := Box.new (w.alloc (.cells #[.slice la.p la.n la.c, .func (.func 33) #[] #[]] 53)) #[.slice lb.p lb.n lb.c, .func (.func 33) #[] #[]] 53
    rw [← hW, show (w.alloc (.cells #[.slice la.p la.n la.c, .func (.func 33) #[] #[]] 53)).heap.size = w.heap.size + 1 by simp] at h
    exact h
  have HB := hid hB
  have HW := hid hW
  have HXa := hid hxa
  have HXb := hid hxb
  have HA := hid ha
  have HLb := hid hb
  have b0 := hxb.cell 0
  have b1 := hxb.cell 1
  have bl := hxb.lt
  simp at b0 b1
  clear hB hW hxa hxb ha hb
  have HRes := hid hres
  clear hres
  go_enter Try.func31, Try.ntmps31
  go_upto_region 1 with fail
  rw [← HW.out]
  go_wp2_with (go_at_call 30; refine (count_C lb.p lb.n lb.c W).mono ?_)
  rintro e w1 ⟨rfl, hb1⟩
  have HB1 := hid hb1
  clear hb1 b0 b1
  have hq : ((lb.n : Int) == 0) = false := by simp; omega
  have ax := HXa.out.below HB1.out
  have a0 := ax.cell 0
  have a1 := ax.cell 1
  have al := ax.lt
  simp at a0 a1
  clear ax
  go_wp2_with (go_at_call 30; refine (count_C la.p la.n la.c w1).mono ?_)
  rintro e w2 ⟨rfl, hb2⟩
  have HB2 : Hid (Below W.heap.size W w2) := HB1.out.trans (hb2.mono HB1.out.size)
  have HBz : Hid (Below w.heap.size w w2) := HB.out.trans (HB2.out.mono HB.out.size)
  clear hb2 a0 a1
  have hr : ((la.n : Int) == 0) = false := by simp; omega
  have ax := HXa.out.below HB2.out
  have a0 := ax.cell 0
  have a1 := ax.cell 1
  have al := ax.lt
  simp at a0 a1
  clear ax
  have bx := HXb.out.below HB2.out
  have b0 := bx.cell 0
  have b1 := bx.cell 1
  have bl := bx.lt
  simp at b0 b1
  clear bx
  obtain ⟨sb, so, sp, _, slt, sat⟩ := HA.out.at_ hna
  rw [sp] at a0
  have d0 : w2.cell? ⟨sb, so, none⟩ = some (.string (la.item 0).text) := by
    have h := sat 0 hna 0 _ rfl
    rw [show so + 0 * elCell.size + 0 = so by omega] at h
    exact (World.cell?_of_block (a := ⟨sb, so, none⟩) (HBz.out.block sb slt)).trans h
  have d1 : w2.cell? ⟨sb, so + 1, none⟩ = some (.slice (la.item 0).p (la.item 0).n (la.item 0).c) := by
    have h := sat 0 hna 1 _ rfl
    rw [show so + 0 * elCell.size + 1 = so + 1 by omega] at h
    exact (World.cell?_of_block (a := ⟨sb, so + 1, none⟩) (HBz.out.block sb slt)).trans h
  have slt2 : sb < w2.heap.size := Nat.lt_of_lt_of_le slt HBz.out.size
  clear sat
  obtain ⟨vb, vo, vp, _, vlt, vat⟩ := HLb.out.at_ hnb
  rw [vp] at b0
  have f0 : w2.cell? ⟨vb, vo, none⟩ = some (.string (lb.item 0).text) := by
    have h := vat 0 hnb 0 _ rfl
    rw [show vo + 0 * elCell.size + 0 = vo by omega] at h
    exact (World.cell?_of_block (a := ⟨vb, vo, none⟩) (HBz.out.block vb vlt)).trans h
  have f1 : w2.cell? ⟨vb, vo + 1, none⟩ = some (.slice (lb.item 0).p (lb.item 0).n (lb.item 0).c) := by
    have h := vat 0 hnb 1 _ rfl
    rw [show vo + 0 * elCell.size + 1 = vo + 1 by omega] at h
    exact (World.cell?_of_block (a := ⟨vb, vo + 1, none⟩) (HBz.out.block vb vlt)).trans h
  have vlt2 : vb < w2.heap.size := Nat.lt_of_lt_of_le vlt HBz.out.size
  clear vat
  go_upto_region 5 with fail
  refine wp_region_calmE 30 (fun wx => Below w2.heap.size w2 wx) [(0, true), (1, false), (2, true), (3, false), (4, true), (5, false), (7, true), (8, false), (9, true), (10, false), (11, true), (12, false)] (.one 6 true [] (.one 13 false [(14, true), (15, true)] .done)) (by kernel_rfl) (by kernel_rfl) (Below.refl _ _).drew ?_
  refine wpPre_e rfl rfl (fun K1 hK1 => ?_)
  apply Exists.intro
  refine And.intro (fun wx hx => ?_) ?_
  · go_simp
    try rfl
  go_simp
  refine hK1 _ ?_
  clear hK1 K1
  refine wpPre_e rfl rfl (fun K1 hK1 => ?_)
  apply Exists.intro
  refine And.intro (fun wx hx => ?_) ?_
  · have e0 := below_fact hx rfl a0
    have e1 := below_fact hx rfl a1
    have e2 := below_fact hx rfl b0
    have e3 := below_fact hx rfl b1
    have e4 := below_fact hx rfl d0
    have e5 := below_fact hx rfl d1
    have e6 := below_fact hx rfl f0
    have e7 := below_fact hx rfl f1
    go_simp
    try rfl
  go_simp
  refine hK1 _ ?_
  clear hK1 K1
  refine wpPre_e rfl rfl (fun K1 hK1 => ?_)
  apply Exists.intro
  refine And.intro (fun wx hx => ?_) ?_
  · go_simp
    try rfl
  go_simp
  refine hK1 _ ?_
  clear hK1 K1
  refine wpPre_e rfl rfl (fun K1 hK1 => ?_)
  apply Exists.intro
  refine And.intro (fun wx hx => ?_) ?_
  · have e0 := below_fact hx rfl a0
    have e1 := below_fact hx rfl a1
    have e2 := below_fact hx rfl b0
    have e3 := below_fact hx rfl b1
    have e4 := below_fact hx rfl d0
    have e5 := below_fact hx rfl d1
    have e6 := below_fact hx rfl f0
    have e7 := below_fact hx rfl f1
    go_simp
    try rfl
  go_simp
  refine hK1 _ ?_
  clear hK1 K1
  refine wpPre_e rfl rfl (fun K1 hK1 => ?_)
  apply Exists.intro
  refine And.intro (fun wx hx => ?_) ?_
  · go_simp
    try rfl
  go_simp
  refine hK1 _ ?_
  clear hK1 K1
  refine wpPre_e rfl rfl (fun K1 hK1 => ?_)
  apply Exists.intro
  refine And.intro (fun wx hx => ?_) ?_
  · have e0 := below_fact hx rfl a0
    have e1 := below_fact hx rfl a1
    have e2 := below_fact hx rfl b0
    have e3 := below_fact hx rfl b1
    have e4 := below_fact hx rfl d0
    have e5 := below_fact hx rfl d1
    have e6 := below_fact hx rfl f0
    have e7 := below_fact hx rfl f1
    go_simp
    try rfl
  go_simp
  refine hK1 _ ?_
  clear hK1 K1
  refine wpPre_e rfl rfl (fun K1 hK1 => ?_)
  apply Exists.intro
  refine And.intro (fun wx hx => ?_) ?_
  · go_simp
    try rfl
  go_simp
  refine hK1 _ ?_
  clear hK1 K1
  refine wpPre_e rfl rfl (fun K1 hK1 => ?_)
  apply Exists.intro
  refine And.intro (fun wx hx => ?_) ?_
  · have e0 := below_fact hx rfl a0
    have e1 := below_fact hx rfl a1
    have e2 := below_fact hx rfl b0
    have e3 := below_fact hx rfl b1
    have e4 := below_fact hx rfl d0
    have e5 := below_fact hx rfl d1
    have e6 := below_fact hx rfl f0
    have e7 := below_fact hx rfl f1
    go_simp
    try rfl
  go_simp
  refine hK1 _ ?_
  clear hK1 K1
  refine wpPre_e rfl rfl (fun K1 hK1 => ?_)
  apply Exists.intro
  refine And.intro (fun wx hx => ?_) ?_
  · go_simp
    try rfl
  go_simp
  refine hK1 _ ?_
  clear hK1 K1
  refine wpPre_e rfl rfl (fun K1 hK1 => ?_)
  apply Exists.intro
  refine And.intro (fun wx hx => ?_) ?_
  · have e0 := below_fact hx rfl a0
    have e1 := below_fact hx rfl a1
    have e2 := below_fact hx rfl b0
    have e3 := below_fact hx rfl b1
    have e4 := below_fact hx rfl d0
    have e5 := below_fact hx rfl d1
    have e6 := below_fact hx rfl f0
    have e7 := below_fact hx rfl f1
    go_simp
    try rfl
  go_simp
  refine hK1 _ ?_
  clear hK1 K1
  refine wpPre_e rfl rfl (fun K1 hK1 => ?_)
  apply Exists.intro
  refine And.intro (fun wx hx => ?_) ?_
  · go_simp
    try rfl
  go_simp
  refine hK1 _ ?_
  clear hK1 K1
  refine wpPre_e rfl rfl (fun K1 hK1 => ?_)
  apply Exists.intro
  refine And.intro (fun wx hx => ?_) ?_
  · have e0 := below_fact hx rfl a0
    have e1 := below_fact hx rfl a1
    have e2 := below_fact hx rfl b0
    have e3 := below_fact hx rfl b1
    have e4 := below_fact hx rfl d0
    have e5 := below_fact hx rfl d1
    have e6 := below_fact hx rfl f0
    have e7 := below_fact hx rfl f1
    go_simp
    try rfl
  go_simp
  refine hK1 _ ?_
  clear hK1 K1
  refine wpPre_nil ?_
  refine wpTr_e rfl (fun K1 hK1 => ?_)
  rw [if_pos (by go_simp)]
  refine step_callT 33 (.tmp 26) #[.tmp 30] _ rfl rfl Try.f33 Try.func33 (by kernel_rfl) rfl #[.agg #[.string (la.item 0).text, .slice (la.item 0).p (la.item 0).n (la.item 0).c]] rfl _ (key_C (la.item 0) _) (fun e w4 h4 => ?_)
  obtain ⟨rfl, h4⟩ := h4
  have hb4 : Below w2.heap.size w2 w4 := ((Below.refl _ w2).drew).trans h4
  have HB4 := hid hb4
  clear h4
  refine ⟨_, rfl, ?_⟩
  go_simp
  refine hK1 _ _ (fun _ => hb4) ?_
  clear hK1 K1 hb4
  refine wpPre_nil ?_
  refine wpTr_e rfl (fun K1 hK1 => ?_)
  rw [if_pos (by go_simp)]
  refine step_callT 33 (.tmp 33) #[.tmp 37] _ rfl rfl Try.f33 Try.func33 (by kernel_rfl) rfl #[.agg #[.string (lb.item 0).text, .slice (lb.item 0).p (lb.item 0).n (lb.item 0).c]] rfl _ (key_C (lb.item 0) _) (fun e w5 h5 => ?_)
  obtain ⟨rfl, h5⟩ := h5
  have HBq : Hid (Below w.heap.size w w5) := HBz.out.trans ((HB4.out.trans (h5.mono HB4.out.size)).mono HBz.out.size)
  clear h5
  refine ⟨_, rfl, ?_⟩
  go_simp
  refine hK1 _ _ (fun h => by cases h) ?_
  clear hK1 K1
  refine wpPre_e rfl rfl (fun K1 hK1 => ?_)
  apply Exists.intro
  refine And.intro (fun wx hx => ?_) ?_
  · go_simp
    try rfl
  go_simp
  refine hK1 _ ?_
  clear hK1 K1
  refine wpPre_e rfl rfl (fun K1 hK1 => ?_)
  apply Exists.intro
  refine And.intro (fun wx hx => ?_) ?_
  · go_simp
    try rfl
  go_simp
  refine hK1 _ ?_
  clear hK1 K1
  refine wpPre_nil ?_
  refine wpTr_done ?_
  obtain ⟨z, hz⟩ : ∃ z : ByteArray, z = (if Op.bytesLess (la.item 0).text.toList (lb.item 0).text.toList = true ∨ (la.item 0).text.toList = (lb.item 0).text.toList then (la.item 0).text else (lb.item 0).text) := ⟨_, rfl⟩
  rw [← hz]
  have HZz := hid hz
  clear hz
  go_wp2
  exact bodyPost_ret (v := .string z) (by simp [results, Try.results31, go_sem]) rfl ⟨by rw [HRes.out, ← HZz.out], HBq.out⟩
end Go.Proofs.Ytpknlbibijheaab

namespace Go.Proofs.Ytpknlbibijheaab
open Go.RowKit
set_option maxRecDepth 8000
end Go.Proofs.Ytpknlbibijheaab

namespace Go.Proofs.Ytpknlbibijheaab
open Go.RowKit
set_option maxRecDepth 8000
/-- what abides changes of blocks at B or beyond whose objects are of a kind -/
def Ab {β : Type} (B : Nat) (ok : Obj → Prop) (J : β → World → Prop) : Prop :=
  ∀ s W W' (X : Nat → Prop), J s W → But X W W' → (∀ k, k < W.heap.size → X k → B ≤ k ∧ ∃ o, W.heap[k]? = some o ∧ ok o) → J s W'
/-- cells of one of the types T -/
def okT (T : TypeId → Prop) (o : Obj) : Prop := ∃ c t, o = .cells c t (0, 0) ∧ T t
/-- no cells at all -/
def okN (o : Obj) : Prop := o.isCells = false
def okTN (T : TypeId → Prop) (o : Obj) : Prop := okT T o ∨ okN o
theorem Ab.weak {β : Type} {B : Nat} {ok ok' : Obj → Prop} {J : β → World → Prop} (h : Ab B ok J) (hk : ∀ o, ok' o → ok o) : Ab B ok' J := fun s W W' X hs hb hx => h s W W' X hs hb fun k hl e => by
  obtain ⟨h1, o, h2, h3⟩ := hx k hl e
  exact ⟨h1, o, h2, hk o h3⟩
theorem Ab.and {β : Type} {B : Nat} {ok : Obj → Prop} {J J' : β → World → Prop} (h : Ab B ok J) (h' : Ab B ok J') : Ab B ok (fun s W => J s W ∧ J' s W) := fun s W W' X hs hb hx => ⟨h s W W' X hs.1 hb hx, h' s W W' X hs.2 hb hx⟩
theorem But.put (W : World) (l : Nat) (o : Obj) : But (fun k => k = l) W (W.putObj l o) := ⟨rfl, rfl, rfl, by simp, fun k _ hk => World.putObj_heap_other hk⟩
theorem Ab.turn {β : Type} {B : Nat} {ok : Obj → Prop} {J : β → World → Prop} (h : Ab B ok J) {s : β} {W : World} {l : Nat} {o : Obj} (o' : Obj) (hs : J s W) (hB : B ≤ l) (hl : W.heap[l]? = some o) (ho : ok o) : J s (W.putObj l o') :=
  h s W _ _ hs (But.put W l o') fun k _ e => by subst e; exact ⟨hB, o, hl, ho⟩
theorem Ab.grow {β : Type} {B : Nat} {ok : Obj → Prop} {J : β → World → Prop} (h : Ab B ok J) {s : β} {W W' : World} (hs : J s W) (hb : Below W.heap.size W W') : J s W' :=
  h s W W' (fun _ => False) hs (But.ofBelow hb) fun _ _ e => e.elim
/-- what a round keeps: all that lay ahead of the loop but one block, and the iterator's own cells -/
structure KeepT (B : Nat) (T : TypeId → Prop) (b0 : Nat) (W W' : World) : Prop where
  size : W.heap.size ≤ W'.heap.size
  low : ∀ k, k < B → k < W.heap.size → k ≠ b0 → W'.heap[k]? = W.heap[k]?
  tag : ∀ k c t, B ≤ k → W.heap[k]? = some (.cells c t (0, 0)) → T t → W'.heap[k]? = some (.cells c t (0, 0))
/-- what a body keeps -/
structure KeepB (B : Nat) (T : TypeId → Prop) (b0 : Nat) (W W' : World) : Prop where
  kt : KeepT B T b0 W W'
  non : ∀ k o, B ≤ k → W.heap[k]? = some o → o.isCells = false → W'.heap[k]? = some o
theorem KeepT.trans {B : Nat} {T : TypeId → Prop} {b0 : Nat} {X Y Z : World} (h : KeepT B T b0 X Y) (g : KeepT B T b0 Y Z) : KeepT B T b0 X Z :=
  ⟨Nat.le_trans h.size g.size, fun k hk hl hn => (g.low k hk (Nat.lt_of_lt_of_le hl h.size) hn).trans (h.low k hk hl hn), fun k c t hk hc ht => g.tag k c t hk (h.tag k c t hk hc ht) ht⟩
theorem KeepB.trans {B : Nat} {T : TypeId → Prop} {b0 : Nat} {X Y Z : World} (h : KeepB B T b0 X Y) (g : KeepB B T b0 Y Z) : KeepB B T b0 X Z :=
  ⟨h.kt.trans g.kt, fun k o hk ho hc => g.non k o hk (h.non k o hk ho hc) hc⟩
theorem KeepT.turn {B : Nat} {T : TypeId → Prop} {b0 : Nat} {W : World} {l : Nat} {o : Obj} (o' : Obj) (hB : B ≤ l) (hl : W.heap[l]? = some o) (ho : o.isCells = false) : KeepT B T b0 W (W.putObj l o') := by
  refine ⟨by simp, fun k hk _ _ => World.putObj_heap_other (by omega), fun k c t hk hc _ => ?_⟩
  rw [World.putObj_heap_other]
  · exact hc
  · rintro rfl
    rw [hl] at hc
    cases hc
    simp [Obj.isCells] at ho
theorem KeepB.below {B : Nat} {T : TypeId → Prop} {b0 : Nat} {W W' : World} (h : Below W.heap.size W W') : KeepB B T b0 W W' := by
  have hk : ∀ k o, W.heap[k]? = some o → W'.heap[k]? = some o := fun k o ho => (h.block k (Array.getElem?_eq_some_iff.1 ho).1).trans ho
  exact ⟨⟨h.size, fun k _ hl _ => h.block k hl, fun k c t _ hc _ => hk k _ hc⟩, fun k o _ ho _ => hk k o ho⟩
/-- an iterator: what it yields, one behind the other, whatever the rounds make of it -/
def SeqT {α : Type} (P : Program) (g : Nat) (lb : Array Value) (encs : α → Array Value) (XS : List α) (T : TypeId → Prop) (b0 : Nat) (w : World) : Prop :=
  ∀ (l : Nat) (J : List α → World → Prop) (W : World), Below w.heap.size w W → Ab w.heap.size (okT T) J →
    (∀ pre x W1, J pre W1 → (pre ++ [x]) <+: XS → YieldAt Fence.wide 0 P l (encs x) W1 fun e W' => e = .returned (.bool true) ∧ J (pre ++ [x]) W' ∧ KeepT w.heap.size T b0 W1 W') →
    J [] W → CallsIn Fence.wide 0 P g (#[.func (.yield l) #[] #[]] ++ lb) W fun e W' => (∃ v, e = .returned v) ∧ J XS W'
/-- how a body is left -/
def bodyPostT {α : Type} (B : Nat) (T : TypeId → Prop) (b0 : Nat) (I : List α → World → Prop) (xs : List α) (W : World) : Exit → Act → World → Prop
  | .normal, _, W' => KeepB B T b0 W W' ∧ I xs W'
  | _, _, _ => False
/-- a range over an iterator -/
theorem range_law {α : Type} {P : Program} {g : Operand} {ps : Array Tmp} {assign body : Code} {Q : Exit → Act → World → Prop} {a : Act} {w : World}
    {gf : Nat} {lb : Array Value} (hg : a.eval g = .func (.func gf) #[] lb) (eg : ∀ args w, (callFunc gf args).run P w = .ok (.enter gf args) w)
    {encs : α → Array Value} (hps : ∀ x, (encs x).size = ps.size) {XS : List α} {T : TypeId → Prop} {b0 : Nat} (hseq : SeqT P gf lb encs XS T b0 w)
    (I : List α → World → Prop) (hI : Ab w.heap.size (okTN T) I) (h0 : I [] w)
    (Ax : α → Act → World → Prop) (hAx : Ab w.heap.size okN (fun (s : α × Act) W => Ax s.1 s.2 W))
    (hassign : ∀ (l : Nat) (pre : List α) (x : α) (W : World) (K : Act → World → Prop), I pre W → (∀ a' W', KeepB w.heap.size T b0 W W' → I pre W' → Ax x a' W' → K a' W') →
      assign.wpIn (Fence.wide.inRound l) 0 P (Exit.then K (fun _ _ _ => False)) { tmps := (ps.zip (encs x)).foldl (fun t (p, v) => t.setIfInBounds p v) a.tmps, defers := [] } W)
    (hbody : ∀ (l : Nat) (pre : List α) (x : α) (a' : Act) (W : World), I pre W → Ax x a' W → (pre ++ [x]) <+: XS → body.wpIn (Fence.wide.inRound l) 0 P (bodyPostT w.heap.size T b0 I (pre ++ [x]) W) a' W)
    (hdone : ∀ (D : Nat) (W : World), w.heap.size ≤ D → I XS W → W.heap[D]? = some (.deferred (some [])) → Q .normal { a with defers := { target := .collected D, args := #[] } :: a.defers } W) :
    (Code.rangeFunc g ps assign body).wpIn Fence.wide 0 P Q a w := by
  refine wpIn_rangeFunc fun fn hfn => ?_
  generalize hr : (fun (st : LoopState) => ({ state := st, pending := none, fn := fn, tmps := a.tmps, params := ps, assign := assign, body := body, defers := w.heap.size } : Loop)) = rec
  have hr' : ∀ st, rec st = { state := st, pending := none, fn := fn, tmps := a.tmps, params := ps, assign := assign, body := body, defers := w.heap.size } := fun st => by rw [← hr]
  generalize hV : (w.alloc (.deferred (some []))).alloc (.loop (rec .ready)) = V
  have hLV : V.heap[w.heap.size + 1]? = some (.loop (rec .ready)) := by
    have h := World.alloc_heap_new (w.alloc (.deferred (some []))) (.loop (rec .ready))
    rw [hV] at h
    simpa using h
  have hbV : Below w.heap.size w V := by rw [← hV]; exact ((Below.refl _ w).alloc (Nat.le_refl _) _).alloc (by simp) _
  have hDV : V.heap[w.heap.size]? = some (.deferred (some [])) := by
    rw [← hV]; exact (Below.heap_alloc _ _ _ (by simp)).trans (World.alloc_heap_new w _)
  have hN : ∀ {o : Obj}, o.isCells = false → okTN T o := fun h => .inr h
  refine ⟨w.heap.size + 1, [{ target := .collected w.heap.size, args := #[] }], V, { target := .fn (.func gf) lb, args := #[.func (.yield (w.heap.size + 1)) #[] #[]] }, V, gf, #[.func (.yield (w.heap.size + 1)) #[] #[]] ++ lb, V, ?_, ?_, fun _ _ => trivial, ?_, (fun h => by cases h), ?_⟩
  · rw [← hV, hr' .ready]; exact run_enterLoop_outer _ _ _ _ _
  · simp only [resolve, hg]; simp [go_sem]
  · simp [invoke, go_sem, eg]
  have hJ : Ab w.heap.size (okT T) (fun pre W => I pre W ∧ W.heap[w.heap.size + 1]? = some (.loop (rec .ready)) ∧ W.heap[w.heap.size]? = some (.deferred (some []))) := by
    intro s W W' X ⟨h1, h2, h3⟩ hb hx
    have keep : ∀ (k : Nat) (o : Obj), W.heap[k]? = some o → o.isCells = false → W'.heap[k]? = some o := fun k o ho hc => by
      refine (hb.block k (Array.getElem?_eq_some_iff.1 ho).1 fun e => ?_).trans ho
      obtain ⟨_, o2, h4, c, t, h5, _⟩ := hx k (Array.getElem?_eq_some_iff.1 ho).1 e
      rw [ho] at h4
      cases h4
      subst h5
      simp [Obj.isCells] at hc
    exact ⟨(hI.weak fun _ h => .inl h) s W W' X h1 hb hx, keep _ _ h2 rfl, keep _ _ h3 rfl⟩
  refine (hseq (w.heap.size + 1) _ V hbV hJ ?_ ⟨hI.grow h0 (hbV.mono (Nat.le_refl _)), hLV, hDV⟩).mono ?_
  · rintro pre x W ⟨hi, hl, hk⟩ hpre
    have hlt : w.heap.size + 1 < W.heap.size := (Array.getElem?_eq_some_iff.1 hl).1
    have hy := run_yield (P := P) (args := encs x) hl (by rw [hr']; exact hps x)
    rw [hr'] at hy
    refine ⟨fn, _, assign, body, hy, roundIn_of_wpIn hfn (hassign _ pre x W _ hi fun a' W' hkb hi' hax => ?_)⟩
    have hl' := hkb.non _ _ (Nat.le_succ _) hl rfl
    have hk' := hkb.non _ _ (Nat.le_refl _) hk rfl
    refine ⟨_, run_beginRound hl' (by rw [hr']), ?_⟩
    generalize hW2 : W'.putObj (w.heap.size + 1) (.loop { rec .ready with state := .busy }) = W2
    have hlt' : w.heap.size + 1 < W'.heap.size := (Array.getElem?_eq_some_iff.1 hl').1
    have hl2 : W2.heap[w.heap.size + 1]? = some (.loop { rec .ready with state := .busy }) := by rw [← hW2]; exact World.putObj_heap_same hlt'
    have hk2 : W2.heap[w.heap.size]? = some (.deferred (some [])) := by rw [← hW2]; exact (World.putObj_heap_other (by omega)).trans hk'
    have hi2 : I pre W2 := by rw [← hW2]; exact hI.turn _ hi' (Nat.le_succ _) hl' (hN rfl)
    have hax2 : Ax x a' W2 := by rw [← hW2]; exact hAx.turn (s := (x, a')) _ hax (Nat.le_succ _) hl' rfl
    have hkt2 : KeepT w.heap.size T b0 W W2 := hkb.kt.trans (by rw [← hW2]; exact KeepT.turn _ (Nat.le_succ _) hl' rfl)
    refine wpIn_mono (hbody _ pre x a' W2 hi2 hax2 hpre) ?_
    intro e a3 W3 hp
    cases e with
    | normal =>
      obtain ⟨hk3, hi3⟩ := hp
      have hl3 := hk3.non _ _ (Nat.le_succ _) hl2 rfl
      have hd3 := hk3.non _ _ (Nat.le_refl _) hk2 rfl
      have hlt3 : w.heap.size + 1 < W3.heap.size := (Array.getElem?_eq_some_iff.1 hl3).1
      refine ⟨_, _, run_endRound (P := P) none hl3, rfl, ⟨hI.turn _ hi3 (Nat.le_succ _) hl3 (hN rfl), ?_, (World.putObj_heap_other (by omega)).trans hd3⟩, (hkt2.trans hk3.kt).trans (KeepT.turn _ (Nat.le_succ _) hl3 rfl)⟩
      rw [World.putObj_heap_same hlt3, hr']
      rfl
    | ret => exact hp.elim
    | exit _ => exact hp.elim
    | goto _ => exact hp.elim
    | panic _ => exact hp.elim
    | outgrown => exact hp.elim
  · rintro e W ⟨⟨v, rfl⟩, hi, hl, hk⟩
    have he := run_endLoop (P := P) hl (by rw [hr']; simp)
    have hp : (rec .ready).pending = none := by rw [hr']
    rw [hp] at he
    exact ⟨none, _, he, hdone _ _ (Nat.le_refl _) (hI.turn _ hi (Nat.le_succ _) hl (hN rfl)) ((World.putObj_heap_other (by omega)).trans hk)⟩
end Go.Proofs.Ytpknlbibijheaab
