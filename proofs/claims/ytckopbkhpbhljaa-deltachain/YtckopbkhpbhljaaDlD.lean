import Derived.Test.YtckopbkhpbhljaaDlC
namespace Go.Proofs.Ytckopbkhpbhljaa
open Go.RowKit
set_option maxRecDepth 8000
set_option maxRecDepth 60000 in
set_option maxHeartbeats 4000000 in
theorem leastA_CC (w : World) (la : LT VT) (lb : LT VT) (S : Nat → Prop) (ha : LT.In elCell w S la) (hb : LT.In elCell w S lb) (hna : 0 < la.n) (hnb : lb.n = 0) :
    Calls Try.prog 58 #[.agg #[.slice la.p la.n la.c, .func (.func 60) #[] #[]], .agg #[.slice lb.p lb.n lb.c, .func (.func 60) #[] #[]]] w fun e w' => e = .returned (.string ((la.item 0).text)) ∧ Below w.heap.size w w' := by
  obtain ⟨W, hW⟩ : ∃ V, V = (w.alloc (.cells #[.slice la.p la.n la.c, .func (.func 60) #[] #[]] 70)).alloc (.cells #[.slice lb.p lb.n lb.c, .func (.func 60) #[] #[]] 70) := ⟨_, rfl⟩
  have hB : Below w.heap.size w W := by rw [hW]; exact ((Below.refl _ _).alloc (Nat.le_refl _) _).alloc (by simp) _
  have hxa : Box W w.heap.size #[.slice la.p la.n la.c, .func (.func 60) #[] #[]] 70 := by rw [hW]; exact (Box.new w _ _).below ((Below.refl _ _).alloc (Nat.le_refl _) _)
  have hxb : Box W (w.heap.size + 1) #[.slice lb.p lb.n lb.c, .func (.func 60) #[] #[]] 70 := by
    have h := Box.new (w.alloc (.cells #[.slice la.p la.n la.c, .func (.func 60) #[] #[]] 70)) #[.slice lb.p lb.n lb.c, .func (.func 60) #[] #[]] 70
    rw [← hW, show (w.alloc (.cells #[.slice la.p la.n la.c, .func (.func 60) #[] #[]] 70)).heap.size = w.heap.size + 1 by simp] at h
    exact h
  have HB := hid hB
  have HW := hid hW
  have HXa := hid hxa
  have HXb := hid hxb
  have HA := hid ha
  have HLb := hid hb
  have b0 := hxb.cell 0
  have b1 := hxb.cell 1
  have bl := hxb.lt
  simp at b0 b1
  clear hB hW hxa hxb ha hb
  have hq : ((lb.n : Int) == 0) = true := by simp [hnb]
  clear hnb
  go_enter Try.func58, Try.ntmps58
  go_upto_region 1 with fail
  rw [← HW.out]
  go_wp2_with (go_at_call 42; refine (count_C lb.p lb.n lb.c W).mono ?_)
  rintro e w1 ⟨rfl, hb1⟩
  have HB1 := hid hb1
  clear hb1 b0 b1

  have HBz : Hid (Below w.heap.size w w1) := HB.out.trans (HB1.out.mono HB.out.size)
  have ax := HXa.out.below HB1.out
  have a0 := ax.cell 0
  have a1 := ax.cell 1
  have al := ax.lt
  simp at a0 a1
  clear ax
  obtain ⟨sb, so, sp, _, slt, sat⟩ := HA.out.at_ hna
  rw [sp] at a0
  have d0 : w1.cell? ⟨sb, so, none⟩ = some (.string (la.item 0).text) := by
    have h := sat 0 hna 0 _ rfl
    rw [show so + 0 * elCell.size + 0 = so by omega] at h
    exact (World.cell?_of_block (a := ⟨sb, so, none⟩) (HBz.out.block sb slt)).trans h
  have d1 : w1.cell? ⟨sb, so + 1, none⟩ = some (.slice (la.item 0).p (la.item 0).n (la.item 0).c) := by
    have h := sat 0 hna 1 _ rfl
    rw [show so + 0 * elCell.size + 1 = so + 1 by omega] at h
    exact (World.cell?_of_block (a := ⟨sb, so + 1, none⟩) (HBz.out.block sb slt)).trans h
  have slt2 : sb < w1.heap.size := Nat.lt_of_lt_of_le slt HBz.out.size
  clear sat
  go_upto_region 2 with fail
  refine wp_region_calmE 30 (fun wx => Below w1.heap.size w1 wx) [(0, true), (1, false), (2, true), (3, false), (4, true), (5, false)] (.one 6 false [(7, true)] .done) (by kernel_rfl) (by kernel_rfl) (Below.refl _ _).drew ?_
  refine wpPre_e rfl rfl (fun K1 hK1 => ?_)
  apply Exists.intro
  refine And.intro (fun wx hx => ?_) ?_
  · go_simp
    try rfl
  go_simp
  refine hK1 _ ?_
  clear hK1 K1
  refine wpPre_e rfl rfl (fun K1 hK1 => ?_)
  apply Exists.intro
  refine And.intro (fun wx hx => ?_) ?_
  · have e0 := below_fact hx rfl a0
    have e1 := below_fact hx rfl a1
    have e2 := below_fact hx rfl d0
    have e3 := below_fact hx rfl d1
    go_simp
    try rfl
  go_simp
  refine hK1 _ ?_
  clear hK1 K1
  refine wpPre_e rfl rfl (fun K1 hK1 => ?_)
  apply Exists.intro
  refine And.intro (fun wx hx => ?_) ?_
  · go_simp
    try rfl
  go_simp
  refine hK1 _ ?_
  clear hK1 K1
  refine wpPre_e rfl rfl (fun K1 hK1 => ?_)
  apply Exists.intro
  refine And.intro (fun wx hx => ?_) ?_
  · have e0 := below_fact hx rfl a0
    have e1 := below_fact hx rfl a1
    have e2 := below_fact hx rfl d0
    have e3 := below_fact hx rfl d1
    go_simp
    try rfl
  go_simp
  refine hK1 _ ?_
  clear hK1 K1
  refine wpPre_e rfl rfl (fun K1 hK1 => ?_)
  apply Exists.intro
  refine And.intro (fun wx hx => ?_) ?_
  · go_simp
    try rfl
  go_simp
  refine hK1 _ ?_
  clear hK1 K1
  refine wpPre_e rfl rfl (fun K1 hK1 => ?_)
  apply Exists.intro
  refine And.intro (fun wx hx => ?_) ?_
  · have e0 := below_fact hx rfl a0
    have e1 := below_fact hx rfl a1
    have e2 := below_fact hx rfl d0
    have e3 := below_fact hx rfl d1
    go_simp
    try rfl
  go_simp
  refine hK1 _ ?_
  clear hK1 K1
  refine wpPre_nil ?_
  refine wpTr_e rfl (fun K1 hK1 => ?_)
  rw [if_pos (by go_simp)]
  refine step_callT 60 (.tmp 9) #[.tmp 13] _ rfl rfl Try.f60 Try.func60 (by kernel_rfl) rfl #[.agg #[.string (la.item 0).text, .slice (la.item 0).p (la.item 0).n (la.item 0).c]] rfl _ (key_C (la.item 0) _) (fun e w4 h4 => ?_)
  obtain ⟨rfl, h4⟩ := h4
  have HBq : Hid (Below w.heap.size w w4) := HBz.out.trans ((((Below.refl _ w1).drew).trans h4).mono HBz.out.size)
  clear h4
  refine ⟨_, rfl, ?_⟩
  go_simp
  refine hK1 _ _ (fun h => by cases h) ?_
  clear hK1 K1
  refine wpPre_e rfl rfl (fun K1 hK1 => ?_)
  apply Exists.intro
  refine And.intro (fun wx hx => ?_) ?_
  · go_simp
    try rfl
  go_simp
  refine hK1 _ ?_
  clear hK1 K1
  refine wpPre_nil ?_
  refine wpTr_done ?_
  go_wp2
  exact bodyPost_ret (v := .string ((la.item 0).text)) (by simp [results, Try.results58, go_sem]) rfl ⟨rfl, HBq.out⟩
set_option maxRecDepth 60000 in
set_option maxHeartbeats 4000000 in
theorem leastB_CC (w : World) (la : LT VT) (lb : LT VT) (S : Nat → Prop) (ha : LT.In elCell w S la) (hb : LT.In elCell w S lb) (hna : la.n = 0) (hnb : 0 < lb.n) :
    Calls Try.prog 58 #[.agg #[.slice la.p la.n la.c, .func (.func 60) #[] #[]], .agg #[.slice lb.p lb.n lb.c, .func (.func 60) #[] #[]]] w fun e w' => e = .returned (.string ((lb.item 0).text)) ∧ Below w.heap.size w w' := by
  obtain ⟨W, hW⟩ : ∃ V, V = (w.alloc (.cells #[.slice la.p la.n la.c, .func (.func 60) #[] #[]] 70)).alloc (.cells #[.slice lb.p lb.n lb.c, .func (.func 60) #[] #[]] 70) := ⟨_, rfl⟩
  have hB : Below w.heap.size w W := by rw [hW]; exact ((Below.refl _ _).alloc (Nat.le_refl _) _).alloc (by simp) _
  have hxa : Box W w.heap.size #[.slice la.p la.n la.c, .func (.func 60) #[] #[]] 70 := by rw [hW]; exact (Box.new w _ _).below ((Below.refl _ _).alloc (Nat.le_refl _) _)
  have hxb : Box W (w.heap.size + 1) #[.slice lb.p lb.n lb.c, .func (.func 60) #[] #[]] 70 := by
    have h := Box.new (w.alloc (.cells #[.slice la.p la.n la.c, .func (.func 60) #[] #[]] 70)) #[.slice lb.p lb.n lb.c, .func (.func 60) #[] #[]] 70
    rw [← hW, show (w.alloc (.cells #[.slice la.p la.n la.c, .func (.func 60) #[] #[]] 70)).heap.size = w.heap.size + 1 by simp] at h
    exact h
  have HB := hid hB
  have HW := hid hW
  have HXa := hid hxa
  have HXb := hid hxb
  have HA := hid ha
  have HLb := hid hb
  have b0 := hxb.cell 0
  have b1 := hxb.cell 1
  have bl := hxb.lt
  simp at b0 b1
  clear hB hW hxa hxb ha hb
  have hr : ((la.n : Int) == 0) = true := by simp [hna]
  clear hna
  go_enter Try.func58, Try.ntmps58
  go_upto_region 1 with fail
  rw [← HW.out]
  go_wp2_with (go_at_call 42; refine (count_C lb.p lb.n lb.c W).mono ?_)
  rintro e w1 ⟨rfl, hb1⟩
  have HB1 := hid hb1
  clear hb1 b0 b1
  have hq : ((lb.n : Int) == 0) = false := by simp; omega
  have ax := HXa.out.below HB1.out
  have a0 := ax.cell 0
  have a1 := ax.cell 1
  have al := ax.lt
  simp at a0 a1
  clear ax
  go_wp2_with (go_at_call 42; refine (count_C la.p la.n la.c w1).mono ?_)
  rintro e w2 ⟨rfl, hb2⟩
  have HB2 : Hid (Below W.heap.size W w2) := HB1.out.trans (hb2.mono HB1.out.size)
  have HBz : Hid (Below w.heap.size w w2) := HB.out.trans (HB2.out.mono HB.out.size)
  clear hb2 a0 a1

  have bx := HXb.out.below HB2.out
  have b0 := bx.cell 0
  have b1 := bx.cell 1
  have bl := bx.lt
  simp at b0 b1
  clear bx
  obtain ⟨sb, so, sp, _, slt, sat⟩ := HLb.out.at_ hnb
  rw [sp] at b0
  have d0 : w2.cell? ⟨sb, so, none⟩ = some (.string (lb.item 0).text) := by
    have h := sat 0 hnb 0 _ rfl
    rw [show so + 0 * elCell.size + 0 = so by omega] at h
    exact (World.cell?_of_block (a := ⟨sb, so, none⟩) (HBz.out.block sb slt)).trans h
  have d1 : w2.cell? ⟨sb, so + 1, none⟩ = some (.slice (lb.item 0).p (lb.item 0).n (lb.item 0).c) := by
    have h := sat 0 hnb 1 _ rfl
    rw [show so + 0 * elCell.size + 1 = so + 1 by omega] at h
    exact (World.cell?_of_block (a := ⟨sb, so + 1, none⟩) (HBz.out.block sb slt)).trans h
  have slt2 : sb < w2.heap.size := Nat.lt_of_lt_of_le slt HBz.out.size
  clear sat
  go_upto_region 4 with fail
  refine wp_region_calmE 30 (fun wx => Below w2.heap.size w2 wx) [(0, true), (1, false), (2, true), (3, false), (4, true), (5, false)] (.one 6 false [(7, true)] .done) (by kernel_rfl) (by kernel_rfl) (Below.refl _ _).drew ?_
  refine wpPre_e rfl rfl (fun K1 hK1 => ?_)
  apply Exists.intro
  refine And.intro (fun wx hx => ?_) ?_
  · go_simp
    try rfl
  go_simp
  refine hK1 _ ?_
  clear hK1 K1
  refine wpPre_e rfl rfl (fun K1 hK1 => ?_)
  apply Exists.intro
  refine And.intro (fun wx hx => ?_) ?_
  · have e0 := below_fact hx rfl b0
    have e1 := below_fact hx rfl b1
    have e2 := below_fact hx rfl d0
    have e3 := below_fact hx rfl d1
    go_simp
    try rfl
  go_simp
  refine hK1 _ ?_
  clear hK1 K1
  refine wpPre_e rfl rfl (fun K1 hK1 => ?_)
  apply Exists.intro
  refine And.intro (fun wx hx => ?_) ?_
  · go_simp
    try rfl
  go_simp
  refine hK1 _ ?_
  clear hK1 K1
  refine wpPre_e rfl rfl (fun K1 hK1 => ?_)
  apply Exists.intro
  refine And.intro (fun wx hx => ?_) ?_
  · have e0 := below_fact hx rfl b0
    have e1 := below_fact hx rfl b1
    have e2 := below_fact hx rfl d0
    have e3 := below_fact hx rfl d1
    go_simp
    try rfl
  go_simp
  refine hK1 _ ?_
  clear hK1 K1
  refine wpPre_e rfl rfl (fun K1 hK1 => ?_)
  apply Exists.intro
  refine And.intro (fun wx hx => ?_) ?_
  · go_simp
    try rfl
  go_simp
  refine hK1 _ ?_
  clear hK1 K1
  refine wpPre_e rfl rfl (fun K1 hK1 => ?_)
  apply Exists.intro
  refine And.intro (fun wx hx => ?_) ?_
  · have e0 := below_fact hx rfl b0
    have e1 := below_fact hx rfl b1
    have e2 := below_fact hx rfl d0
    have e3 := below_fact hx rfl d1
    go_simp
    try rfl
  go_simp
  refine hK1 _ ?_
  clear hK1 K1
  refine wpPre_nil ?_
  refine wpTr_e rfl (fun K1 hK1 => ?_)
  rw [if_pos (by go_simp)]
  refine step_callT 60 (.tmp 19) #[.tmp 23] _ rfl rfl Try.f60 Try.func60 (by kernel_rfl) rfl #[.agg #[.string (lb.item 0).text, .slice (lb.item 0).p (lb.item 0).n (lb.item 0).c]] rfl _ (key_C (lb.item 0) _) (fun e w4 h4 => ?_)
  obtain ⟨rfl, h4⟩ := h4
  have HBq : Hid (Below w.heap.size w w4) := HBz.out.trans ((((Below.refl _ w2).drew).trans h4).mono HBz.out.size)
  clear h4
  refine ⟨_, rfl, ?_⟩
  go_simp
  refine hK1 _ _ (fun h => by cases h) ?_
  clear hK1 K1
  refine wpPre_e rfl rfl (fun K1 hK1 => ?_)
  apply Exists.intro
  refine And.intro (fun wx hx => ?_) ?_
  · go_simp
    try rfl
  go_simp
  refine hK1 _ ?_
  clear hK1 K1
  refine wpPre_nil ?_
  refine wpTr_done ?_
  go_wp2
  exact bodyPost_ret (v := .string ((lb.item 0).text)) (by simp [results, Try.results58, go_sem]) rfl ⟨rfl, HBq.out⟩
set_option maxRecDepth 60000 in
set_option maxHeartbeats 4000000 in
theorem leastAB_CC (w : World) (la : LT VT) (lb : LT VT) (S : Nat → Prop) (ha : LT.In elCell w S la) (hb : LT.In elCell w S lb) (hna : 0 < la.n) (hnb : 0 < lb.n) (res : ByteArray) (hres : res = (if Op.bytesLess (la.item 0).text.toList (lb.item 0).text.toList = true ∨ (la.item 0).text.toList = (lb.item 0).text.toList then (la.item 0).text else (lb.item 0).text)) :
    Calls Try.prog 58 #[.agg #[.slice la.p la.n la.c, .func (.func 60) #[] #[]], .agg #[.slice lb.p lb.n lb.c, .func (.func 60) #[] #[]]] w fun e w' => e = .returned (.string (res)) ∧ Below w.heap.size w w' := by
  obtain ⟨W, hW⟩ : ∃ V, V = (w.alloc (.cells #[.slice la.p la.n la.c, .func (.func 60) #[] #[]] 70)).alloc (.cells #[.slice lb.p lb.n lb.c, .func (.func 60) #[] #[]] 70) := ⟨_, rfl⟩
  have hB : Below w.heap.size w W := by rw [hW]; exact ((Below.refl _ _).alloc (Nat.le_refl _) _).alloc (by simp) _
  have hxa : Box W w.heap.size #[.slice la.p la.n la.c, .func (.func 60) #[] #[]] 70 := by rw [hW]; exact (Box.new w _ _).below ((Below.refl _ _).alloc (Nat.le_refl _) _)
  have hxb : Box W (w.heap.size + 1) #[.slice lb.p lb.n lb.c, .func (.func 60) #[] #[]] 70 := by
    have h := Box.new (w.alloc (.cells #[.slice la.p la.n la.c, .func (.func 60) #[] #[]] 70)) #[.slice lb.p lb.n lb.c, .func (.func 60) #[] #[]] 70
    rw [← hW, show (w.alloc (.cells #[.slice la.p la.n la.c, .func (.func 60) #[] #[]] 70)).heap.size = w.heap.size + 1 by simp] at h
    exact h
  have HB := hid hB
  have HW := hid hW
  have HXa := hid hxa
  have HXb := hid hxb
  have HA := hid ha
  have HLb := hid hb
  have b0 := hxb.cell 0
  have b1 := hxb.cell 1
  have bl := hxb.lt
  simp at b0 b1
  clear hB hW hxa hxb ha hb
  have HRes := hid hres
  clear hres
  go_enter Try.func58, Try.ntmps58
  go_upto_region 1 with fail
  rw [← HW.out]
  go_wp2_with (go_at_call 42; refine (count_C lb.p lb.n lb.c W).mono ?_)
  rintro e w1 ⟨rfl, hb1⟩
  have HB1 := hid hb1
  clear hb1 b0 b1
  have hq : ((lb.n : Int) == 0) = false := by simp; omega
  have ax := HXa.out.below HB1.out
  have a0 := ax.cell 0
  have a1 := ax.cell 1
  have al := ax.lt
  simp at a0 a1
  clear ax
  go_wp2_with (go_at_call 42; refine (count_C la.p la.n la.c w1).mono ?_)
  rintro e w2 ⟨rfl, hb2⟩
  have HB2 : Hid (Below W.heap.size W w2) := HB1.out.trans (hb2.mono HB1.out.size)
  have HBz : Hid (Below w.heap.size w w2) := HB.out.trans (HB2.out.mono HB.out.size)
  clear hb2 a0 a1
  have hr : ((la.n : Int) == 0) = false := by simp; omega
  have ax := HXa.out.below HB2.out
  have a0 := ax.cell 0
  have a1 := ax.cell 1
  have al := ax.lt
  simp at a0 a1
  clear ax
  have bx := HXb.out.below HB2.out
  have b0 := bx.cell 0
  have b1 := bx.cell 1
  have bl := bx.lt
  simp at b0 b1
  clear bx
  obtain ⟨sb, so, sp, _, slt, sat⟩ := HA.out.at_ hna
  rw [sp] at a0
  have d0 : w2.cell? ⟨sb, so, none⟩ = some (.string (la.item 0).text) := by
    have h := sat 0 hna 0 _ rfl
    rw [show so + 0 * elCell.size + 0 = so by omega] at h
    exact (World.cell?_of_block (a := ⟨sb, so, none⟩) (HBz.out.block sb slt)).trans h
  have d1 : w2.cell? ⟨sb, so + 1, none⟩ = some (.slice (la.item 0).p (la.item 0).n (la.item 0).c) := by
    have h := sat 0 hna 1 _ rfl
    rw [show so + 0 * elCell.size + 1 = so + 1 by omega] at h
    exact (World.cell?_of_block (a := ⟨sb, so + 1, none⟩) (HBz.out.block sb slt)).trans h
  have slt2 : sb < w2.heap.size := Nat.lt_of_lt_of_le slt HBz.out.size
  clear sat
  obtain ⟨vb, vo, vp, _, vlt, vat⟩ := HLb.out.at_ hnb
  rw [vp] at b0
  have f0 : w2.cell? ⟨vb, vo, none⟩ = some (.string (lb.item 0).text) := by
    have h := vat 0 hnb 0 _ rfl
    rw [show vo + 0 * elCell.size + 0 = vo by omega] at h
    exact (World.cell?_of_block (a := ⟨vb, vo, none⟩) (HBz.out.block vb vlt)).trans h
  have f1 : w2.cell? ⟨vb, vo + 1, none⟩ = some (.slice (lb.item 0).p (lb.item 0).n (lb.item 0).c) := by
    have h := vat 0 hnb 1 _ rfl
    rw [show vo + 0 * elCell.size + 1 = vo + 1 by omega] at h
    exact (World.cell?_of_block (a := ⟨vb, vo + 1, none⟩) (HBz.out.block vb vlt)).trans h
  have vlt2 : vb < w2.heap.size := Nat.lt_of_lt_of_le vlt HBz.out.size
  clear vat
  go_upto_region 5 with fail
  refine wp_region_calmE 30 (fun wx => Below w2.heap.size w2 wx) [(0, true), (1, false), (2, true), (3, false), (4, true), (5, false), (7, true), (8, false), (9, true), (10, false), (11, true), (12, false)] (.one 6 true [] (.one 13 false [(14, true), (15, true)] .done)) (by kernel_rfl) (by kernel_rfl) (Below.refl _ _).drew ?_
  refine wpPre_e rfl rfl (fun K1 hK1 => ?_)
  apply Exists.intro
  refine And.intro (fun wx hx => ?_) ?_
  · go_simp
    try rfl
  go_simp
  refine hK1 _ ?_
  clear hK1 K1
  refine wpPre_e rfl rfl (fun K1 hK1 => ?_)
  apply Exists.intro
  refine And.intro (fun wx hx => ?_) ?_
  · have e0 := below_fact hx rfl a0
    have e1 := below_fact hx rfl a1
    have e2 := below_fact hx rfl b0
    have e3 := below_fact hx rfl b1
    have e4 := below_fact hx rfl d0
    have e5 := below_fact hx rfl d1
    have e6 := below_fact hx rfl f0
    have e7 := below_fact hx rfl f1
    go_simp
    try rfl
  go_simp
  refine hK1 _ ?_
  clear hK1 K1
  refine wpPre_e rfl rfl (fun K1 hK1 => ?_)
  apply Exists.intro
  refine And.intro (fun wx hx => ?_) ?_
  · go_simp
    try rfl
  go_simp
  refine hK1 _ ?_
  clear hK1 K1
  refine wpPre_e rfl rfl (fun K1 hK1 => ?_)
  apply Exists.intro
  refine And.intro (fun wx hx => ?_) ?_
  · have e0 := below_fact hx rfl a0
    have e1 := below_fact hx rfl a1
    have e2 := below_fact hx rfl b0
    have e3 := below_fact hx rfl b1
    have e4 := below_fact hx rfl d0
    have e5 := below_fact hx rfl d1
    have e6 := below_fact hx rfl f0
    have e7 := below_fact hx rfl f1
    go_simp
    try rfl
  go_simp
  refine hK1 _ ?_
  clear hK1 K1
  refine wpPre_e rfl rfl (fun K1 hK1 => ?_)
  apply Exists.intro
  refine And.intro (fun wx hx => ?_) ?_
  · go_simp
    try rfl
  go_simp
  refine hK1 _ ?_
  clear hK1 K1
  refine wpPre_e rfl rfl (fun K1 hK1 => ?_)
  apply Exists.intro
  refine And.intro (fun wx hx => ?_) ?_
  · have e0 := below_fact hx rfl a0
    have e1 := below_fact hx rfl a1
    have e2 := below_fact hx rfl b0
    have e3 := below_fact hx rfl b1
    have e4 := below_fact hx rfl d0
    have e5 := below_fact hx rfl d1
    have e6 := below_fact hx rfl f0
    have e7 := below_fact hx rfl f1
    go_simp
    try rfl
  go_simp
  refine hK1 _ ?_
  clear hK1 K1
  refine wpPre_e rfl rfl (fun K1 hK1 => ?_)
  apply Exists.intro
  refine And.intro (fun wx hx => ?_) ?_
  · go_simp
    try rfl
  go_simp
  refine hK1 _ ?_
  clear hK1 K1
  refine wpPre_e rfl rfl (fun K1 hK1 => ?_)
  apply Exists.intro
  refine And.intro (fun wx hx => ?_) ?_
  · have e0 := below_fact hx rfl a0
    have e1 := below_fact hx rfl a1
    have e2 := below_fact hx rfl b0
    have e3 := below_fact hx rfl b1
    have e4 := below_fact hx rfl d0
    have e5 := below_fact hx rfl d1
    have e6 := below_fact hx rfl f0
    have e7 := below_fact hx rfl f1
    go_simp
    try rfl
  go_simp
  refine hK1 _ ?_
  clear hK1 K1
  refine wpPre_e rfl rfl (fun K1 hK1 => ?_)
  apply Exists.intro
  refine And.intro (fun wx hx => ?_) ?_
  · go_simp
    try rfl
  go_simp
  refine hK1 _ ?_
  clear hK1 K1
  refine wpPre_e rfl rfl (fun K1 hK1 => ?_)
  apply Exists.intro
  refine And.intro (fun wx hx => ?_) ?_
  · have e0 := below_fact hx rfl a0
    have e1 := below_fact hx rfl a1
    have e2 := below_fact hx rfl b0
    have e3 := below_fact hx rfl b1
    have e4 := below_fact hx rfl d0
    have e5 := below_fact hx rfl d1
    have e6 := below_fact hx rfl f0
    have e7 := below_fact hx rfl f1
    go_simp
    try rfl
  go_simp
  refine hK1 _ ?_
  clear hK1 K1
  refine wpPre_e rfl rfl (fun K1 hK1 => ?_)
  apply Exists.intro
  refine And.intro (fun wx hx => ?_) ?_
  · go_simp
    try rfl
  go_simp
  refine hK1 _ ?_
  clear hK1 K1
  refine wpPre_e rfl rfl (fun K1 hK1 => ?_)
  apply Exists.intro
  refine And.intro (fun wx hx => ?_) ?_
  · have e0 := below_fact hx rfl a0
    have e1 := below_fact hx rfl a1
    have e2 := below_fact hx rfl b0
    have e3 := below_fact hx rfl b1
    have e4 := below_fact hx rfl d0
    have e5 := below_fact hx rfl d1
    have e6 := below_fact hx rfl f0
    have e7 := below_fact hx rfl f1
    go_simp
    try rfl
  go_simp
  refine hK1 _ ?_
  clear hK1 K1
  refine wpPre_nil ?_
  refine wpTr_e rfl (fun K1 hK1 => ?_)
  rw [if_pos (by go_simp)]
  refine step_callT 60 (.tmp 26) #[.tmp 30] _ rfl rfl Try.f60 Try.func60 (by kernel_rfl) rfl #[.agg #[.string (la.item 0).text, .slice (la.item 0).p (la.item 0).n (la.item 0).c]] rfl _ (key_C (la.item 0) _) (fun e w4 h4 => ?_)
  obtain ⟨rfl, h4⟩ := h4
  have hb4 : Below w2.heap.size w2 w4 := ((Below.refl _ w2).drew).trans h4
  have HB4 := hid hb4
  clear h4
  refine ⟨_, rfl, ?_⟩
  go_simp
  refine hK1 _ _ (fun _ => hb4) ?_
  clear hK1 K1 hb4
  refine wpPre_nil ?_
  refine wpTr_e rfl (fun K1 hK1 => ?_)
  rw [if_pos (by go_simp)]
  refine step_callT 60 (.tmp 33) #[.tmp 37] _ rfl rfl Try.f60 Try.func60 (by kernel_rfl) rfl #[.agg #[.string (lb.item 0).text, .slice (lb.item 0).p (lb.item 0).n (lb.item 0).c]] rfl _ (key_C (lb.item 0) _) (fun e w5 h5 => ?_)
  obtain ⟨rfl, h5⟩ := h5
  have HBq : Hid (Below w.heap.size w w5) := HBz.out.trans ((HB4.out.trans (h5.mono HB4.out.size)).mono HBz.out.size)
  clear h5
  refine ⟨_, rfl, ?_⟩
  go_simp
  refine hK1 _ _ (fun h => by cases h) ?_
  clear hK1 K1
  refine wpPre_e rfl rfl (fun K1 hK1 => ?_)
  apply Exists.intro
  refine And.intro (fun wx hx => ?_) ?_
  · go_simp
    try rfl
  go_simp
  refine hK1 _ ?_
  clear hK1 K1
  refine wpPre_e rfl rfl (fun K1 hK1 => ?_)
  apply Exists.intro
  refine And.intro (fun wx hx => ?_) ?_
  · go_simp
    try rfl
  go_simp
  refine hK1 _ ?_
  clear hK1 K1
  refine wpPre_nil ?_
  refine wpTr_done ?_
  obtain ⟨z, hz⟩ : ∃ z : ByteArray, z = (if Op.bytesLess (la.item 0).text.toList (lb.item 0).text.toList = true ∨ (la.item 0).text.toList = (lb.item 0).text.toList then (la.item 0).text else (lb.item 0).text) := ⟨_, rfl⟩
  rw [← hz]
  have HZz := hid hz
  clear hz
  go_wp2
  exact bodyPost_ret (v := .string z) (by simp [results, Try.results58, go_sem]) rfl ⟨by rw [HRes.out, ← HZz.out], HBq.out⟩
end Go.Proofs.Ytckopbkhpbhljaa
