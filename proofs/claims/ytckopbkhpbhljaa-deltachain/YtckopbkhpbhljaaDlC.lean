import Derived.Test.YtckopbkhpbhljaaPack8
namespace Go.Proofs.Ytckopbkhpbhljaa
open Go.RowKit
set_option maxRecDepth 8000
set_option maxRecDepth 60000 in
set_option maxHeartbeats 4000000 in
theorem cutNone_C (w : World) (b : Nat) (l : LT VT) (S : Nat → Prop) (key : ByteArray) (hbx : Box w b #[.slice l.p l.n l.c, .func (.func 60) #[] #[]] 70) (hin : LT.In elCell w S l) (hn : l.n = 0) :
    Calls Try.prog 59 #[.pointer (some ⟨b, 0, none⟩), .string key] w fun e w' => e = .returned (.tuple #[.agg #[.string ⟨#[]⟩, .slice none 0 0], .bool false]) ∧ Below w.heap.size w w' := by
  have HX := hid hbx
  have HI := hid hin
  clear hbx hin
  obtain ⟨W, hW⟩ : ∃ V, V = w.alloc (.cells #[.string ⟨#[]⟩, .slice none 0 0] 62) := ⟨_, rfl⟩
  have hB : Below w.heap.size w W := by rw [hW]; exact (Below.refl _ _).alloc (Nat.le_refl _) _
  have hzb : Box W w.heap.size #[.string ⟨#[]⟩, .slice none 0 0] 62 := by rw [hW]; exact Box.new _ _ _
  have HB := hid hB
  have HZ := hid hzb
  have hbw : Box W b #[.slice l.p l.n l.c, .func (.func 60) #[] #[]] 70 := HX.out.below hB
  have HXW := hid hbw
  have HW := hid hW
  clear hB hzb hbw hW
  have c0 := HXW.out.cell 0
  have c1 := HXW.out.cell 1
  have bl := HXW.out.lt
  simp at c0 c1
  have hn' : ((l.n : Int) == 0) = true := by simp [hn]
  go_enter Try.func59, Try.ntmps59
  go_upto_region 1 with fail
  rw [← HW.out]
  refine wp_region_calmE 30 (fun wx => Below W.heap.size W wx) [(0, true), (1, true), (2, true), (3, false), (4, true), (5, true), (6, true), (7, true), (8, true), (9, true), (10, false), (11, true), (12, true), (13, true), (14, false), (15, true), (16, false), (18, true)] (.one 17 false [(19, true), (20, true)] .done) (by kernel_rfl) (by kernel_rfl) (Below.refl _ _).drew ?_
  refine wpPre_e rfl rfl (fun K1 hK1 => ?_)
  apply Exists.intro
  refine And.intro (fun wx hx => ?_) ?_
  · go_simp
    try rfl
  go_simp
  refine hK1 _ ?_
  clear hK1 K1
  refine wpPre_e rfl rfl (fun K1 hK1 => ?_)
  apply Exists.intro
  refine And.intro (fun wx hx => ?_) ?_
  · go_simp
    try rfl
  go_simp
  refine hK1 _ ?_
  clear hK1 K1
  refine wpPre_e rfl rfl (fun K1 hK1 => ?_)
  apply Exists.intro
  refine And.intro (fun wx hx => ?_) ?_
  · go_simp
    try rfl
  go_simp
  refine hK1 _ ?_
  clear hK1 K1
  refine wpPre_e rfl rfl (fun K1 hK1 => ?_)
  apply Exists.intro
  refine And.intro (fun wx hx => ?_) ?_
  · have e0 := below_fact hx rfl c0
    have e1 := below_fact hx rfl c1
    go_simp
    try rfl
  go_simp
  refine hK1 _ ?_
  clear hK1 K1
  refine wpPre_e rfl rfl (fun K1 hK1 => ?_)
  apply Exists.intro
  refine And.intro (fun wx hx => ?_) ?_
  · go_simp
    try rfl
  go_simp
  refine hK1 _ ?_
  clear hK1 K1
  refine wpPre_e rfl rfl (fun K1 hK1 => ?_)
  apply Exists.intro
  refine And.intro (fun wx hx => ?_) ?_
  · go_simp
    try rfl
  go_simp
  refine hK1 _ ?_
  clear hK1 K1
  refine wpPre_e rfl rfl (fun K1 hK1 => ?_)
  apply Exists.intro
  refine And.intro (fun wx hx => ?_) ?_
  · go_simp
    try rfl
  go_simp
  refine hK1 _ ?_
  clear hK1 K1
  refine wpPre_i rfl (fun K1 hK1 => ?_)
  rw [if_neg (by go_simp; all_goals (intro h; cases h))]
  go_simp
  refine hK1 _ ?_
  clear hK1 K1
  refine wpPre_i rfl (fun K1 hK1 => ?_)
  rw [if_neg (by go_simp; all_goals (intro h; cases h))]
  go_simp
  refine hK1 _ ?_
  clear hK1 K1
  refine wpPre_i rfl (fun K1 hK1 => ?_)
  rw [if_neg (by go_simp; all_goals (intro h; cases h))]
  go_simp
  refine hK1 _ ?_
  clear hK1 K1
  refine wpPre_i rfl (fun K1 hK1 => ?_)
  rw [if_neg (by go_simp; all_goals (intro h; cases h))]
  go_simp
  refine hK1 _ ?_
  clear hK1 K1
  refine wpPre_i rfl (fun K1 hK1 => ?_)
  rw [if_neg (by go_simp; all_goals (intro h; cases h))]
  go_simp
  refine hK1 _ ?_
  clear hK1 K1
  refine wpPre_i rfl (fun K1 hK1 => ?_)
  rw [if_neg (by go_simp; all_goals (intro h; cases h))]
  go_simp
  refine hK1 _ ?_
  clear hK1 K1
  refine wpPre_i rfl (fun K1 hK1 => ?_)
  rw [if_neg (by go_simp; all_goals (intro h; cases h))]
  go_simp
  refine hK1 _ ?_
  clear hK1 K1
  refine wpPre_i rfl (fun K1 hK1 => ?_)
  rw [if_neg (by go_simp; all_goals (intro h; cases h))]
  go_simp
  refine hK1 _ ?_
  clear hK1 K1
  refine wpPre_i rfl (fun K1 hK1 => ?_)
  rw [if_neg (by go_simp; all_goals (intro h; cases h))]
  go_simp
  refine hK1 _ ?_
  clear hK1 K1
  refine wpPre_i rfl (fun K1 hK1 => ?_)
  rw [if_neg (by go_simp; all_goals (intro h; cases h))]
  go_simp
  refine hK1 _ ?_
  clear hK1 K1
  refine wpPre_i rfl (fun K1 hK1 => ?_)
  rw [if_neg (by go_simp; all_goals (intro h; cases h))]
  go_simp
  refine hK1 _ ?_
  clear hK1 K1
  refine wpPre_nil ?_
  refine wpTr_e rfl (fun K1 hK1 => ?_)
  rw [if_neg (by go_simp; all_goals (intro h; cases h))]
  go_simp
  refine hK1 _ _ (fun h => by cases h) ?_
  clear hK1 K1
  refine wpPre_i rfl (fun K1 hK1 => ?_)
  rw [if_neg (by go_simp; all_goals (intro h; cases h))]
  go_simp
  refine hK1 _ ?_
  clear hK1 K1
  refine wpPre_e rfl rfl (fun K1 hK1 => ?_)
  apply Exists.intro
  refine And.intro (fun wx hx => ?_) ?_
  · go_simp
    try rfl
  go_simp
  refine hK1 _ ?_
  clear hK1 K1
  refine wpPre_nil ?_
  refine wpTr_done ?_
  have z0 := HZ.out.cell 0
  have g0 := HZ.out.frozen 0
  have z1 := HZ.out.cell 1
  have g1 := HZ.out.frozen 1
  have zl := HZ.out.lt
  simp at z0 z1
  go_wp2
  have hE : Box (((W.setCell ⟨w.heap.size, 0, none⟩ (.string ⟨#[]⟩)).setCell ⟨w.heap.size, 1, none⟩ (.slice none 0 0)).alloc (.cells #[.string ⟨#[]⟩, .slice none 0 0] 62)) w.heap.size #[.string ⟨#[]⟩, .slice none 0 0] 62 := ((HZ.out.set 0 _).set 1 _).below ((Below.refl _ _).alloc (Nat.le_refl _) _)
  have e0 := hE.cell 0
  have e1 := hE.cell 1
  simp only [List.getElem?_toArray, List.getElem?_cons_zero, List.getElem?_cons_succ] at e0 e1
  refine bodyPost_ret (v := .tuple #[.agg #[.string ⟨#[]⟩, .slice none 0 0], .bool false]) (by simp [results, Try.results59, go_sem, e0, e1]) rfl ⟨rfl, ?_⟩
  have hQ := (((HB.out).setCell (p := ⟨w.heap.size, 0, none⟩) (Nat.le_refl _) (.string ⟨#[]⟩)).setCell (p := ⟨w.heap.size, 1, none⟩) (Nat.le_refl _) (.slice none 0 0))
  exact ((hQ).alloc hQ.size _).drew
set_option maxRecDepth 60000 in
set_option maxHeartbeats 4000000 in
theorem cutOther_C (w : World) (b : Nat) (l : LT VT) (S : Nat → Prop) (key : ByteArray) (hbx : Box w b #[.slice l.p l.n l.c, .func (.func 60) #[] #[]] 70) (hin : LT.In elCell w S l) (hn : 0 < l.n) (hk : ((l.item 0).text.toList == key.toList) = false) :
    Calls Try.prog 59 #[.pointer (some ⟨b, 0, none⟩), .string key] w fun e w' => e = .returned (.tuple #[.agg #[.string ⟨#[]⟩, .slice none 0 0], .bool false]) ∧ Below w.heap.size w w' := by
  have HX := hid hbx
  have HI := hid hin
  clear hbx hin
  obtain ⟨W, hW⟩ : ∃ V, V = w.alloc (.cells #[.string ⟨#[]⟩, .slice none 0 0] 62) := ⟨_, rfl⟩
  have hB : Below w.heap.size w W := by rw [hW]; exact (Below.refl _ _).alloc (Nat.le_refl _) _
  have hzb : Box W w.heap.size #[.string ⟨#[]⟩, .slice none 0 0] 62 := by rw [hW]; exact Box.new _ _ _
  have HB := hid hB
  have HZ := hid hzb
  have hbw : Box W b #[.slice l.p l.n l.c, .func (.func 60) #[] #[]] 70 := HX.out.below hB
  have HXW := hid hbw
  have HW := hid hW
  clear hB hzb hbw hW
  have c0 := HXW.out.cell 0
  have c1 := HXW.out.cell 1
  have bl := HXW.out.lt
  simp at c0 c1
  obtain ⟨bb, o, hp, hSb, hbl, hat⟩ := HI.out.at_ hn
  rw [hp] at c0
  have d0 : W.cell? ⟨bb, o, none⟩ = some (.string (l.item 0).text) := by
    have h := hat 0 hn 0 _ rfl
    rw [show o + 0 * elCell.size + 0 = o by omega] at h
    exact (World.cell?_of_block (a := ⟨bb, o, none⟩) (HB.out.block bb hbl)).trans h
  have d1 : W.cell? ⟨bb, o + 1, none⟩ = some (.slice (l.item 0).p (l.item 0).n (l.item 0).c) := by
    have h := hat 0 hn 1 _ rfl
    rw [show o + 0 * elCell.size + 1 = o + 1 by omega] at h
    exact (World.cell?_of_block (a := ⟨bb, o + 1, none⟩) (HB.out.block bb hbl)).trans h
  have hbl2 : bb < W.heap.size := Nat.lt_of_lt_of_le hbl HB.out.size
  clear hat
  have hn' : ((l.n : Int) == 0) = false := by simp; omega
  go_enter Try.func59, Try.ntmps59
  go_upto_region 1 with fail
  rw [← HW.out]
  refine wp_region_calmE 30 (fun wx => Below W.heap.size W wx) [(0, true), (1, true), (2, true), (3, false), (4, true), (5, true), (6, true), (7, true), (8, true), (9, true), (10, false), (11, true), (12, true), (13, true), (14, false), (15, true), (16, false), (18, true)] (.one 17 false [(19, true), (20, true)] .done) (by kernel_rfl) (by kernel_rfl) (Below.refl _ _).drew ?_
  refine wpPre_e rfl rfl (fun K1 hK1 => ?_)
  apply Exists.intro
  refine And.intro (fun wx hx => ?_) ?_
  · go_simp
    try rfl
  go_simp
  refine hK1 _ ?_
  clear hK1 K1
  refine wpPre_e rfl rfl (fun K1 hK1 => ?_)
  apply Exists.intro
  refine And.intro (fun wx hx => ?_) ?_
  · go_simp
    try rfl
  go_simp
  refine hK1 _ ?_
  clear hK1 K1
  refine wpPre_e rfl rfl (fun K1 hK1 => ?_)
  apply Exists.intro
  refine And.intro (fun wx hx => ?_) ?_
  · go_simp
    try rfl
  go_simp
  refine hK1 _ ?_
  clear hK1 K1
  refine wpPre_e rfl rfl (fun K1 hK1 => ?_)
  apply Exists.intro
  refine And.intro (fun wx hx => ?_) ?_
  · have e0 := below_fact hx rfl c0
    have e1 := below_fact hx rfl c1
    have e2 := below_fact hx rfl d0
    have e3 := below_fact hx rfl d1
    go_simp
    try rfl
  go_simp
  refine hK1 _ ?_
  clear hK1 K1
  refine wpPre_e rfl rfl (fun K1 hK1 => ?_)
  apply Exists.intro
  refine And.intro (fun wx hx => ?_) ?_
  · go_simp
    try rfl
  go_simp
  refine hK1 _ ?_
  clear hK1 K1
  refine wpPre_e rfl rfl (fun K1 hK1 => ?_)
  apply Exists.intro
  refine And.intro (fun wx hx => ?_) ?_
  · go_simp
    try rfl
  go_simp
  refine hK1 _ ?_
  clear hK1 K1
  refine wpPre_e rfl rfl (fun K1 hK1 => ?_)
  apply Exists.intro
  refine And.intro (fun wx hx => ?_) ?_
  · go_simp
    try rfl
  go_simp
  refine hK1 _ ?_
  clear hK1 K1
  refine wpPre_i rfl (fun K1 hK1 => ?_)
  rw [if_pos (by go_simp)]
  apply Exists.intro
  refine And.intro (fun wx hx => ?_) ?_
  · go_simp
    try rfl
  go_simp
  refine hK1 _ ?_
  clear hK1 K1
  refine wpPre_i rfl (fun K1 hK1 => ?_)
  rw [if_pos (by go_simp)]
  apply Exists.intro
  refine And.intro (fun wx hx => ?_) ?_
  · go_simp
    try rfl
  go_simp
  refine hK1 _ ?_
  clear hK1 K1
  refine wpPre_i rfl (fun K1 hK1 => ?_)
  rw [if_pos (by go_simp)]
  apply Exists.intro
  refine And.intro (fun wx hx => ?_) ?_
  · go_simp
    try rfl
  go_simp
  refine hK1 _ ?_
  clear hK1 K1
  refine wpPre_i rfl (fun K1 hK1 => ?_)
  rw [if_pos (by go_simp)]
  apply Exists.intro
  refine And.intro (fun wx hx => ?_) ?_
  · have e0 := below_fact hx rfl c0
    have e1 := below_fact hx rfl c1
    have e2 := below_fact hx rfl d0
    have e3 := below_fact hx rfl d1
    go_simp
    try rfl
  go_simp
  refine hK1 _ ?_
  clear hK1 K1
  refine wpPre_i rfl (fun K1 hK1 => ?_)
  rw [if_pos (by go_simp)]
  apply Exists.intro
  refine And.intro (fun wx hx => ?_) ?_
  · go_simp
    try rfl
  go_simp
  refine hK1 _ ?_
  clear hK1 K1
  refine wpPre_i rfl (fun K1 hK1 => ?_)
  rw [if_pos (by go_simp)]
  apply Exists.intro
  refine And.intro (fun wx hx => ?_) ?_
  · go_simp
    try rfl
  go_simp
  refine hK1 _ ?_
  clear hK1 K1
  refine wpPre_i rfl (fun K1 hK1 => ?_)
  rw [if_pos (by go_simp)]
  apply Exists.intro
  refine And.intro (fun wx hx => ?_) ?_
  · go_simp
    try rfl
  go_simp
  refine hK1 _ ?_
  clear hK1 K1
  refine wpPre_i rfl (fun K1 hK1 => ?_)
  rw [if_pos (by go_simp)]
  apply Exists.intro
  refine And.intro (fun wx hx => ?_) ?_
  · have e0 := below_fact hx rfl c0
    have e1 := below_fact hx rfl c1
    have e2 := below_fact hx rfl d0
    have e3 := below_fact hx rfl d1
    go_simp
    try rfl
  go_simp
  refine hK1 _ ?_
  clear hK1 K1
  refine wpPre_i rfl (fun K1 hK1 => ?_)
  rw [if_pos (by go_simp)]
  apply Exists.intro
  refine And.intro (fun wx hx => ?_) ?_
  · go_simp
    try rfl
  go_simp
  refine hK1 _ ?_
  clear hK1 K1
  refine wpPre_i rfl (fun K1 hK1 => ?_)
  rw [if_pos (by go_simp)]
  apply Exists.intro
  refine And.intro (fun wx hx => ?_) ?_
  · have e0 := below_fact hx rfl c0
    have e1 := below_fact hx rfl c1
    have e2 := below_fact hx rfl d0
    have e3 := below_fact hx rfl d1
    go_simp
    try rfl
  go_simp
  refine hK1 _ ?_
  clear hK1 K1
  refine wpPre_i rfl (fun K1 hK1 => ?_)
  rw [if_pos (by go_simp)]
  apply Exists.intro
  refine And.intro (fun wx hx => ?_) ?_
  · go_simp
    try rfl
  go_simp
  refine hK1 _ ?_
  clear hK1 K1
  refine wpPre_nil ?_
  refine wpTr_e rfl (fun K1 hK1 => ?_)
  rw [if_pos (by go_simp)]
  refine step_callT 60 (.tmp 18) #[.tmp 24] _ rfl rfl Try.f60 Try.func60 (by kernel_rfl) rfl #[.agg #[.string (l.item 0).text, .slice (l.item 0).p (l.item 0).n (l.item 0).c]] rfl _ (key_C (l.item 0) _) (fun e w4 h4 => ?_)
  obtain ⟨rfl, h4⟩ := h4
  have HB4 : Hid (Below W.heap.size W w4) := ((Below.refl _ W).drew).trans h4
  clear h4
  refine ⟨_, rfl, ?_⟩
  go_simp
  refine hK1 _ _ (fun h => by cases h) ?_
  clear hK1 K1
  refine wpPre_i rfl (fun K1 hK1 => ?_)
  rw [if_pos (by go_simp)]
  apply Exists.intro
  refine And.intro (fun wx hx => ?_) ?_
  · go_simp
    try rfl
  go_simp
  refine hK1 _ ?_
  clear hK1 K1
  refine wpPre_e rfl rfl (fun K1 hK1 => ?_)
  apply Exists.intro
  refine And.intro (fun wx hx => ?_) ?_
  · go_simp
    try rfl
  go_simp
  refine hK1 _ ?_
  clear hK1 K1
  refine wpPre_nil ?_
  refine wpTr_done ?_
  clear c0 c1 d0 d1
  have HBw : Hid (Below w.heap.size w w4) := HB.out.trans (HB4.out.mono HB.out.size)
  have HZ4 := hid (HZ.out.below HB4.out)
  have z0 := HZ4.out.cell 0
  have g0 := HZ4.out.frozen 0
  have z1 := HZ4.out.cell 1
  have g1 := HZ4.out.frozen 1
  have zl := HZ4.out.lt
  simp at z0 z1
  go_wp2
  have hE : Box (((w4.setCell ⟨w.heap.size, 0, none⟩ (.string ⟨#[]⟩)).setCell ⟨w.heap.size, 1, none⟩ (.slice none 0 0)).alloc (.cells #[.string ⟨#[]⟩, .slice none 0 0] 62)) w.heap.size #[.string ⟨#[]⟩, .slice none 0 0] 62 := ((HZ4.out.set 0 _).set 1 _).below ((Below.refl _ _).alloc (Nat.le_refl _) _)
  have e0 := hE.cell 0
  have e1 := hE.cell 1
  simp only [List.getElem?_toArray, List.getElem?_cons_zero, List.getElem?_cons_succ] at e0 e1
  refine bodyPost_ret (v := .tuple #[.agg #[.string ⟨#[]⟩, .slice none 0 0], .bool false]) (by simp [results, Try.results59, go_sem, e0, e1]) rfl ⟨rfl, ?_⟩
  have hQ := (((HBw.out).setCell (p := ⟨w.heap.size, 0, none⟩) (Nat.le_refl _) (.string ⟨#[]⟩)).setCell (p := ⟨w.heap.size, 1, none⟩) (Nat.le_refl _) (.slice none 0 0))
  exact ((hQ).alloc hQ.size _)
set_option maxRecDepth 60000 in
set_option maxHeartbeats 4000000 in
theorem cutSome_C (w : World) (b : Nat) (l : LT VT) (S : Nat → Prop) (key : ByteArray) (hbx : Box w b #[.slice l.p l.n l.c, .func (.func 60) #[] #[]] 70) (hin : LT.In elCell w S l) (hSb : ∀ k, S k → k ≠ b) (hn : 0 < l.n) (hk : ((l.item 0).text.toList == key.toList) = true) :
    Calls Try.prog 59 #[.pointer (some ⟨b, 0, none⟩), .string key] w fun e w' => ∃ p, e = .returned (.tuple #[.agg #[.string (l.item 0).text, .slice (l.item 0).p (l.item 0).n (l.item 0).c], .bool true]) ∧ Box w' b #[.slice p (l.n - 1) (l.c - 1), .func (.func 60) #[] #[]] 70 ∧ LT.In elCell w' S (l.tail p) ∧ But (fun k => k = b) w w' := by
  have HX := hid hbx
  have HI := hid hin
  have hnn := hin.nn
  have hnc := hin.nc
  have hcc := hin.cc
  have HSb := hid hSb
  clear hbx hin hSb
  obtain ⟨W, hW⟩ : ∃ V, V = w.alloc (.cells #[.string ⟨#[]⟩, .slice none 0 0] 62) := ⟨_, rfl⟩
  have hB : Below w.heap.size w W := by rw [hW]; exact (Below.refl _ _).alloc (Nat.le_refl _) _
  have hzb : Box W w.heap.size #[.string ⟨#[]⟩, .slice none 0 0] 62 := by rw [hW]; exact Box.new _ _ _
  have HB := hid hB
  have HZ := hid hzb
  have hbw : Box W b #[.slice l.p l.n l.c, .func (.func 60) #[] #[]] 70 := HX.out.below hB
  have HXW := hid hbw
  have HW := hid hW
  clear hB hzb hbw hW
  have c0 := HXW.out.cell 0
  have c1 := HXW.out.cell 1
  have bl := HXW.out.lt
  simp at c0 c1
  obtain ⟨bb, o, hp, hS1, hbl, hat⟩ := HI.out.at_ hn
  rw [hp] at c0
  have d0 : W.cell? ⟨bb, o, none⟩ = some (.string (l.item 0).text) := by
    have h := hat 0 hn 0 _ rfl
    rw [show o + 0 * elCell.size + 0 = o by omega] at h
    exact (World.cell?_of_block (a := ⟨bb, o, none⟩) (HB.out.block bb hbl)).trans h
  have d1 : W.cell? ⟨bb, o + 1, none⟩ = some (.slice (l.item 0).p (l.item 0).n (l.item 0).c) := by
    have h := hat 0 hn 1 _ rfl
    rw [show o + 0 * elCell.size + 1 = o + 1 by omega] at h
    exact (World.cell?_of_block (a := ⟨bb, o + 1, none⟩) (HB.out.block bb hbl)).trans h
  have hbl2 : bb < W.heap.size := Nat.lt_of_lt_of_le hbl HB.out.size
  clear hat
  have hn' : ((l.n : Int) == 0) = false := by simp; omega
  go_enter Try.func59, Try.ntmps59
  go_upto_region 1 with fail
  rw [← HW.out]
  refine wp_region_calmE 30 (fun wx => Below W.heap.size W wx) [(0, true), (1, true), (2, true), (3, false), (4, true), (5, true), (6, true), (7, true), (8, true), (9, true), (10, false), (11, true), (12, true), (13, true), (14, false), (15, true), (16, false), (18, true)] (.one 17 false [(19, true), (20, true)] .done) (by kernel_rfl) (by kernel_rfl) (Below.refl _ _).drew ?_
  refine wpPre_e rfl rfl (fun K1 hK1 => ?_)
  apply Exists.intro
  refine And.intro (fun wx hx => ?_) ?_
  · go_simp
    try rfl
  go_simp
  refine hK1 _ ?_
  clear hK1 K1
  refine wpPre_e rfl rfl (fun K1 hK1 => ?_)
  apply Exists.intro
  refine And.intro (fun wx hx => ?_) ?_
  · go_simp
    try rfl
  go_simp
  refine hK1 _ ?_
  clear hK1 K1
  refine wpPre_e rfl rfl (fun K1 hK1 => ?_)
  apply Exists.intro
  refine And.intro (fun wx hx => ?_) ?_
  · go_simp
    try rfl
  go_simp
  refine hK1 _ ?_
  clear hK1 K1
  refine wpPre_e rfl rfl (fun K1 hK1 => ?_)
  apply Exists.intro
  refine And.intro (fun wx hx => ?_) ?_
  · have e0 := below_fact hx rfl c0
    have e1 := below_fact hx rfl c1
    have e2 := below_fact hx rfl d0
    have e3 := below_fact hx rfl d1
    go_simp
    try rfl
  go_simp
  refine hK1 _ ?_
  clear hK1 K1
  refine wpPre_e rfl rfl (fun K1 hK1 => ?_)
  apply Exists.intro
  refine And.intro (fun wx hx => ?_) ?_
  · go_simp
    try rfl
  go_simp
  refine hK1 _ ?_
  clear hK1 K1
  refine wpPre_e rfl rfl (fun K1 hK1 => ?_)
  apply Exists.intro
  refine And.intro (fun wx hx => ?_) ?_
  · go_simp
    try rfl
  go_simp
  refine hK1 _ ?_
  clear hK1 K1
  refine wpPre_e rfl rfl (fun K1 hK1 => ?_)
  apply Exists.intro
  refine And.intro (fun wx hx => ?_) ?_
  · go_simp
    try rfl
  go_simp
  refine hK1 _ ?_
  clear hK1 K1
  refine wpPre_i rfl (fun K1 hK1 => ?_)
  rw [if_pos (by go_simp)]
  apply Exists.intro
  refine And.intro (fun wx hx => ?_) ?_
  · go_simp
    try rfl
  go_simp
  refine hK1 _ ?_
  clear hK1 K1
  refine wpPre_i rfl (fun K1 hK1 => ?_)
  rw [if_pos (by go_simp)]
  apply Exists.intro
  refine And.intro (fun wx hx => ?_) ?_
  · go_simp
    try rfl
  go_simp
  refine hK1 _ ?_
  clear hK1 K1
  refine wpPre_i rfl (fun K1 hK1 => ?_)
  rw [if_pos (by go_simp)]
  apply Exists.intro
  refine And.intro (fun wx hx => ?_) ?_
  · go_simp
    try rfl
  go_simp
  refine hK1 _ ?_
  clear hK1 K1
  refine wpPre_i rfl (fun K1 hK1 => ?_)
  rw [if_pos (by go_simp)]
  apply Exists.intro
  refine And.intro (fun wx hx => ?_) ?_
  · have e0 := below_fact hx rfl c0
    have e1 := below_fact hx rfl c1
    have e2 := below_fact hx rfl d0
    have e3 := below_fact hx rfl d1
    go_simp
    try rfl
  go_simp
  refine hK1 _ ?_
  clear hK1 K1
  refine wpPre_i rfl (fun K1 hK1 => ?_)
  rw [if_pos (by go_simp)]
  apply Exists.intro
  refine And.intro (fun wx hx => ?_) ?_
  · go_simp
    try rfl
  go_simp
  refine hK1 _ ?_
  clear hK1 K1
  refine wpPre_i rfl (fun K1 hK1 => ?_)
  rw [if_pos (by go_simp)]
  apply Exists.intro
  refine And.intro (fun wx hx => ?_) ?_
  · go_simp
    try rfl
  go_simp
  refine hK1 _ ?_
  clear hK1 K1
  refine wpPre_i rfl (fun K1 hK1 => ?_)
  rw [if_pos (by go_simp)]
  apply Exists.intro
  refine And.intro (fun wx hx => ?_) ?_
  · go_simp
    try rfl
  go_simp
  refine hK1 _ ?_
  clear hK1 K1
  refine wpPre_i rfl (fun K1 hK1 => ?_)
  rw [if_pos (by go_simp)]
  apply Exists.intro
  refine And.intro (fun wx hx => ?_) ?_
  · have e0 := below_fact hx rfl c0
    have e1 := below_fact hx rfl c1
    have e2 := below_fact hx rfl d0
    have e3 := below_fact hx rfl d1
    go_simp
    try rfl
  go_simp
  refine hK1 _ ?_
  clear hK1 K1
  refine wpPre_i rfl (fun K1 hK1 => ?_)
  rw [if_pos (by go_simp)]
  apply Exists.intro
  refine And.intro (fun wx hx => ?_) ?_
  · go_simp
    try rfl
  go_simp
  refine hK1 _ ?_
  clear hK1 K1
  refine wpPre_i rfl (fun K1 hK1 => ?_)
  rw [if_pos (by go_simp)]
  apply Exists.intro
  refine And.intro (fun wx hx => ?_) ?_
  · have e0 := below_fact hx rfl c0
    have e1 := below_fact hx rfl c1
    have e2 := below_fact hx rfl d0
    have e3 := below_fact hx rfl d1
    go_simp
    try rfl
  go_simp
  refine hK1 _ ?_
  clear hK1 K1
  refine wpPre_i rfl (fun K1 hK1 => ?_)
  rw [if_pos (by go_simp)]
  apply Exists.intro
  refine And.intro (fun wx hx => ?_) ?_
  · go_simp
    try rfl
  go_simp
  refine hK1 _ ?_
  clear hK1 K1
  refine wpPre_nil ?_
  refine wpTr_e rfl (fun K1 hK1 => ?_)
  rw [if_pos (by go_simp)]
  refine step_callT 60 (.tmp 18) #[.tmp 24] _ rfl rfl Try.f60 Try.func60 (by kernel_rfl) rfl #[.agg #[.string (l.item 0).text, .slice (l.item 0).p (l.item 0).n (l.item 0).c]] rfl _ (key_C (l.item 0) _) (fun e w4 h4 => ?_)
  obtain ⟨rfl, h4⟩ := h4
  have HB4 : Hid (Below W.heap.size W w4) := ((Below.refl _ W).drew).trans h4
  clear h4
  refine ⟨_, rfl, ?_⟩
  go_simp
  refine hK1 _ _ (fun h => by cases h) ?_
  clear hK1 K1
  refine wpPre_i rfl (fun K1 hK1 => ?_)
  rw [if_pos (by go_simp)]
  apply Exists.intro
  refine And.intro (fun wx hx => ?_) ?_
  · go_simp
    try rfl
  go_simp
  refine hK1 _ ?_
  clear hK1 K1
  refine wpPre_e rfl rfl (fun K1 hK1 => ?_)
  apply Exists.intro
  refine And.intro (fun wx hx => ?_) ?_
  · go_simp
    try rfl
  go_simp
  refine hK1 _ ?_
  clear hK1 K1
  refine wpPre_nil ?_
  refine wpTr_done ?_
  clear c0 c1 d0 d1
  have HBw : Hid (Below w.heap.size w w4) := HB.out.trans (HB4.out.mono HB.out.size)
  have HZ4 := hid (HZ.out.below HB4.out)
  have hX4 := HXW.out.below HB4.out
  have HX4 := hid hX4
  have c0 := hX4.cell 0
  have c1 := hX4.cell 1
  have k0 := hX4.frozen 0
  have bl4 := hX4.lt
  simp at c0 c1
  rw [hp] at c0
  have hin4 : LT.In elCell w4 S l := HI.out.below HBw.out
  obtain ⟨bb2, o2, hp2, _, hbl4, hat⟩ := hin4.at_ hn
  rw [hp] at hp2
  cases hp2
  have d0 : w4.cell? ⟨bb, o, none⟩ = some (.string (l.item 0).text) := by
    have h := hat 0 hn 0 _ rfl
    rw [show o + 0 * elCell.size + 0 = o by omega] at h
    exact h
  have d1 : w4.cell? ⟨bb, o + 1, none⟩ = some (.slice (l.item 0).p (l.item 0).n (l.item 0).c) := by
    have h := hat 0 hn 1 _ rfl
    rw [show o + 0 * elCell.size + 1 = o + 1 by omega] at h
    exact h
  have HI4 := hid hin4
  clear hat hin4 hX4
  go_upto_region 6 with fail
  obtain ⟨p1, hp1⟩ : ∃ p, p = (if l.c = 1 then some (⟨bb, o, none⟩ : Addr) else some ⟨bb, o + 2, none⟩) := ⟨_, rfl⟩
  rw [← hp1]
  have hE1 : Box ((w4.setCell ⟨b, 0, none⟩ (.slice p1 (l.n - 1) (l.c - 1))).alloc (.cells #[.string (l.item 0).text, .slice (l.item 0).p (l.item 0).n (l.item 0).c] 62)) b #[.slice p1 (l.n - 1) (l.c - 1), .func (.func 60) #[] #[]] 70 := by
    have h := HX4.out.set 0 (.slice p1 (l.n - 1) (l.c - 1))
    simp only [List.setIfInBounds_toArray, List.set_cons_zero] at h
    exact h.below ((Below.refl _ _).alloc (Nat.le_refl _) _)
  have hwb : w.heap.size ≠ b := fun e => by have := HX.out.lt; omega
  have hE2 : Box ((w4.setCell ⟨b, 0, none⟩ (.slice p1 (l.n - 1) (l.c - 1))).alloc (.cells #[.string (l.item 0).text, .slice (l.item 0).p (l.item 0).n (l.item 0).c] 62)) w.heap.size #[.string ⟨#[]⟩, .slice none 0 0] 62 := (HZ4.out.but ((But.one w4 b).setAt 0 _) hwb).below ((Below.refl _ _).alloc (Nat.le_refl _) _)
  have hE3 : Box ((w4.setCell ⟨b, 0, none⟩ (.slice p1 (l.n - 1) (l.c - 1))).alloc (.cells #[.string (l.item 0).text, .slice (l.item 0).p (l.item 0).n (l.item 0).c] 62)) w4.heap.size #[.string (l.item 0).text, .slice (l.item 0).p (l.item 0).n (l.item 0).c] 62 := by
    have h := Box.new (w4.setCell ⟨b, 0, none⟩ (.slice p1 (l.n - 1) (l.c - 1))) #[.string (l.item 0).text, .slice (l.item 0).p (l.item 0).n (l.item 0).c] 62
    rw [show (w4.setCell ⟨b, 0, none⟩ (.slice p1 (l.n - 1) (l.c - 1))).heap.size = w4.heap.size by simp [World.setCell]] at h
    exact h
  have hbt : But (fun k => k = b) w ((w4.setCell ⟨b, 0, none⟩ (.slice p1 (l.n - 1) (l.c - 1))).alloc (.cells #[.string (l.item 0).text, .slice (l.item 0).p (l.item 0).n (l.item 0).c] 62)) := ((But.ofBelow HBw.out).trans ((But.one w4 b).setAt 0 _)).alloc _
  obtain ⟨V, hV⟩ : ∃ V, V = (w4.setCell ⟨b, 0, none⟩ (.slice p1 (l.n - 1) (l.c - 1))).alloc (.cells #[.string (l.item 0).text, .slice (l.item 0).p (l.item 0).n (l.item 0).c] 62) := ⟨_, rfl⟩
  rw [← hV] at hE1 hE2 hE3 hbt
  rw [← hV]
  have HT : Hid (LT.In elCell w S (l.tail p1)) := HI.out.tail hn hp p1 (by
    rw [hp1]
    by_cases hc : l.c = 1
    · rw [if_pos hc]; exact .inl ⟨rfl, by omega⟩
    · rw [if_neg hc]; exact .inr rfl)
  have HE1 := hid hE1
  have HE2 := hid hE2
  have HBt := hid hbt
  have z0 := hE2.cell 0
  have g0 := hE2.frozen 0
  have y0 := hE3.cell 0
  have z1 := hE2.cell 1
  have g1 := hE2.frozen 1
  have y1 := hE3.cell 1
  have zl := hE2.lt
  have yl := hE3.lt
  simp at z0 y0 z1 y1
  clear hE1 hE2 hE3 hbt hV c0 c1 k0 hp1 d0 d1
  go_wp2
  have hF : Box ((V.setCell ⟨w.heap.size, 0, none⟩ (.string (l.item 0).text)).setCell ⟨w.heap.size, 1, none⟩ (.slice (l.item 0).p (l.item 0).n (l.item 0).c)) w.heap.size #[.string (l.item 0).text, .slice (l.item 0).p (l.item 0).n (l.item 0).c] 62 := (HE2.out.set 0 _).set 1 _
  have e0 := hF.cell 0
  have e1 := hF.cell 1
  simp only [List.getElem?_toArray, List.getElem?_cons_zero, List.getElem?_cons_succ] at e0 e1
  have hs2 : But (fun k => k = w.heap.size) V ((V.setCell ⟨w.heap.size, 0, none⟩ (.string (l.item 0).text)).setCell ⟨w.heap.size, 1, none⟩ (.slice (l.item 0).p (l.item 0).n (l.item 0).c)) := ((But.one V w.heap.size).setAt 0 _).setAt 1 _
  have hbF : But (fun k => k = b) w ((V.setCell ⟨w.heap.size, 0, none⟩ (.string (l.item 0).text)).setCell ⟨w.heap.size, 1, none⟩ (.slice (l.item 0).p (l.item 0).n (l.item 0).c)) :=
    ⟨hs2.os.trans HBt.out.os, hs2.tape.trans HBt.out.tape, hs2.output.trans HBt.out.output, Nat.le_trans HBt.out.size hs2.size, fun q hq hn => (hs2.block q (by have := HBt.out.size; omega) (by omega)).trans (HBt.out.block q hq hn)⟩
  refine bodyPost_ret (v := .tuple #[.agg #[.string (l.item 0).text, .slice (l.item 0).p (l.item 0).n (l.item 0).c], .bool true]) (by simp [results, Try.results59, go_sem, e0, e1]) rfl ⟨p1, rfl, HE1.out.but hs2 (fun e => hwb e.symm), ?_, hbF⟩
  exact HT.out.but hbF fun q hq _ => HSb.out q hq
set_option maxRecDepth 60000 in
set_option maxHeartbeats 4000000 in
theorem cutNone_S (w : World) (b : Nat) (l : LT ByteArray) (S : Nat → Prop) (key : ByteArray) (hbx : Box w b #[.slice l.p l.n l.c, .func (.func 70) #[] #[]] 78) (hin : LT.In elStr w S l) (hn : l.n = 0) :
    Calls Try.prog 86 #[.pointer (some ⟨b, 0, none⟩), .string key] w fun e w' => e = .returned (.tuple #[.string ⟨#[]⟩, .bool false]) ∧ Below w.heap.size w w' := by
  have HX := hid hbx
  have HI := hid hin
  clear hbx hin
  obtain ⟨W, hW⟩ : ∃ V, V = w := ⟨_, rfl⟩
  have hB : Below w.heap.size w W := by rw [hW]; exact Below.refl _ _
  have HB := hid hB
  have hbw : Box W b #[.slice l.p l.n l.c, .func (.func 70) #[] #[]] 78 := HX.out.below hB
  have HXW := hid hbw
  have HW := hid hW
  clear hB hbw hW
  have c0 := HXW.out.cell 0
  have c1 := HXW.out.cell 1
  have bl := HXW.out.lt
  simp at c0 c1
  have hn' : ((l.n : Int) == 0) = true := by simp [hn]
  go_enter Try.func86, Try.ntmps86
  go_upto_region 1 with fail
  rw [← HW.out]
  refine wp_region_calmE 30 (fun wx => Below W.heap.size W wx) [(0, true), (1, true), (2, true), (3, false), (4, true), (5, true), (6, true), (7, true), (8, true), (9, true), (10, false), (11, true), (12, true), (13, true), (14, false), (15, true), (16, false), (18, true)] (.one 17 false [(19, true), (20, true)] .done) (by kernel_rfl) (by kernel_rfl) (Below.refl _ _).drew ?_
  refine wpPre_e rfl rfl (fun K1 hK1 => ?_)
  apply Exists.intro
  refine And.intro (fun wx hx => ?_) ?_
  · go_simp
    try rfl
  go_simp
  refine hK1 _ ?_
  clear hK1 K1
  refine wpPre_e rfl rfl (fun K1 hK1 => ?_)
  apply Exists.intro
  refine And.intro (fun wx hx => ?_) ?_
  · go_simp
    try rfl
  go_simp
  refine hK1 _ ?_
  clear hK1 K1
  refine wpPre_e rfl rfl (fun K1 hK1 => ?_)
  apply Exists.intro
  refine And.intro (fun wx hx => ?_) ?_
  · go_simp
    try rfl
  go_simp
  refine hK1 _ ?_
  clear hK1 K1
  refine wpPre_e rfl rfl (fun K1 hK1 => ?_)
  apply Exists.intro
  refine And.intro (fun wx hx => ?_) ?_
  · have e0 := below_fact hx rfl c0
    have e1 := below_fact hx rfl c1
    go_simp
    try rfl
  go_simp
  refine hK1 _ ?_
  clear hK1 K1
  refine wpPre_e rfl rfl (fun K1 hK1 => ?_)
  apply Exists.intro
  refine And.intro (fun wx hx => ?_) ?_
  · go_simp
    try rfl
  go_simp
  refine hK1 _ ?_
  clear hK1 K1
  refine wpPre_e rfl rfl (fun K1 hK1 => ?_)
  apply Exists.intro
  refine And.intro (fun wx hx => ?_) ?_
  · go_simp
    try rfl
  go_simp
  refine hK1 _ ?_
  clear hK1 K1
  refine wpPre_e rfl rfl (fun K1 hK1 => ?_)
  apply Exists.intro
  refine And.intro (fun wx hx => ?_) ?_
  · go_simp
    try rfl
  go_simp
  refine hK1 _ ?_
  clear hK1 K1
  refine wpPre_i rfl (fun K1 hK1 => ?_)
  rw [if_neg (by go_simp; all_goals (intro h; cases h))]
  go_simp
  refine hK1 _ ?_
  clear hK1 K1
  refine wpPre_i rfl (fun K1 hK1 => ?_)
  rw [if_neg (by go_simp; all_goals (intro h; cases h))]
  go_simp
  refine hK1 _ ?_
  clear hK1 K1
  refine wpPre_i rfl (fun K1 hK1 => ?_)
  rw [if_neg (by go_simp; all_goals (intro h; cases h))]
  go_simp
  refine hK1 _ ?_
  clear hK1 K1
  refine wpPre_i rfl (fun K1 hK1 => ?_)
  rw [if_neg (by go_simp; all_goals (intro h; cases h))]
  go_simp
  refine hK1 _ ?_
  clear hK1 K1
  refine wpPre_i rfl (fun K1 hK1 => ?_)
  rw [if_neg (by go_simp; all_goals (intro h; cases h))]
  go_simp
  refine hK1 _ ?_
  clear hK1 K1
  refine wpPre_i rfl (fun K1 hK1 => ?_)
  rw [if_neg (by go_simp; all_goals (intro h; cases h))]
  go_simp
  refine hK1 _ ?_
  clear hK1 K1
  refine wpPre_i rfl (fun K1 hK1 => ?_)
  rw [if_neg (by go_simp; all_goals (intro h; cases h))]
  go_simp
  refine hK1 _ ?_
  clear hK1 K1
  refine wpPre_i rfl (fun K1 hK1 => ?_)
  rw [if_neg (by go_simp; all_goals (intro h; cases h))]
  go_simp
  refine hK1 _ ?_
  clear hK1 K1
  refine wpPre_i rfl (fun K1 hK1 => ?_)
  rw [if_neg (by go_simp; all_goals (intro h; cases h))]
  go_simp
  refine hK1 _ ?_
  clear hK1 K1
  refine wpPre_i rfl (fun K1 hK1 => ?_)
  rw [if_neg (by go_simp; all_goals (intro h; cases h))]
  go_simp
  refine hK1 _ ?_
  clear hK1 K1
  refine wpPre_i rfl (fun K1 hK1 => ?_)
  rw [if_neg (by go_simp; all_goals (intro h; cases h))]
  go_simp
  refine hK1 _ ?_
  clear hK1 K1
  refine wpPre_nil ?_
  refine wpTr_e rfl (fun K1 hK1 => ?_)
  rw [if_neg (by go_simp; all_goals (intro h; cases h))]
  go_simp
  refine hK1 _ _ (fun h => by cases h) ?_
  clear hK1 K1
  refine wpPre_i rfl (fun K1 hK1 => ?_)
  rw [if_neg (by go_simp; all_goals (intro h; cases h))]
  go_simp
  refine hK1 _ ?_
  clear hK1 K1
  refine wpPre_e rfl rfl (fun K1 hK1 => ?_)
  apply Exists.intro
  refine And.intro (fun wx hx => ?_) ?_
  · go_simp
    try rfl
  go_simp
  refine hK1 _ ?_
  clear hK1 K1
  refine wpPre_nil ?_
  refine wpTr_done ?_
  go_wp2
  exact bodyPost_ret (v := .tuple #[.string ⟨#[]⟩, .bool false]) (by simp [results, Try.results86, go_sem]) rfl ⟨rfl, HB.out.drew⟩
set_option maxRecDepth 60000 in
set_option maxHeartbeats 4000000 in
theorem cutOther_S (w : World) (b : Nat) (l : LT ByteArray) (S : Nat → Prop) (key : ByteArray) (hbx : Box w b #[.slice l.p l.n l.c, .func (.func 70) #[] #[]] 78) (hin : LT.In elStr w S l) (hn : 0 < l.n) (hk : ((l.item 0).toList == key.toList) = false) :
    Calls Try.prog 86 #[.pointer (some ⟨b, 0, none⟩), .string key] w fun e w' => e = .returned (.tuple #[.string ⟨#[]⟩, .bool false]) ∧ Below w.heap.size w w' := by
  have HX := hid hbx
  have HI := hid hin
  clear hbx hin
  obtain ⟨W, hW⟩ : ∃ V, V = w := ⟨_, rfl⟩
  have hB : Below w.heap.size w W := by rw [hW]; exact Below.refl _ _
  have HB := hid hB
  have hbw : Box W b #[.slice l.p l.n l.c, .func (.func 70) #[] #[]] 78 := HX.out.below hB
  have HXW := hid hbw
  have HW := hid hW
  clear hB hbw hW
  have c0 := HXW.out.cell 0
  have c1 := HXW.out.cell 1
  have bl := HXW.out.lt
  simp at c0 c1
  obtain ⟨bb, o, hp, hSb, hbl, hat⟩ := HI.out.at_ hn
  rw [hp] at c0
  have d0 : W.cell? ⟨bb, o, none⟩ = some (.string (l.item 0)) := by
    have h := hat 0 hn 0 _ rfl
    rw [show o + 0 * elStr.size + 0 = o by omega] at h
    exact (World.cell?_of_block (a := ⟨bb, o, none⟩) (HB.out.block bb hbl)).trans h
  have hbl2 : bb < W.heap.size := Nat.lt_of_lt_of_le hbl HB.out.size
  clear hat
  have hn' : ((l.n : Int) == 0) = false := by simp; omega
  go_enter Try.func86, Try.ntmps86
  go_upto_region 1 with fail
  rw [← HW.out]
  refine wp_region_calmE 30 (fun wx => Below W.heap.size W wx) [(0, true), (1, true), (2, true), (3, false), (4, true), (5, true), (6, true), (7, true), (8, true), (9, true), (10, false), (11, true), (12, true), (13, true), (14, false), (15, true), (16, false), (18, true)] (.one 17 false [(19, true), (20, true)] .done) (by kernel_rfl) (by kernel_rfl) (Below.refl _ _).drew ?_
  refine wpPre_e rfl rfl (fun K1 hK1 => ?_)
  apply Exists.intro
  refine And.intro (fun wx hx => ?_) ?_
  · go_simp
    try rfl
  go_simp
  refine hK1 _ ?_
  clear hK1 K1
  refine wpPre_e rfl rfl (fun K1 hK1 => ?_)
  apply Exists.intro
  refine And.intro (fun wx hx => ?_) ?_
  · go_simp
    try rfl
  go_simp
  refine hK1 _ ?_
  clear hK1 K1
  refine wpPre_e rfl rfl (fun K1 hK1 => ?_)
  apply Exists.intro
  refine And.intro (fun wx hx => ?_) ?_
  · go_simp
    try rfl
  go_simp
  refine hK1 _ ?_
  clear hK1 K1
  refine wpPre_e rfl rfl (fun K1 hK1 => ?_)
  apply Exists.intro
  refine And.intro (fun wx hx => ?_) ?_
  · have e0 := below_fact hx rfl c0
    have e1 := below_fact hx rfl c1
    have e2 := below_fact hx rfl d0
    go_simp
    try rfl
  go_simp
  refine hK1 _ ?_
  clear hK1 K1
  refine wpPre_e rfl rfl (fun K1 hK1 => ?_)
  apply Exists.intro
  refine And.intro (fun wx hx => ?_) ?_
  · go_simp
    try rfl
  go_simp
  refine hK1 _ ?_
  clear hK1 K1
  refine wpPre_e rfl rfl (fun K1 hK1 => ?_)
  apply Exists.intro
  refine And.intro (fun wx hx => ?_) ?_
  · go_simp
    try rfl
  go_simp
  refine hK1 _ ?_
  clear hK1 K1
  refine wpPre_e rfl rfl (fun K1 hK1 => ?_)
  apply Exists.intro
  refine And.intro (fun wx hx => ?_) ?_
  · go_simp
    try rfl
  go_simp
  refine hK1 _ ?_
  clear hK1 K1
  refine wpPre_i rfl (fun K1 hK1 => ?_)
  rw [if_pos (by go_simp)]
  apply Exists.intro
  refine And.intro (fun wx hx => ?_) ?_
  · go_simp
    try rfl
  go_simp
  refine hK1 _ ?_
  clear hK1 K1
  refine wpPre_i rfl (fun K1 hK1 => ?_)
  rw [if_pos (by go_simp)]
  apply Exists.intro
  refine And.intro (fun wx hx => ?_) ?_
  · go_simp
    try rfl
  go_simp
  refine hK1 _ ?_
  clear hK1 K1
  refine wpPre_i rfl (fun K1 hK1 => ?_)
  rw [if_pos (by go_simp)]
  apply Exists.intro
  refine And.intro (fun wx hx => ?_) ?_
  · go_simp
    try rfl
  go_simp
  refine hK1 _ ?_
  clear hK1 K1
  refine wpPre_i rfl (fun K1 hK1 => ?_)
  rw [if_pos (by go_simp)]
  apply Exists.intro
  refine And.intro (fun wx hx => ?_) ?_
  · have e0 := below_fact hx rfl c0
    have e1 := below_fact hx rfl c1
    have e2 := below_fact hx rfl d0
    go_simp
    try rfl
  go_simp
  refine hK1 _ ?_
  clear hK1 K1
  refine wpPre_i rfl (fun K1 hK1 => ?_)
  rw [if_pos (by go_simp)]
  apply Exists.intro
  refine And.intro (fun wx hx => ?_) ?_
  · go_simp
    try rfl
  go_simp
  refine hK1 _ ?_
  clear hK1 K1
  refine wpPre_i rfl (fun K1 hK1 => ?_)
  rw [if_pos (by go_simp)]
  apply Exists.intro
  refine And.intro (fun wx hx => ?_) ?_
  · go_simp
    try rfl
  go_simp
  refine hK1 _ ?_
  clear hK1 K1
  refine wpPre_i rfl (fun K1 hK1 => ?_)
  rw [if_pos (by go_simp)]
  apply Exists.intro
  refine And.intro (fun wx hx => ?_) ?_
  · go_simp
    try rfl
  go_simp
  refine hK1 _ ?_
  clear hK1 K1
  refine wpPre_i rfl (fun K1 hK1 => ?_)
  rw [if_pos (by go_simp)]
  apply Exists.intro
  refine And.intro (fun wx hx => ?_) ?_
  · have e0 := below_fact hx rfl c0
    have e1 := below_fact hx rfl c1
    have e2 := below_fact hx rfl d0
    go_simp
    try rfl
  go_simp
  refine hK1 _ ?_
  clear hK1 K1
  refine wpPre_i rfl (fun K1 hK1 => ?_)
  rw [if_pos (by go_simp)]
  apply Exists.intro
  refine And.intro (fun wx hx => ?_) ?_
  · go_simp
    try rfl
  go_simp
  refine hK1 _ ?_
  clear hK1 K1
  refine wpPre_i rfl (fun K1 hK1 => ?_)
  rw [if_pos (by go_simp)]
  apply Exists.intro
  refine And.intro (fun wx hx => ?_) ?_
  · have e0 := below_fact hx rfl c0
    have e1 := below_fact hx rfl c1
    have e2 := below_fact hx rfl d0
    go_simp
    try rfl
  go_simp
  refine hK1 _ ?_
  clear hK1 K1
  refine wpPre_i rfl (fun K1 hK1 => ?_)
  rw [if_pos (by go_simp)]
  apply Exists.intro
  refine And.intro (fun wx hx => ?_) ?_
  · go_simp
    try rfl
  go_simp
  refine hK1 _ ?_
  clear hK1 K1
  refine wpPre_nil ?_
  refine wpTr_e rfl (fun K1 hK1 => ?_)
  rw [if_pos (by go_simp)]
  refine step_callT 70 (.tmp 18) #[.tmp 24] _ rfl rfl Try.f70 Try.func70 (by kernel_rfl) rfl #[.string (l.item 0)] rfl _ (key_S (l.item 0) _) (fun e w4 h4 => ?_)
  obtain ⟨rfl, h4⟩ := h4
  have HB4 : Hid (Below W.heap.size W w4) := ((Below.refl _ W).drew).trans h4
  clear h4
  refine ⟨_, rfl, ?_⟩
  go_simp
  refine hK1 _ _ (fun h => by cases h) ?_
  clear hK1 K1
  refine wpPre_i rfl (fun K1 hK1 => ?_)
  rw [if_pos (by go_simp)]
  apply Exists.intro
  refine And.intro (fun wx hx => ?_) ?_
  · go_simp
    try rfl
  go_simp
  refine hK1 _ ?_
  clear hK1 K1
  refine wpPre_e rfl rfl (fun K1 hK1 => ?_)
  apply Exists.intro
  refine And.intro (fun wx hx => ?_) ?_
  · go_simp
    try rfl
  go_simp
  refine hK1 _ ?_
  clear hK1 K1
  refine wpPre_nil ?_
  refine wpTr_done ?_
  clear c0 c1 d0
  have HBw : Hid (Below w.heap.size w w4) := HB.out.trans (HB4.out.mono HB.out.size)
  go_wp2
  exact bodyPost_ret (v := .tuple #[.string ⟨#[]⟩, .bool false]) (by simp [results, Try.results86, go_sem]) rfl ⟨rfl, HBw.out⟩
set_option maxRecDepth 60000 in
set_option maxHeartbeats 4000000 in
theorem cutSome_S (w : World) (b : Nat) (l : LT ByteArray) (S : Nat → Prop) (key : ByteArray) (hbx : Box w b #[.slice l.p l.n l.c, .func (.func 70) #[] #[]] 78) (hin : LT.In elStr w S l) (hSb : ∀ k, S k → k ≠ b) (hn : 0 < l.n) (hk : ((l.item 0).toList == key.toList) = true) :
    Calls Try.prog 86 #[.pointer (some ⟨b, 0, none⟩), .string key] w fun e w' => ∃ p, e = .returned (.tuple #[.string (l.item 0), .bool true]) ∧ Box w' b #[.slice p (l.n - 1) (l.c - 1), .func (.func 70) #[] #[]] 78 ∧ LT.In elStr w' S (l.tail p) ∧ But (fun k => k = b) w w' := by
  have HX := hid hbx
  have HI := hid hin
  have hnn := hin.nn
  have hnc := hin.nc
  have hcc := hin.cc
  have HSb := hid hSb
  clear hbx hin hSb
  obtain ⟨W, hW⟩ : ∃ V, V = w := ⟨_, rfl⟩
  have hB : Below w.heap.size w W := by rw [hW]; exact Below.refl _ _
  have HB := hid hB
  have hbw : Box W b #[.slice l.p l.n l.c, .func (.func 70) #[] #[]] 78 := HX.out.below hB
  have HXW := hid hbw
  have HW := hid hW
  clear hB hbw hW
  have c0 := HXW.out.cell 0
  have c1 := HXW.out.cell 1
  have bl := HXW.out.lt
  simp at c0 c1
  obtain ⟨bb, o, hp, hS1, hbl, hat⟩ := HI.out.at_ hn
  rw [hp] at c0
  have d0 : W.cell? ⟨bb, o, none⟩ = some (.string (l.item 0)) := by
    have h := hat 0 hn 0 _ rfl
    rw [show o + 0 * elStr.size + 0 = o by omega] at h
    exact (World.cell?_of_block (a := ⟨bb, o, none⟩) (HB.out.block bb hbl)).trans h
  have hbl2 : bb < W.heap.size := Nat.lt_of_lt_of_le hbl HB.out.size
  clear hat
  have hn' : ((l.n : Int) == 0) = false := by simp; omega
  go_enter Try.func86, Try.ntmps86
  go_upto_region 1 with fail
  rw [← HW.out]
  refine wp_region_calmE 30 (fun wx => Below W.heap.size W wx) [(0, true), (1, true), (2, true), (3, false), (4, true), (5, true), (6, true), (7, true), (8, true), (9, true), (10, false), (11, true), (12, true), (13, true), (14, false), (15, true), (16, false), (18, true)] (.one 17 false [(19, true), (20, true)] .done) (by kernel_rfl) (by kernel_rfl) (Below.refl _ _).drew ?_
  refine wpPre_e rfl rfl (fun K1 hK1 => ?_)
  apply Exists.intro
  refine And.intro (fun wx hx => ?_) ?_
  · go_simp
    try rfl
  go_simp
  refine hK1 _ ?_
  clear hK1 K1
  refine wpPre_e rfl rfl (fun K1 hK1 => ?_)
  apply Exists.intro
  refine And.intro (fun wx hx => ?_) ?_
  · go_simp
    try rfl
  go_simp
  refine hK1 _ ?_
  clear hK1 K1
  refine wpPre_e rfl rfl (fun K1 hK1 => ?_)
  apply Exists.intro
  refine And.intro (fun wx hx => ?_) ?_
  · go_simp
    try rfl
  go_simp
  refine hK1 _ ?_
  clear hK1 K1
  refine wpPre_e rfl rfl (fun K1 hK1 => ?_)
  apply Exists.intro
  refine And.intro (fun wx hx => ?_) ?_
  · have e0 := below_fact hx rfl c0
    have e1 := below_fact hx rfl c1
    have e2 := below_fact hx rfl d0
    go_simp
    try rfl
  go_simp
  refine hK1 _ ?_
  clear hK1 K1
  refine wpPre_e rfl rfl (fun K1 hK1 => ?_)
  apply Exists.intro
  refine And.intro (fun wx hx => ?_) ?_
  · go_simp
    try rfl
  go_simp
  refine hK1 _ ?_
  clear hK1 K1
  refine wpPre_e rfl rfl (fun K1 hK1 => ?_)
  apply Exists.intro
  refine And.intro (fun wx hx => ?_) ?_
  · go_simp
    try rfl
  go_simp
  refine hK1 _ ?_
  clear hK1 K1
  refine wpPre_e rfl rfl (fun K1 hK1 => ?_)
  apply Exists.intro
  refine And.intro (fun wx hx => ?_) ?_
  · go_simp
    try rfl
  go_simp
  refine hK1 _ ?_
  clear hK1 K1
  refine wpPre_i rfl (fun K1 hK1 => ?_)
  rw [if_pos (by go_simp)]
  apply Exists.intro
  refine And.intro (fun wx hx => ?_) ?_
  · go_simp
    try rfl
  go_simp
  refine hK1 _ ?_
  clear hK1 K1
  refine wpPre_i rfl (fun K1 hK1 => ?_)
  rw [if_pos (by go_simp)]
  apply Exists.intro
  refine And.intro (fun wx hx => ?_) ?_
  · go_simp
    try rfl
  go_simp
  refine hK1 _ ?_
  clear hK1 K1
  refine wpPre_i rfl (fun K1 hK1 => ?_)
  rw [if_pos (by go_simp)]
  apply Exists.intro
  refine And.intro (fun wx hx => ?_) ?_
  · go_simp
    try rfl
  go_simp
  refine hK1 _ ?_
  clear hK1 K1
  refine wpPre_i rfl (fun K1 hK1 => ?_)
  rw [if_pos (by go_simp)]
  apply Exists.intro
  refine And.intro (fun wx hx => ?_) ?_
  · have e0 := below_fact hx rfl c0
    have e1 := below_fact hx rfl c1
    have e2 := below_fact hx rfl d0
    go_simp
    try rfl
  go_simp
  refine hK1 _ ?_
  clear hK1 K1
  refine wpPre_i rfl (fun K1 hK1 => ?_)
  rw [if_pos (by go_simp)]
  apply Exists.intro
  refine And.intro (fun wx hx => ?_) ?_
  · go_simp
    try rfl
  go_simp
  refine hK1 _ ?_
  clear hK1 K1
  refine wpPre_i rfl (fun K1 hK1 => ?_)
  rw [if_pos (by go_simp)]
  apply Exists.intro
  refine And.intro (fun wx hx => ?_) ?_
  · go_simp
    try rfl
  go_simp
  refine hK1 _ ?_
  clear hK1 K1
  refine wpPre_i rfl (fun K1 hK1 => ?_)
  rw [if_pos (by go_simp)]
  apply Exists.intro
  refine And.intro (fun wx hx => ?_) ?_
  · go_simp
    try rfl
  go_simp
  refine hK1 _ ?_
  clear hK1 K1
  refine wpPre_i rfl (fun K1 hK1 => ?_)
  rw [if_pos (by go_simp)]
  apply Exists.intro
  refine And.intro (fun wx hx => ?_) ?_
  · have e0 := below_fact hx rfl c0
    have e1 := below_fact hx rfl c1
    have e2 := below_fact hx rfl d0
    go_simp
    try rfl
  go_simp
  refine hK1 _ ?_
  clear hK1 K1
  refine wpPre_i rfl (fun K1 hK1 => ?_)
  rw [if_pos (by go_simp)]
  apply Exists.intro
  refine And.intro (fun wx hx => ?_) ?_
  · go_simp
    try rfl
  go_simp
  refine hK1 _ ?_
  clear hK1 K1
  refine wpPre_i rfl (fun K1 hK1 => ?_)
  rw [if_pos (by go_simp)]
  apply Exists.intro
  refine And.intro (fun wx hx => ?_) ?_
  · have e0 := below_fact hx rfl c0
    have e1 := below_fact hx rfl c1
    have e2 := below_fact hx rfl d0
    go_simp
    try rfl
  go_simp
  refine hK1 _ ?_
  clear hK1 K1
  refine wpPre_i rfl (fun K1 hK1 => ?_)
  rw [if_pos (by go_simp)]
  apply Exists.intro
  refine And.intro (fun wx hx => ?_) ?_
  · go_simp
    try rfl
  go_simp
  refine hK1 _ ?_
  clear hK1 K1
  refine wpPre_nil ?_
  refine wpTr_e rfl (fun K1 hK1 => ?_)
  rw [if_pos (by go_simp)]
  refine step_callT 70 (.tmp 18) #[.tmp 24] _ rfl rfl Try.f70 Try.func70 (by kernel_rfl) rfl #[.string (l.item 0)] rfl _ (key_S (l.item 0) _) (fun e w4 h4 => ?_)
  obtain ⟨rfl, h4⟩ := h4
  have HB4 : Hid (Below W.heap.size W w4) := ((Below.refl _ W).drew).trans h4
  clear h4
  refine ⟨_, rfl, ?_⟩
  go_simp
  refine hK1 _ _ (fun h => by cases h) ?_
  clear hK1 K1
  refine wpPre_i rfl (fun K1 hK1 => ?_)
  rw [if_pos (by go_simp)]
  apply Exists.intro
  refine And.intro (fun wx hx => ?_) ?_
  · go_simp
    try rfl
  go_simp
  refine hK1 _ ?_
  clear hK1 K1
  refine wpPre_e rfl rfl (fun K1 hK1 => ?_)
  apply Exists.intro
  refine And.intro (fun wx hx => ?_) ?_
  · go_simp
    try rfl
  go_simp
  refine hK1 _ ?_
  clear hK1 K1
  refine wpPre_nil ?_
  refine wpTr_done ?_
  clear c0 c1 d0
  have HBw : Hid (Below w.heap.size w w4) := HB.out.trans (HB4.out.mono HB.out.size)
  have hX4 := HXW.out.below HB4.out
  have HX4 := hid hX4
  have c0 := hX4.cell 0
  have c1 := hX4.cell 1
  have k0 := hX4.frozen 0
  have bl4 := hX4.lt
  simp at c0 c1
  rw [hp] at c0
  have hin4 : LT.In elStr w4 S l := HI.out.below HBw.out
  obtain ⟨bb2, o2, hp2, _, hbl4, hat⟩ := hin4.at_ hn
  rw [hp] at hp2
  cases hp2
  have d0 : w4.cell? ⟨bb, o, none⟩ = some (.string (l.item 0)) := by
    have h := hat 0 hn 0 _ rfl
    rw [show o + 0 * elStr.size + 0 = o by omega] at h
    exact h
  have HI4 := hid hin4
  clear hat hin4 hX4
  go_upto_region 6 with fail
  obtain ⟨p1, hp1⟩ : ∃ p, p = (if l.c = 1 then some (⟨bb, o, none⟩ : Addr) else some ⟨bb, o + 1, none⟩) := ⟨_, rfl⟩
  rw [← hp1]
  have hE1 : Box (w4.setCell ⟨b, 0, none⟩ (.slice p1 (l.n - 1) (l.c - 1))) b #[.slice p1 (l.n - 1) (l.c - 1), .func (.func 70) #[] #[]] 78 := by
    have h := HX4.out.set 0 (.slice p1 (l.n - 1) (l.c - 1))
    simpa only [List.setIfInBounds_toArray, List.set_cons_zero] using h
  have hbt : But (fun k => k = b) w (w4.setCell ⟨b, 0, none⟩ (.slice p1 (l.n - 1) (l.c - 1))) := (But.ofBelow HBw.out).trans ((But.one w4 b).setAt 0 _)
  have HT : Hid (LT.In elStr w S (l.tail p1)) := HI.out.tail hn hp p1 (by
    rw [hp1]
    by_cases hc : l.c = 1
    · rw [if_pos hc]; exact .inl ⟨rfl, by omega⟩
    · rw [if_neg hc]; exact .inr rfl)
  clear c0 c1 k0 hp1 d0
  go_wp2
  exact bodyPost_ret (v := .tuple #[.string (l.item 0), .bool true]) (by simp [results, Try.results86, go_sem]) rfl ⟨p1, rfl, hE1, HT.out.but hbt fun q hq _ => HSb.out q hq, hbt⟩
end Go.Proofs.Ytckopbkhpbhljaa
