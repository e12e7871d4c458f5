import Derived.Test.YtbcnlfbclgkeiaaLcZ0
namespace Go.Proofs.Ytbcnlfbclgkeiaa
open Go.RowKit Go.Conc
set_option maxRecDepth 8000
structure StQ (B0 : Nat) (w : World) (k b : Nat) (X : Bb) (L : Ln) (n : Nat) (w' : World) (X' : Bb) (L' : Ln) (F' : List IT) : Prop where
  fj : FJ B0 w' k b X' L' F'
  room : L'.room = L.room
  bel : Below B0 w w'
  rn : X'.R.n ≤ X.R.n + n
  mn : X'.M.n ≤ X.M.n + n
theorem FJ.bel_lane {B0 : Nat} {w w' : World} {k b : Nat} {X : Bb} {L L' : Ln} {F : List IT} (h : FJ B0 w k b X L F) (hB : B0 ≤ w.heap.size) (s : LSet w (X.C k) b L w' L') : Below B0 w w' := s.but.below hB fun j hj e => by have := h.lb j e; omega
theorem BSet.bel {B0 : Nat} {w w' : World} {k : Nat} {X X' : Bb} (hb : BbI B0 w k X) (hB : B0 ≤ w.heap.size) (s : BSet B0 w k X w' X') : Below B0 w w' := s.but.below hB fun j hj e => by have := (hb.c_lt e).1; omega
theorem LSet.lb {B0 : Nat} {w w' : World} {Z : Nat → Prop} {b : Nat} {L L' : Ln} (s : LSet w Z b L w' L') (hl : ∀ j, L.C b j → B0 ≤ j) (hB : B0 ≤ w.heap.size) : ∀ j, L'.C b j → B0 ≤ j := fun j hj => by
  rcases s.c j hj with e | e
  · exact hl j e
  · omega
set_option maxRecDepth 60000 in
set_option maxHeartbeats 16000000 in
/-- one call of the script -/
theorem step_any (B0 : Nat) (w : World) (k b : Nat) (X : Bb) (L : Ln) (F : List IT) (h : FJ B0 w k b X L F) (o : OpL) (hin : OpL.In w (fun j => j < B0) o) (hsz : o.its.sumI o.its.n ≤ 10000) (h1 : X.R.n + o.its.n ≤ 10000) (h2 : X.M.n + o.its.n ≤ 10000) :
    Calls Try.prog 22 #[.pointer (some ⟨k, 0, none⟩), .pointer (some ⟨b, 0, none⟩), .int .i64 L.room, .agg #[.int .i64 o.kind, .bool o.sec, .slice o.its.p o.its.n o.its.c, .slice o.rcs.p o.rcs.n o.rcs.c]] w fun e w' => e = .returned (.bool true) ∧ ∃ X' L' F', StQ B0 w k b X L o.its.n w' X' L' F' := by
  obtain ⟨W, hW⟩ : ∃ W, W = w.alloc (.cells #[.int .i64 o.kind, .bool o.sec, .slice o.its.p o.its.n o.its.c, .slice o.rcs.p o.rcs.n o.rcs.c] 60) := ⟨_, rfl⟩
  have hB : Below w.heap.size w W := by rw [hW]; exact (Below.refl _ _).alloc (Nat.le_refl _) _
  have hXb : Box W w.heap.size #[.int .i64 o.kind, .bool o.sec, .slice o.its.p o.its.n o.its.c, .slice o.rcs.p o.rcs.n o.rcs.c] 60 := by rw [hW]; exact Box.new _ _ _
  have hB0 : B0 ≤ w.heap.size := Nat.le_of_lt (Nat.lt_of_le_of_lt h.bk.kb h.bk.box.lt)
  have hB0W : B0 ≤ W.heap.size := Nat.le_trans hB0 hB.size
  have hJ := h.below hB
  have HJ := hid hJ
  have HIt : Hid (LT.In elItem W (fun j => j < B0) o.its) := hin.its.kept hB.size fun j hj hl => hB.block j hl
  have HBw : Hid (Below B0 w W) := hB.mono hB0
  have HXb := hid hXb
  have HW := hid hW
  have z0 := hXb.cell 0
  have z2 := hXb.cell 2
  simp at z0 z2
  have zl := hXb.lt
  have hr0 := h.ln.r0
  have hr8 := h.ln.r1
  have hln := h.lens
  have H0 : Hid (StQ B0 w k b X L o.its.n W X L F) := ⟨hJ, rfl, hB.mono hB0, by omega, by omega⟩
  have HcL : Hid (∀ j, L.C b j → j < w.heap.size) := fun j hj => h.ln.c_lt hj
  have HcX : Hid (∀ j, X.C k j → j < w.heap.size) := fun j hj => h.zlt j hj
  clear h hB hXb hW hin hJ
  by_cases h1k : o.kind = 1
  · have HPt := hid (put_any W (X.C k) b L HJ.out.ln HJ.out.zlt o.its (fun j => j < B0) HIt.out (fun j _ hj e => by have := HJ.out.lb j e; omega) (fun j hj => Nat.le_trans (o.its.sumI_each hj) hsz) (by omega))
    rw [h1k] at z0 HW ⊢
    clear h1k
    go_enter Try.func22, Try.ntmps22
    go_upto_region 1 with fail
    rw [← HW.out]
    go_wp2_with fail
    refine HPt.out.mono ?_
    rintro e w2 ⟨us, L1, er, rfl, hP, hfin⟩
    have hbk2 := HJ.out.bk.lane HJ.out.ln HJ.out.lb hP.set
    have hnq := HJ.out.nrq
    have hA := hP.putA hfin
    rw [hnq] at hA
    have hBl := HJ.out.bel_lane hB0W hP.set
    have hit2 : LT.In elItem w2 (fun j => j < B0) o.its := HIt.out.kept hP.set.but.size fun j hj hl => hBl.block j hj
    have HBk := hid (put_bk B0 w2 k X hbk2 L.room o.its hit2 us.length er hA (by omega) (by omega))
    have hx2 := HXb.out.kept (hP.set.but.block _ HXb.out.lt fun e => by have := HcL.out _ e; omega)
    have y2 := hx2.cell 2
    simp at y2
    have HFin : Hid (∀ X' w', PtR B0 w2 k X o.its us.length X' w' → ∃ F', StQ B0 w k b X L o.its.n w' X' L1 F') := by
      intro X' w' hQ
      have hs2 : B0 ≤ w2.heap.size := Nat.le_trans hB0W hP.set.but.size
      have hcps := hP.cps
      refine ⟨F ++ o.its.toL.take us.length, ⟨hQ.set.bk, hP.set.ln.book hQ.set, hP.set.lb HJ.out.lb hB0W, by rw [hP.q]; exact HJ.out.cp.append hcps, ?_, ?_, ?_⟩, hP.set.room, (HBw.out.trans hBl).trans (hQ.set.bel hbk2 hs2), ?_, ?_⟩
      · rw [List.filter_append, List.map_append, HJ.out.r, hQ.r, hQ.oR, List.drop_append_of_le_length (by rw [LT.toL_len]; exact HJ.out.bk.b1)]
      · rw [List.filter_append, List.map_append, HJ.out.m, hQ.m, hQ.oM, List.drop_append_of_le_length (by rw [LT.toL_len]; exact HJ.out.bk.b2)]
      · rw [hP.set.room, hP.q]
        exact hP.room HJ.out.rm hr0
      · have h5 := congrArg List.length hQ.r
        rw [LT.toL_len, List.length_append, LT.toL_len, List.length_map] at h5
        have h6 := List.length_filter_le (fun x : IT => decide (x.mark = 0)) (o.its.toL.take us.length)
        rw [List.length_take, LT.toL_len] at h6
        omega
      · have h5 := congrArg List.length hQ.m
        rw [LT.toL_len, List.length_append, LT.toL_len, List.length_map] at h5
        have h6 := List.length_filter_le (fun x : IT => decide (¬ (x.mark = 0))) (o.its.toL.take us.length)
        rw [List.length_take, LT.toL_len] at h6
        omega
    clear hP hfin hbk2 hnq hA hBl hit2 hx2 HPt z0 z2
    go_wp2_with fail
    refine HBk.out.mono ?_
    rintro e w3 ⟨rfl, X', hQ⟩
    obtain ⟨F', hF⟩ := HFin.out X' w3 hQ
    have HF := hid hF
    clear hQ hF HBk
    go_wp2
    exact bodyPost_ret (v := .bool true) (by simp [results, Try.results22, go_sem]) rfl ⟨rfl, X', L1, F', HF.out⟩
  by_cases h2k : o.kind = 2
  · rw [h2k] at z0 HW ⊢
    clear h1k h2k
    cases hq : L.q with
    | nil =>
      have HTk := hid (take_none W (X.C k) b L HJ.out.ln hq)
      obtain ⟨he1, he2⟩ := HJ.out.empty hq
      have HE1 := hid he1
      have HE2 := hid he2
      clear hq he1 he2
      go_enter Try.func22, Try.ntmps22
      go_upto_region 1 with fail
      rw [← HW.out]
      go_wp2_with fail
      refine HTk.out.mono ?_
      rintro e w2 ⟨rfl, hB2⟩
      obtain ⟨W3, hW3⟩ : ∃ W3, W3 = w2.alloc (.cells #[.int .i64 0, .string ⟨#[]⟩, .int .i64 0, .int .i64 0, .string ⟨#[]⟩, .slice none 0 0, .slice none 0 0] 35) := ⟨_, rfl⟩
      have hB3 : Below w2.heap.size w2 W3 := by rw [hW3]; exact (Below.refl _ _).alloc (Nat.le_refl _) _
      have hBW3 : Below W.heap.size W W3 := hB2.trans (hB3.mono hB2.size)
      have hJ3 := HJ.out.below hBW3
      have HJ3 := hid hJ3
      have HBW3 := hid hBW3
      have HW3 := hid hW3
      have c1 : W3.cell? ⟨k, 1, none⟩ = some (.slice X.M.p X.M.n X.M.c) := by rw [hJ3.bk.box.cell]; rfl
      have c3 : W3.cell? ⟨k, 3, none⟩ = some (.int .i64 (X.M.n : Int)) := by rw [hJ3.bk.box.cell, ← HE2.out]; rfl
      have bl3 := hJ3.bk.box.lt
      have HH : Hid (∀ V, Below W3.heap.size W3 V → Calls Try.prog 40 #[.pointer (some ⟨k, 0, none⟩)] V fun e w' => e = .returned (.int .i64 0) ∧ Below V.heap.size V w') := fun V hV => by
        have := held_any B0 V k X (HJ3.out.bk.below hV)
        rw [HE1.out] at this
        exact this
      clear hB2 hB3 hBW3 hJ3 hW3 HTk z0 z2
      unfold zI
      go_upto_region 8 with fail
      rw [← HW3.out]
      refine wp_region_calmE 30 (fun wx => Below W3.heap.size W3 wx) [(0, true)] (.one 1 true [(2, true), (3, true), (4, true), (5, true), (6, true), (7, false), (8, true), (9, true), (10, true), (11, false), (12, true), (13, true), (14, true), (15, true)] .done) (by kernel_rfl) (by kernel_rfl) (Below.refl _ _).drew ?_
      refine wpPre_e rfl rfl (fun K1 hK1 => ?_)
      apply Exists.intro
      refine And.intro (fun wx hx => ?_) ?_
      · go_simp
        try rfl
      go_simp
      refine hK1 _ ?_
      clear hK1 K1
      refine wpPre_nil ?_
      refine wpTr_e rfl (fun K1 hK1 => ?_)
      refine step_call rfl 40 #[.tmp 43] _ rfl Try.f40 Try.func40 (by kernel_rfl) rfl #[.pointer (some ⟨k, 0, none⟩)] rfl _ (HH.out _ (Below.refl _ _).drew) (fun e w9 h9 => ?_)
      obtain ⟨rfl, hb9⟩ := h9
      refine ⟨_, rfl, ?_⟩
      have hb9' : Below W3.heap.size W3 w9 := (Below.refl W3.heap.size W3).drew.trans hb9
      have HB9 := hid hb9'
      clear hb9
      go_simp
      refine hK1 _ _ (fun _ => hb9') ?_
      clear hK1 K1 hb9'
      refine wpPre_e rfl rfl (fun K1 hK1 => ?_)
      apply Exists.intro
      refine And.intro (fun wx hx => ?_) ?_
      · go_simp
        try rfl
      go_simp
      refine hK1 _ ?_
      clear hK1 K1
      refine wpPre_e rfl rfl (fun K1 hK1 => ?_)
      apply Exists.intro
      refine And.intro (fun wx hx => ?_) ?_
      · go_simp
        try rfl
      go_simp
      refine hK1 _ ?_
      clear hK1 K1
      refine wpPre_i rfl (fun K1 hK1 => ?_)
      rw [if_pos (by go_simp)]
      apply Exists.intro
      refine And.intro (fun wx hx => ?_) ?_
      · go_simp
        try rfl
      go_simp
      refine hK1 _ ?_
      clear hK1 K1
      refine wpPre_i rfl (fun K1 hK1 => ?_)
      rw [if_pos (by go_simp)]
      apply Exists.intro
      refine And.intro (fun wx hx => ?_) ?_
      · go_simp
        try rfl
      go_simp
      refine hK1 _ ?_
      clear hK1 K1
      refine wpPre_i rfl (fun K1 hK1 => ?_)
      rw [if_pos (by go_simp)]
      apply Exists.intro
      refine And.intro (fun wx hx => ?_) ?_
      · go_simp
        try rfl
      go_simp
      refine hK1 _ ?_
      clear hK1 K1
      refine wpPre_i rfl (fun K1 hK1 => ?_)
      rw [if_pos (by go_simp)]
      apply Exists.intro
      refine And.intro (fun wx hx => ?_) ?_
      · have e0 := below_fact hx rfl c1
        have e1 := below_fact hx rfl c3
        go_simp
        try rfl
      go_simp
      refine hK1 _ ?_
      clear hK1 K1
      refine wpPre_i rfl (fun K1 hK1 => ?_)
      rw [if_pos (by go_simp)]
      apply Exists.intro
      refine And.intro (fun wx hx => ?_) ?_
      · go_simp
        try rfl
      go_simp
      refine hK1 _ ?_
      clear hK1 K1
      refine wpPre_i rfl (fun K1 hK1 => ?_)
      rw [if_pos (by go_simp)]
      apply Exists.intro
      refine And.intro (fun wx hx => ?_) ?_
      · go_simp
        try rfl
      go_simp
      refine hK1 _ ?_
      clear hK1 K1
      refine wpPre_i rfl (fun K1 hK1 => ?_)
      rw [if_pos (by go_simp)]
      apply Exists.intro
      refine And.intro (fun wx hx => ?_) ?_
      · go_simp
        try rfl
      go_simp
      refine hK1 _ ?_
      clear hK1 K1
      refine wpPre_i rfl (fun K1 hK1 => ?_)
      rw [if_pos (by go_simp)]
      apply Exists.intro
      refine And.intro (fun wx hx => ?_) ?_
      · have e0 := below_fact hx rfl c1
        have e1 := below_fact hx rfl c3
        go_simp
        try rfl
      go_simp
      refine hK1 _ ?_
      clear hK1 K1
      refine wpPre_i rfl (fun K1 hK1 => ?_)
      rw [if_pos (by go_simp)]
      apply Exists.intro
      refine And.intro (fun wx hx => ?_) ?_
      · go_simp
        try rfl
      go_simp
      refine hK1 _ ?_
      clear hK1 K1
      refine wpPre_i rfl (fun K1 hK1 => ?_)
      rw [if_pos (by go_simp)]
      apply Exists.intro
      refine And.intro (fun wx hx => ?_) ?_
      · go_simp
        try rfl
      go_simp
      refine hK1 _ ?_
      clear hK1 K1
      refine wpPre_e rfl rfl (fun K1 hK1 => ?_)
      apply Exists.intro
      refine And.intro (fun wx hx => ?_) ?_
      · go_simp
        try rfl
      go_simp
      refine hK1 _ ?_
      clear hK1 K1
      refine wpPre_e rfl rfl (fun K1 hK1 => ?_)
      apply Exists.intro
      refine And.intro (fun wx hx => ?_) ?_
      · go_simp
        try rfl
      go_simp
      refine hK1 _ ?_
      clear hK1 K1
      refine wpPre_nil ?_
      refine wpTr_done ?_
      go_wp2
      have HJ9 := HJ3.out.below HB9.out
      exact bodyPost_ret (v := .bool true) (by simp [results, Try.results22, go_sem]) rfl ⟨rfl, X, L, F, ⟨HJ9, rfl, HBw.out.trans ((HBW3.out.mono hB0W).trans (HB9.out.mono (Nat.le_trans hB0W HBW3.out.size))), by omega, by omega⟩⟩
    | cons x q' =>
      have HTk := hid (take_some W (X.C k) b L HJ.out.ln x q' hq)
      obtain ⟨f, F', hFe, hcf, hcp', hcr, hcm⟩ := HJ.out.head hq
      have hxi := HJ.out.ln.it x (by rw [hq]; exact List.mem_cons_self)
      have HXi := hid hxi
      have HCr := hid hcr
      have HCm := hid hcm
      have HCp := hid hcp'
      have HQ := hid hq
      clear hq hFe hcf hcp' hcr hcm hxi
      go_enter Try.func22, Try.ntmps22
      go_upto_region 1 with fail
      rw [← HW.out]
      go_wp2_with fail
      refine HTk.out.mono ?_
      rintro e w2 ⟨rfl, ht⟩
      have hbk2 := HJ.out.bk.lane HJ.out.ln HJ.out.lb ht
      have hx2 := ht.keep elItem HXi.out.1
      obtain ⟨W3, hW3⟩ : ∃ W3, W3 = w2.alloc (.cells #[.int .i64 x.mark, .string x.r.key, .int .i64 x.r.v.kind, .int .i64 x.r.v.int, .string x.r.v.text, .slice x.r.v.p x.r.v.n x.r.v.c, .slice x.r.p x.r.n x.r.c] 35) := ⟨_, rfl⟩
      have hB3 : Below w2.heap.size w2 W3 := by rw [hW3]; exact (Below.refl _ _).alloc (Nat.le_refl _) _
      have hX3 : Box W3 w2.heap.size #[.int .i64 x.mark, .string x.r.key, .int .i64 x.r.v.kind, .int .i64 x.r.v.int, .string x.r.v.text, .slice x.r.v.p x.r.v.n x.r.v.c, .slice x.r.p x.r.n x.r.c] 35 := by rw [hW3]; exact Box.new _ _ _
      have y0 := hX3.cell 0
      have y1 := hX3.cell 1
      have y2 := hX3.cell 2
      have y3 := hX3.cell 3
      have y4 := hX3.cell 4
      have y5 := hX3.cell 5
      have y6 := hX3.cell 6
      simp at y0 y1 y2 y3 y4 y5 y6
      have yl := hX3.lt
      have HBk3 := hid (hbk2.below hB3)
      have HX3 : Hid (IT.In W3 (fun j => ¬ (Ln.mk L.room none L.ch L.cap q').C b j ∧ ¬ X.C k j) x) := IT.In.below hx2 hB3
      have HBl := hid (HJ.out.bel_lane hB0W ht)
      have HL3 := hid (ht.ln.below hB3)
      have HLb := hid (ht.lb HJ.out.lb hB0W)
      have HB3 : Hid (Below B0 w W3) := (HBw.out.trans HBl.out).trans (hB3.mono (Nat.le_trans hB0W ht.but.size))
      have HW3 := hid hW3
      have hsW3 : B0 ≤ W3.heap.size := Nat.le_trans hB0W (Nat.le_trans ht.but.size hB3.size)
      have HRm : Hid (L.room = 0 ∨ (nR q' : Int) ≤ L.room) := by
        rcases HJ.out.rm with e | e
        · exact .inl e
        · refine .inr ?_
          rw [HQ.out] at e
          by_cases h0 : x.mark = 0
          · rw [nR_cons0 q' h0] at e; omega
          · rw [nR_cons1 q' h0] at e; exact e
      clear hbk2 hx2 hB3 hX3 hW3 ht HTk z0 z2
      unfold IT.val
      go_upto_region 9 with fail
      rw [← HW3.out]
      by_cases hm0 : x.mark = 0
      · obtain ⟨a1, a2, a3, a4⟩ := HCr.out hm0
        have HO := hid (outR_any B0 W3 k X HBk3.out x _ HX3.out (fun j hj e => hj.2 (.inl e)) hm0 a1 a2)
        have HA34 := hid (And.intro a3 a4)
        clear hm0 a1 a2 a3 a4
        go_wp2_with fail
        refine HO.out.mono ?_
        rintro e w4 ⟨rfl, hQ⟩
        have HF : Hid (StQ B0 w k b X L o.its.n w4 ⟨X.R, X.M, X.oR + 1, X.oM⟩ ⟨L.room, none, L.ch, L.cap, q'⟩ F') := ⟨⟨hQ.bk, HL3.out.book hQ, HLb.out, HCp.out, HA34.out.1, HA34.out.2, HRm.out⟩, rfl, HB3.out.trans (hQ.bel HBk3.out hsW3), Nat.le_add_right _ _, Nat.le_add_right _ _⟩
        clear hQ HO
        go_wp2
        exact bodyPost_ret (v := .bool true) (by simp [results, Try.results22, go_sem]) rfl ⟨rfl, _, _, _, HF.out⟩
      · obtain ⟨a1, a2, a3, a4⟩ := HCm.out hm0
        have HO := hid (outM_any B0 W3 k X HBk3.out x _ HX3.out (fun j hj e => hj.2 (.inl e)) (by have := HXi.out.2.m; omega) (HXi.out.2.z hm0) a1 a2)
        have HA34 := hid (And.intro a3 a4)
        clear hm0 a1 a2 a3 a4
        go_wp2_with fail
        refine HO.out.mono ?_
        rintro e w4 ⟨rfl, hQ⟩
        have HF : Hid (StQ B0 w k b X L o.its.n w4 ⟨X.R, X.M, X.oR, X.oM + 1⟩ ⟨L.room, none, L.ch, L.cap, q'⟩ F') := ⟨⟨hQ.bk, HL3.out.book hQ, HLb.out, HCp.out, HA34.out.1, HA34.out.2, HRm.out⟩, rfl, HB3.out.trans (hQ.bel HBk3.out hsW3), Nat.le_add_right _ _, Nat.le_add_right _ _⟩
        clear hQ HO
        go_wp2
        exact bodyPost_ret (v := .bool true) (by simp [results, Try.results22, go_sem]) rfl ⟨rfl, _, _, _, HF.out⟩
  by_cases h4k : o.kind = 4
  · rw [h4k] at z0 HW ⊢
    clear h1k h2k h4k
    by_cases hnm : nR L.q = L.q.length
    · have HPl := hid (pull_none W (X.C k) b L HJ.out.ln hnm)
      have HOm := hid (HJ.out.nomark hnm)
      clear hnm
      go_enter Try.func22, Try.ntmps22
      go_upto_region 1 with fail
      rw [← HW.out]
      go_wp2_with fail
      refine HPl.out.mono ?_
      rintro e w2 ⟨rfl, hB2⟩
      have HJ2 := hid (HJ.out.below hB2)
      have HB2 := hid (HBw.out.trans (hB2.mono hB0W))
      have hs2 : B0 ≤ w2.heap.size := Nat.le_trans hB0W hB2.size
      have HB := hid (pull0_any B0 w2 k X HJ2.out.bk none 0 HOm.out)
      clear hB2 HPl z0 z2
      go_wp2_with fail
      refine HB.out.mono ?_
      rintro e w3 ⟨rfl, hB3⟩
      have HF : Hid (StQ B0 w k b X L o.its.n w3 X L F) := ⟨HJ2.out.below hB3, rfl, HB2.out.trans (hB3.mono hs2), Nat.le_add_right _ _, Nat.le_add_right _ _⟩
      clear hB3 HB
      go_wp2
      exact bodyPost_ret (v := .bool true) (by simp [results, Try.results22, go_sem]) rfl ⟨rfl, _, _, _, HF.out⟩
    · obtain ⟨A, m, B, hqe, hA, hm⟩ := first_mark L.q hnm
      have HPl := hid (pull_some W (X.C k) b L HJ.out.ln HJ.out.zlt A m B hqe hA hm)
      obtain ⟨F', hcp', a1, a2, a3, a4, a5, a6⟩ := HJ.out.first hqe hA hm
      have HA1 := hid (And.intro hcp' (And.intro a1 (And.intro a2 (And.intro a3 (And.intro a4 (And.intro a5 (And.intro a6 hm)))))))
      have HRm : Hid (L.room = 0 ∨ (nR (A ++ B) : Int) ≤ L.room) := by
        rcases HJ.out.rm with e | e
        · exact .inl e
        · refine .inr ?_
          rw [hqe, nR_append, nR_cons1 B hm] at e
          rw [nR_append]
          exact e
      clear hnm hqe hA hm hcp' a1 a2 a3 a4 a5 a6
      go_enter Try.func22, Try.ntmps22
      go_upto_region 1 with fail
      rw [← HW.out]
      go_wp2_with fail
      refine HPl.out.mono ?_
      rintro e w2 ⟨ah, rfl, hpl⟩
      obtain ⟨ch, cap, hset⟩ := hpl.set
      have hbk2 := HJ.out.bk.lane HJ.out.ln HJ.out.lb hset
      have HBk2 := hid hbk2
      have HSet := hid hset
      have HBl := hid (HJ.out.bel_lane hB0W hset)
      have HPu := hid (pull1_any B0 w2 k X hbk2 m.mark ah _ hpl.in_ (fun j hj e => hj.1.2 (.inl e)) HA1.out.2.2.2.2.2.2.2 HA1.out.2.1 HA1.out.2.2.1 (by rw [hpl.n]; exact HA1.out.2.2.2.1) (fun j hj => by
        rw [hpl.n] at hj
        obtain ⟨y, hy⟩ : ∃ y, A[j]? = some y := ⟨_, List.getElem?_eq_getElem hj⟩
        have e1 := HA1.out.2.2.2.2.1 j y hy
        have e2 := hpl.each j y hy
        exact RT.Alike.two (t := X.R.item (X.oR + j)) ⟨e2.key.trans e1.key, e1.v.trans e2.v, e2.n.trans e1.n, fun q hq => (e2.loop q (by rw [e1.n]; exact hq)).trans (e1.loop q hq)⟩ ⟨rfl, VT.Alike.refl _, rfl, fun _ _ => rfl⟩ (hpl.in_.each j (by rw [hpl.n]; exact hj))))
      have hs2 : B0 ≤ w2.heap.size := Nat.le_trans hB0W hset.but.size
      clear hpl hset hbk2 HPl z0 z2
      go_wp2_with fail
      refine HPu.out.mono ?_
      rintro e w3 ⟨rfl, hQ⟩
      have HF : Hid (StQ B0 w k b X L o.its.n w3 ⟨X.R, X.M, X.oR, X.oM + 1⟩ ⟨L.room, none, ch, cap, A ++ B⟩ F') := ⟨⟨hQ.bk, HSet.out.ln.book hQ, HSet.out.lb HJ.out.lb hB0W, HA1.out.1, HA1.out.2.2.2.2.2.1, HA1.out.2.2.2.2.2.2.1, HRm.out⟩, rfl, (HBw.out.trans HBl.out).trans (hQ.bel HBk2.out hs2), Nat.le_add_right _ _, Nat.le_add_right _ _⟩
      clear hQ HPu
      go_wp2
      exact bodyPost_ret (v := .bool true) (by simp [results, Try.results22, go_sem]) rfl ⟨rfl, _, _, _, HF.out⟩
  by_cases h7k : o.kind = 7
  · rw [h7k] at z0 HW ⊢
    clear h1k h2k h4k h7k
    have HFu := hid (full_any W (X.C k) b L HJ.out.ln)
    have hnq := HJ.out.nrq
    rw [hnq] at HFu
    obtain ⟨N, hN⟩ : ∃ N, N = X.R.n - X.oR := ⟨_, rfl⟩
    rw [← hN] at HFu
    have HNe := hid hN
    have hrm := HJ.out.rm
    rw [hnq, ← hN] at hrm
    have HRm := hid hrm
    clear hnq hN hrm
    by_cases hr : 0 < L.room
    · have hfb : fullB L.room (N : Int) = decide (L.room ≤ (N : Int)) := by unfold fullB; rw [decide_eq_true hr]; rfl
      rw [hfb] at HFu
      have hrd : decide (0 < L.room) = true := decide_eq_true hr
      have hne : (L.room == 0) = false := by simp; omega
      have hle : (N : Int) ≤ L.room := by rcases HRm.out with e | e; omega; exact e
      have hled : decide ((N : Int) ≤ L.room) = true := decide_eq_true hle
      clear hfb
      go_enter Try.func22, Try.ntmps22
      go_upto_region 1 with fail
      rw [← HW.out]
      go_wp2_with fail
      refine HFu.out.mono ?_
      rintro e w2 ⟨rfl, hB2⟩
      have HJ2 := hid (HJ.out.below hB2)
      have HB2 := hid (HBw.out.trans (hB2.mono hB0W))
      have hs2 : B0 ≤ w2.heap.size := Nat.le_trans hB0W hB2.size
      have HH := hid (held_any B0 w2 k X HJ2.out.bk)
      rw [← HNe.out] at HH
      have hbb : (decide (L.room ≤ (N : Int)) == decide (L.room ≤ (N : Int))) = true := by simp
      clear hB2 HFu z0 z2
      go_wp2_with fail
      refine HH.out.mono ?_
      rintro e w3 ⟨rfl, hB3⟩
      have HJ3 := hid (HJ2.out.below hB3)
      have HB3 := hid (HB2.out.trans (hB3.mono hs2))
      have hs3 : B0 ≤ w3.heap.size := Nat.le_trans hs2 hB3.size
      have HH3 := hid (held_any B0 w3 k X HJ3.out.bk)
      rw [← HNe.out] at HH3
      clear hB3 HH
      go_wp2_with fail
      refine HH3.out.mono ?_
      rintro e w4 ⟨rfl, hB4⟩
      have HF : Hid (StQ B0 w k b X L o.its.n w4 X L F) := ⟨HJ3.out.below hB4, rfl, HB3.out.trans (hB4.mono hs3), Nat.le_add_right _ _, Nat.le_add_right _ _⟩
      clear hB4 HH3
      go_wp2
      exact bodyPost_ret (v := .bool true) (by simp [results, Try.results22, go_sem]) rfl ⟨rfl, _, _, _, HF.out⟩
    · have hrz : L.room = 0 := by omega
      have hfb : fullB L.room (N : Int) = false := by unfold fullB; rw [decide_eq_false hr]; rfl
      rw [hfb] at HFu
      clear hfb hr HRm
      rw [hrz]
      clear hrz hr0 hr8
      go_enter Try.func22, Try.ntmps22
      go_upto_region 1 with fail
      rw [← HW.out]
      go_wp2_with fail
      refine HFu.out.mono ?_
      rintro e w2 ⟨rfl, hB2⟩
      have HF : Hid (StQ B0 w k b X L o.its.n w2 X L F) := ⟨HJ.out.below hB2, rfl, HBw.out.trans (hB2.mono hB0W), Nat.le_add_right _ _, Nat.le_add_right _ _⟩
      clear hB2 HFu z0 z2
      go_wp2
      exact bodyPost_ret (v := .bool true) (by simp [results, Try.results22, go_sem]) rfl ⟨rfl, _, _, _, HF.out⟩
  · have k1 : (o.kind == 1) = false := by simp [h1k]
    have k2 : (o.kind == 2) = false := by simp [h2k]
    have k4 : (o.kind == 4) = false := by simp [h4k]
    have k7 : (o.kind == 7) = false := by simp [h7k]
    clear h1k h2k h4k h7k
    go_enter Try.func22, Try.ntmps22
    go_upto_region 1 with fail
    rw [← HW.out]
    go_wp2
    exact bodyPost_ret (v := .bool true) (by simp [results, Try.results22, go_sem]) rfl ⟨rfl, X, L, F, H0.out⟩
end Go.Proofs.Ytbcnlfbclgkeiaa
