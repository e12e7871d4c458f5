import Derived.Test.YtldkepokcbjlpaaPqF
namespace Go.Proofs.Ytldkepokcbjlpaa
open Go.RowKit Go.Conc
set_option maxRecDepth 60000
set_option maxHeartbeats 32000000 in
theorem step_any (o : OpP) (y : Sy) (sb hb T : Nat) (sum : Int) (P : Ps) (ts : List (Nat × PtT)) (num : Nat → Int) (w0 w : World) (b : Nat) (h : SJ w0 w b sb hb P ts num T sum y) (hm : y.marks < 140737488355328) : Calls Try.prog 20 #[.pointer (some ⟨sb, 0, none⟩), .pointer (some ⟨b, 0, none⟩), .int .i64 (T : Int), .int .u32 sum, .agg #[.int .i64 o.kind, .bool o.snd, .bool o.abs, .int .i64 o.id, .int .i64 o.task, .int .i64 o.pt.num, .slice o.pt.cl.p o.pt.cl.n o.pt.cl.c, .slice o.pt.lg.p o.pt.lg.n o.pt.lg.c, .slice o.pt.pd.p o.pt.pd.n o.pt.pd.c, .bool o.ok]] w fun e w' => StpR w0 b sb T sum y e w' := by
  obtain ⟨W, hW⟩ : ∃ V, V = w.alloc (.cells #[.int .i64 o.kind, .bool o.snd, .bool o.abs, .int .i64 o.id, .int .i64 o.task, .int .i64 o.pt.num, .slice o.pt.cl.p o.pt.cl.n o.pt.cl.c, .slice o.pt.lg.p o.pt.lg.n o.pt.lg.c, .slice o.pt.pd.p o.pt.pd.n o.pt.pd.c, .bool o.ok] 41) := ⟨_, rfl⟩
  have hB : Below w.heap.size w W := by rw [hW]; exact (Below.refl _ _).alloc (Nat.le_refl _) _
  have hX : Box W w.heap.size #[.int .i64 o.kind, .bool o.snd, .bool o.abs, .int .i64 o.id, .int .i64 o.task, .int .i64 o.pt.num, .slice o.pt.cl.p o.pt.cl.n o.pt.cl.c, .slice o.pt.lg.p o.pt.lg.n o.pt.lg.c, .slice o.pt.pd.p o.pt.pd.n o.pt.pd.c, .bool o.ok] 41 := by rw [hW]; exact Box.new _ _ _
  have HJ0 := hid h
  have hJW := h.below hB
  have HJW := hid hJW
  have HX := hid hX
  have HW := hid hW
  have HNe : Hid (w.heap.size ≠ sb) := fun e => by have := h.box.lt; omega
  have c4 := hJW.box.cell 4
  have sl := hJW.box.lt
  simp [Sy.arr] at c4
  have x0 := hX.cell 0
  have x1 := hX.cell 1
  have x2 := hX.cell 2
  have x3 := hX.cell 3
  have x4 := hX.cell 4
  have x5 := hX.cell 5
  have x6 := hX.cell 6
  have x7 := hX.cell 7
  have x8 := hX.cell 8
  have x9 := hX.cell 9
  have ol := hX.lt
  simp at x0 x1 x2 x3 x4 x5 x6 x7 x8 x9
  have hwn : IntKind.i64.wrap (y.next - 1) = y.next - 1 := by
    have h1 := h.r.i.f0
    have h2 := h.r.i.f1
    have h3 := h.r.i.n1
    have h4 := h.nx
    unfold Ps.next at h4
    rw [IntKind.wrap_i64]; omega
  have HN := hid (number_any o (y.next - 1) W.drew)
  obtain ⟨id, hid0⟩ : ∃ x, x = o.num (y.next - 1) := ⟨_, rfl⟩
  rw [← hid0] at HN
  clear hid0 h hJW hX hW hB
  go_enter Try.func20, Try.ntmps20
  go_upto_region 1 with fail
  rw [← HW.out]
  refine wp_region_calmE 30 (fun wx => Below W.heap.size W wx) [(0, false), (1, true), (2, true), (3, true), (4, false), (5, true)] (.one 6 false [(7, true)] .done) (by kernel_rfl) (by kernel_rfl) (Below.refl _ _).drew ?_
  refine wpPre_e rfl rfl (fun K1 hK1 => ?_)
  apply Exists.intro
  refine And.intro (fun wx hx => ?_) ?_
  · have e0 := below_fact hx rfl x0
    have e1 := below_fact hx rfl x1
    have e2 := below_fact hx rfl x2
    have e3 := below_fact hx rfl x3
    have e4 := below_fact hx rfl x4
    have e5 := below_fact hx rfl x5
    have e6 := below_fact hx rfl x6
    have e7 := below_fact hx rfl x7
    have e8 := below_fact hx rfl x8
    have e9 := below_fact hx rfl x9
    have e10 := below_fact hx rfl c4
    go_simp
    try rfl
  go_simp
  refine hK1 _ ?_
  clear hK1 K1
  refine wpPre_e rfl rfl (fun K1 hK1 => ?_)
  apply Exists.intro
  refine And.intro (fun wx hx => ?_) ?_
  · go_simp
    try rfl
  go_simp
  refine hK1 _ ?_
  clear hK1 K1
  refine wpPre_e rfl rfl (fun K1 hK1 => ?_)
  apply Exists.intro
  refine And.intro (fun wx hx => ?_) ?_
  · go_simp
    try rfl
  go_simp
  refine hK1 _ ?_
  clear hK1 K1
  refine wpPre_e rfl rfl (fun K1 hK1 => ?_)
  apply Exists.intro
  refine And.intro (fun wx hx => ?_) ?_
  · go_simp
    try rfl
  go_simp
  refine hK1 _ ?_
  clear hK1 K1
  refine wpPre_e rfl rfl (fun K1 hK1 => ?_)
  apply Exists.intro
  refine And.intro (fun wx hx => ?_) ?_
  · have e0 := below_fact hx rfl x0
    have e1 := below_fact hx rfl x1
    have e2 := below_fact hx rfl x2
    have e3 := below_fact hx rfl x3
    have e4 := below_fact hx rfl x4
    have e5 := below_fact hx rfl x5
    have e6 := below_fact hx rfl x6
    have e7 := below_fact hx rfl x7
    have e8 := below_fact hx rfl x8
    have e9 := below_fact hx rfl x9
    have e10 := below_fact hx rfl c4
    go_simp
    try rfl
  go_simp
  refine hK1 _ ?_
  clear hK1 K1
  refine wpPre_e rfl rfl (fun K1 hK1 => ?_)
  apply Exists.intro
  refine And.intro (fun wx hx => ?_) ?_
  · go_simp
    try rfl
  go_simp
  refine hK1 _ ?_
  clear hK1 K1
  refine wpPre_nil ?_
  refine wpTr_e rfl (fun K1 hK1 => ?_)
  refine step_call rfl 11 #[.tmp 21, .tmp 26] _ rfl Try.f11 Try.func11 (by kernel_rfl) rfl #[.agg #[.int .i64 o.kind, .bool o.snd, .bool o.abs, .int .i64 o.id, .int .i64 o.task, .int .i64 o.pt.num, .slice o.pt.cl.p o.pt.cl.n o.pt.cl.c, .slice o.pt.lg.p o.pt.lg.n o.pt.lg.c, .slice o.pt.pd.p o.pt.pd.n o.pt.pd.c, .bool o.ok], .int .i64 (y.next - 1)] rfl _ HN.out (fun e w4 h4 => ?_)
  obtain ⟨rfl, hb4⟩ := h4
  refine ⟨_, rfl, ?_⟩
  have HB4 : Hid (Below W.heap.size W w4) := (Below.refl W.heap.size W).drew.trans hb4
  clear hb4
  go_simp
  refine hK1 _ _ (fun h => by cases h) ?_
  clear hK1 K1
  refine wpPre_e rfl rfl (fun K1 hK1 => ?_)
  apply Exists.intro
  refine And.intro (fun wx hx => ?_) ?_
  · go_simp
    try rfl
  go_simp
  refine hK1 _ ?_
  clear hK1 K1
  refine wpPre_nil ?_
  refine wpTr_done ?_
  have HJ4 := hid (HJW.out.below HB4.out)
  have HX4 := hid (HX.out.below HB4.out)
  clear x0 x1 x2 x3 x4 x5 x6 x7 x8 x9 c4 sl ol HN
  have x0 := HX4.out.cell 0
  have xl := HX4.out.lt
  have hbl4 := HJ4.out.r.i.box.lt
  simp at x0
  by_cases k1 : o.kind = 1
  · rw [k1] at x0
    have HTr := hid (trigger_any w4 b P HJ4.out.r.i)
    have hT12 := HJ4.out.T12
    by_cases u0 : P.under = 0
    · by_cases n9 : 9999 < P.next
      · skip
        have HE : Hid (P.trigE = 142) := by unfold Hid Ps.trigE; rw [if_neg (by rw [u0]; simp), if_pos n9]
        have HA := hid (And.intro u0 n9)
        clear u0 n9
        go_wp2_with fail
        refine HTr.out.mono ?_
        rintro e w5 ⟨P5, hQ⟩
        have hs := hQ.s
        obtain ⟨rfl, rfl⟩ := hQ.n (by rw [HE.out]; omega)
        have HJ5 := hid (HJ4.out.stay (hs.qs HJ4.out.r.i HJ4.out.r.inb rfl rfl))
        rw [HE.out]
        have HSt := hid (strig_over y sb (T : Int) w5 HJ5.out.box (by rw [HJ5.out.id, HA.out.1]; omega) (by rw [HJ5.out.nx]; exact HA.out.2))
        clear hQ hs HTr
        go_wp2_with fail
        refine HSt.out.mono ?_
        rintro e w6 ⟨rfl, rfl⟩
        clear HSt
        go_wp2
        exact bodyPost_ret (v := .bool true) (by simp [results, Try.results20, go_sem]) rfl ⟨hb, P5, ts, num, y, rfl, HJ5.out, by omega⟩
      · skip
        have HE : Hid (P.trigE = 0) := by unfold Hid Ps.trigE; rw [if_neg (by rw [u0]; simp), if_neg n9]
        have HA := hid (And.intro u0 n9)
        have hnx := hid HJ4.out.nx
        have hf0 := HJ4.out.r.i.f0
        have hnx0 : 0 ≤ y.next := by rw [HJ4.out.nx]; unfold Ps.next; omega
        clear u0 n9
        go_wp2_with fail
        refine HTr.out.mono ?_
        rintro e w5 ⟨P5, hQ⟩
        have hs := hQ.s
        obtain ⟨rfl, p5, c5, rfl⟩ := hQ.y HE.out
        have HS := hid hs
        have HSt := hid (strig_yes y sb T hT12.2 w5 (HJ4.out.keptP (hs.qs HJ4.out.r.i HJ4.out.r.inb rfl rfl)).1 (by rw [HJ4.out.id, HA.out.1]; omega) (by rw [HJ4.out.nx]; have := HA.out.2; omega) hnx0)
        rw [← hnx.out]
        clear hQ hs HTr
        go_wp2_with fail
        refine HSt.out.mono ?_
        rintro e w6 ⟨rfl, hg, M, hM, hMs, hMv⟩
        have HJ6 := hid (HJ4.out.trig HS.out HA.out.1 hg hM hMs hMv)
        clear hg hM hMs hMv HSt
        go_wp2
        exact bodyPost_ret (v := .bool true) (by simp [results, Try.results20, go_sem]) rfl ⟨_, P.push p5 c5 1, [], num, _, rfl, HJ6.out, by show y.marks ≤ y.marks + 1; omega⟩
    · skip
      have HE : Hid (P.trigE = 141) := by unfold Hid Ps.trigE; rw [if_pos u0]
      have hpos : 0 < y.id := by rw [HJ4.out.id]; exact Ps.under_pos HJ4.out.r.i u0
      clear u0
      go_wp2_with fail
      refine HTr.out.mono ?_
      rintro e w5 ⟨P5, hQ⟩
      have hs := hQ.s
      obtain ⟨rfl, rfl⟩ := hQ.n (by rw [HE.out]; omega)
      have HJ5 := hid (HJ4.out.stay (hs.qs HJ4.out.r.i HJ4.out.r.inb rfl rfl))
      rw [HE.out]
      have HSt := hid (strig_under y sb (T : Int) w5 HJ5.out.box hpos)
      clear hQ hs HTr
      go_wp2_with fail
      refine HSt.out.mono ?_
      rintro e w6 ⟨rfl, rfl⟩
      clear HSt
      go_wp2
      exact bodyPost_ret (v := .bool true) (by simp [results, Try.results20, go_sem]) rfl ⟨hb, P5, ts, num, y, rfl, HJ5.out, by omega⟩
  have k1' : (o.kind == 1) = false := by simp [k1]
  by_cases k2 : o.kind = 2
  · rw [k2] at x0
    clear k1 k1'
    have hmk := HJ0.out.mks
    have c5 := HJ4.out.box.cell 5
    have f5 := HJ4.out.box.frozen 5
    have sl := HJ4.out.box.lt
    simp [Sy.arr] at c5
    have hw5 : IntKind.i64.wrap (y.marks + 1) = y.marks + 1 := by rw [IntKind.wrap_i64]; omega
    have HPt : Hid (∀ X, Calls Try.prog 18 #[.int .i64 (y.marks + 1)] X fun e w' => PtNew (y.marks + 1) X e w') := fun X => part_any _ (by omega) X
    obtain ⟨w5, hw5'⟩ : ∃ V, V = w4.setCell ⟨sb, 5, none⟩ (.int .i64 (y.marks + 1)) := ⟨_, rfl⟩
    have HJ5 : Hid (SJ w0 w5 b sb hb P ts num T sum { y with marks := y.marks + 1 }) := by unfold Hid; rw [hw5']; exact HJ4.out.mark
    have HX5 : Hid (Box w5 w.heap.size #[.int .i64 o.kind, .bool o.snd, .bool o.abs, .int .i64 o.id, .int .i64 o.task, .int .i64 o.pt.num, .slice o.pt.cl.p o.pt.cl.n o.pt.cl.c, .slice o.pt.lg.p o.pt.lg.n o.pt.lg.c, .slice o.pt.pd.p o.pt.pd.n o.pt.pd.c, .bool o.ok] 41) := by
      unfold Hid
      rw [hw5']
      exact HX4.out.kept (((But.one w4 sb).setAt 5 _).block _ HX4.out.lt HNe.out)
    have HW5 := hid hw5'
    clear hw5'
    go_upto_region 8 with fail
    rw [← HW5.out]
    clear c5 f5 sl x0 hbl4 xl
    have c5 := HJ5.out.box.cell 5
    have sl := HJ5.out.box.lt
    have x4 := HX5.out.cell 4
    have ol := HX5.out.lt
    simp [Sy.arr] at c5 x4
    refine wp_region_calmE 30 (fun wx => Below w5.heap.size w5 wx) [(0, true), (1, true), (2, true), (3, false), (4, true), (5, true), (6, true), (7, false)] (.one 8 true [] (.one 9 false [(10, true)] .done)) (by kernel_rfl) (by kernel_rfl) (Below.refl _ _).drew ?_
    refine wpPre_e rfl rfl (fun K1 hK1 => ?_)
    apply Exists.intro
    refine And.intro (fun wx hx => ?_) ?_
    · go_simp
      try rfl
    go_simp
    refine hK1 _ ?_
    clear hK1 K1
    refine wpPre_e rfl rfl (fun K1 hK1 => ?_)
    apply Exists.intro
    refine And.intro (fun wx hx => ?_) ?_
    · go_simp
      try rfl
    go_simp
    refine hK1 _ ?_
    clear hK1 K1
    refine wpPre_e rfl rfl (fun K1 hK1 => ?_)
    apply Exists.intro
    refine And.intro (fun wx hx => ?_) ?_
    · go_simp
      try rfl
    go_simp
    refine hK1 _ ?_
    clear hK1 K1
    refine wpPre_e rfl rfl (fun K1 hK1 => ?_)
    apply Exists.intro
    refine And.intro (fun wx hx => ?_) ?_
    · have e0 := below_fact hx rfl x4
      have e1 := below_fact hx rfl c5
      go_simp
      try rfl
    go_simp
    refine hK1 _ ?_
    clear hK1 K1
    refine wpPre_e rfl rfl (fun K1 hK1 => ?_)
    apply Exists.intro
    refine And.intro (fun wx hx => ?_) ?_
    · go_simp
      try rfl
    go_simp
    refine hK1 _ ?_
    clear hK1 K1
    refine wpPre_e rfl rfl (fun K1 hK1 => ?_)
    apply Exists.intro
    refine And.intro (fun wx hx => ?_) ?_
    · go_simp
      try rfl
    go_simp
    refine hK1 _ ?_
    clear hK1 K1
    refine wpPre_e rfl rfl (fun K1 hK1 => ?_)
    apply Exists.intro
    refine And.intro (fun wx hx => ?_) ?_
    · go_simp
      try rfl
    go_simp
    refine hK1 _ ?_
    clear hK1 K1
    refine wpPre_e rfl rfl (fun K1 hK1 => ?_)
    apply Exists.intro
    refine And.intro (fun wx hx => ?_) ?_
    · have e0 := below_fact hx rfl x4
      have e1 := below_fact hx rfl c5
      go_simp
      try rfl
    go_simp
    refine hK1 _ ?_
    clear hK1 K1
    refine wpPre_nil ?_
    refine wpTr_e rfl (fun K1 hK1 => ?_)
    refine step_call rfl 18 #[.tmp 58] _ rfl Try.f18 Try.func18 (by kernel_rfl) rfl #[.int .i64 (y.marks + 1)] rfl _ (HPt.out _) (fun e w6 h6 => ?_)
    obtain ⟨x6, rfl, hx6, hsz6, hin6, hb6⟩ := h6
    refine ⟨_, rfl, ?_⟩
    have HB6 : Hid (Below w5.heap.size w5 w6) := (Below.refl w5.heap.size w5).drew.trans hb6
    have HJ6 := hid (HJ5.out.below HB6.out)
    have HX6 := hid hx6
    have HH := hid (hand_any id o.task x6 _ (lets ts) w6 b P HJ6.out.r.i HJ6.out.r.inb hin6 hsz6 (fun h => HJ6.out.r.inv.room h))
    clear hb6 hx6 hsz6 hin6
    go_simp
    refine hK1 _ _ (fun _ => HB6.out) ?_
    clear hK1 K1
    refine wpPre_nil ?_
    refine wpTr_e rfl (fun K1 hK1 => ?_)
    refine step_call rfl 13 #[.tmp 51, .tmp 52, .tmp 54, .tmp 59] _ rfl Try.f13 Try.func13 (by kernel_rfl) rfl #[.pointer (some ⟨b, 0, none⟩), .int .i64 id, .int .i64 o.task, .agg #[.int .i64 x6.num, .slice x6.cl.p x6.cl.n x6.cl.c, .slice x6.lg.p x6.lg.n x6.lg.c, .slice x6.pd.p x6.pd.n x6.pd.c]] rfl _ HH.out (fun e w7 h7 => ?_)
    obtain ⟨P7, L7, hQ⟩ := h7
    obtain rfl := hQ.r
    have HQ := hid hQ
    refine ⟨_, rfl, ?_⟩
    clear hQ HH
    go_simp
    refine hK1 _ _ (fun h => by cases h) ?_
    clear hK1 K1
    refine wpPre_e rfl rfl (fun K1 hK1 => ?_)
    apply Exists.intro
    refine And.intro (fun wx hx => ?_) ?_
    · go_simp
      try rfl
    go_simp
    refine hK1 _ ?_
    clear hK1 K1
    refine wpPre_nil ?_
    refine wpTr_done ?_
    have HXo := hid (HX5.out.below HB6.out)
    have HXn : Hid (¬ (P.C b w.heap.size ∨ w.heap.size = P.ch)) := fun e => by
      rcases e with e | e
      · have := HJ0.out.r.i.lt e; omega
      · have := HJ0.out.r.inb.lt; omega
    clear x4 c5 sl ol HB6 HX5 HJ5
    by_cases t0 : o.task < 0
    · skip
      have t0' : ¬ (0 : Int) ≤ o.task := by omega
      have HR : Hid (P.refE id o.task = 144) := by
        unfold Hid Ps.refE
        rw [if_pos (.inl t0)]
      have hs := HQ.out.s
      obtain ⟨rfl, rfl⟩ := HQ.out.n (by rw [HR.out]; omega)
      have HJ7 := hid (HJ6.out.stay hs)
      have hX7 := HXo.out.kept (hs.but.block _ HXo.out.lt HXn.out)
      have x4 := hX7.cell 4
      have ol := hX7.lt
      have c0 := HJ7.out.box.cell 0
      have c1 := HJ7.out.box.cell 1
      have sl := HJ7.out.box.lt
      simp [Sy.arr] at x4 c0 c1
      have m0 := trivial
      rw [HR.out]
      clear hs hX7 t0 m0
      go_wp2_with fail
      have t0q : ¬ (0 : Int) ≤ o.task := by omega
      refine wp_region_calmD 30 (fun wx => Below w7.heap.size w7 wx) [(0, true), (1, false), (2, true), (3, true), (4, true), (5, false), (6, true), (7, true), (8, true), (9, true), (10, true), (11, true), (12, true), (13, false), (14, true), (15, true), (16, true), (17, true), (18, true), (19, true), (20, true), (21, false), (22, true), (23, true), (24, true), (25, true), (26, true), (27, true), (28, false), (29, true), (30, false), (31, true), (32, false), (33, true), (34, true), (35, true)] [] (by kernel_rfl) (by kernel_rfl) (Below.refl _ _).drew ?_
      refine wpPre_e rfl rfl (fun K1 hK1 => ?_)
      apply Exists.intro
      refine And.intro (fun wx hx => ?_) ?_
      · go_simp
        try rfl
      go_simp
      refine hK1 _ ?_
      clear hK1 K1
      refine wpPre_e rfl rfl (fun K1 hK1 => ?_)
      apply Exists.intro
      refine And.intro (fun wx hx => ?_) ?_
      · have e0 := below_fact hx rfl x4
        have e1 := below_fact hx rfl c0
        go_simp
        try rfl
      go_simp
      refine hK1 _ ?_
      clear hK1 K1
      refine wpPre_e rfl rfl (fun K1 hK1 => ?_)
      apply Exists.intro
      refine And.intro (fun wx hx => ?_) ?_
      · go_simp
        try rfl
      go_simp
      refine hK1 _ ?_
      clear hK1 K1
      refine wpPre_e rfl rfl (fun K1 hK1 => ?_)
      apply Exists.intro
      refine And.intro (fun wx hx => ?_) ?_
      · go_simp
        try rfl
      go_simp
      refine hK1 _ ?_
      clear hK1 K1
      refine wpPre_i rfl (fun K1 hK1 => ?_)
      rw [if_neg (by go_simp; all_goals (intro h; cases h))]
      go_simp
      refine hK1 _ ?_
      clear hK1 K1
      refine wpPre_i rfl (fun K1 hK1 => ?_)
      rw [if_neg (by go_simp; all_goals (intro h; cases h))]
      go_simp
      refine hK1 _ ?_
      clear hK1 K1
      refine wpPre_i rfl (fun K1 hK1 => ?_)
      rw [if_neg (by go_simp; all_goals (intro h; cases h))]
      go_simp
      refine hK1 _ ?_
      clear hK1 K1
      refine wpPre_i rfl (fun K1 hK1 => ?_)
      rw [if_neg (by go_simp; all_goals (intro h; cases h))]
      go_simp
      refine hK1 _ ?_
      clear hK1 K1
      refine wpPre_e rfl rfl (fun K1 hK1 => ?_)
      apply Exists.intro
      refine And.intro (fun wx hx => ?_) ?_
      · go_simp
        try rfl
      go_simp
      refine hK1 _ ?_
      clear hK1 K1
      refine wpPre_e rfl rfl (fun K1 hK1 => ?_)
      apply Exists.intro
      refine And.intro (fun wx hx => ?_) ?_
      · go_simp
        try rfl
      go_simp
      refine hK1 _ ?_
      clear hK1 K1
      refine wpPre_i rfl (fun K1 hK1 => ?_)
      rw [if_neg (by go_simp; all_goals (intro h; cases h))]
      go_simp
      refine hK1 _ ?_
      clear hK1 K1
      refine wpPre_i rfl (fun K1 hK1 => ?_)
      rw [if_neg (by go_simp; all_goals (intro h; cases h))]
      go_simp
      refine hK1 _ ?_
      clear hK1 K1
      refine wpPre_i rfl (fun K1 hK1 => ?_)
      rw [if_neg (by go_simp; all_goals (intro h; cases h))]
      go_simp
      refine hK1 _ ?_
      clear hK1 K1
      refine wpPre_i rfl (fun K1 hK1 => ?_)
      rw [if_neg (by go_simp; all_goals (intro h; cases h))]
      go_simp
      refine hK1 _ ?_
      clear hK1 K1
      refine wpPre_i rfl (fun K1 hK1 => ?_)
      rw [if_neg (by go_simp; all_goals (intro h; cases h))]
      go_simp
      refine hK1 _ ?_
      clear hK1 K1
      refine wpPre_e rfl rfl (fun K1 hK1 => ?_)
      apply Exists.intro
      refine And.intro (fun wx hx => ?_) ?_
      · go_simp
        try rfl
      go_simp
      refine hK1 _ ?_
      clear hK1 K1
      refine wpPre_e rfl rfl (fun K1 hK1 => ?_)
      apply Exists.intro
      refine And.intro (fun wx hx => ?_) ?_
      · go_simp
        try rfl
      go_simp
      refine hK1 _ ?_
      clear hK1 K1
      refine wpPre_i rfl (fun K1 hK1 => ?_)
      rw [if_neg (by go_simp; all_goals (intro h; cases h))]
      go_simp
      refine hK1 _ ?_
      clear hK1 K1
      refine wpPre_i rfl (fun K1 hK1 => ?_)
      rw [if_neg (by go_simp; all_goals (intro h; cases h))]
      go_simp
      refine hK1 _ ?_
      clear hK1 K1
      refine wpPre_i rfl (fun K1 hK1 => ?_)
      rw [if_neg (by go_simp; all_goals (intro h; cases h))]
      go_simp
      refine hK1 _ ?_
      clear hK1 K1
      refine wpPre_i rfl (fun K1 hK1 => ?_)
      rw [if_neg (by go_simp; all_goals (intro h; cases h))]
      go_simp
      refine hK1 _ ?_
      clear hK1 K1
      refine wpPre_i rfl (fun K1 hK1 => ?_)
      rw [if_neg (by go_simp; all_goals (intro h; cases h))]
      go_simp
      refine hK1 _ ?_
      clear hK1 K1
      refine wpPre_i rfl (fun K1 hK1 => ?_)
      rw [if_neg (by go_simp; all_goals (intro h; cases h))]
      go_simp
      refine hK1 _ ?_
      clear hK1 K1
      refine wpPre_e rfl rfl (fun K1 hK1 => ?_)
      apply Exists.intro
      refine And.intro (fun wx hx => ?_) ?_
      · go_simp
        try rfl
      go_simp
      refine hK1 _ ?_
      clear hK1 K1
      refine wpPre_e rfl rfl (fun K1 hK1 => ?_)
      apply Exists.intro
      refine And.intro (fun wx hx => ?_) ?_
      · go_simp
        try rfl
      go_simp
      refine hK1 _ ?_
      clear hK1 K1
      refine wpPre_i rfl (fun K1 hK1 => ?_)
      rw [if_neg (by go_simp; all_goals (intro h; cases h))]
      go_simp
      refine hK1 _ ?_
      clear hK1 K1
      refine wpPre_i rfl (fun K1 hK1 => ?_)
      rw [if_neg (by go_simp; all_goals (intro h; cases h))]
      go_simp
      refine hK1 _ ?_
      clear hK1 K1
      refine wpPre_i rfl (fun K1 hK1 => ?_)
      rw [if_neg (by go_simp; all_goals (intro h; cases h))]
      go_simp
      refine hK1 _ ?_
      clear hK1 K1
      refine wpPre_i rfl (fun K1 hK1 => ?_)
      rw [if_neg (by go_simp; all_goals (intro h; cases h))]
      go_simp
      refine hK1 _ ?_
      clear hK1 K1
      refine wpPre_i rfl (fun K1 hK1 => ?_)
      rw [if_neg (by go_simp; all_goals (intro h; cases h))]
      go_simp
      refine hK1 _ ?_
      clear hK1 K1
      refine wpPre_i rfl (fun K1 hK1 => ?_)
      rw [if_neg (by go_simp; all_goals (intro h; cases h))]
      go_simp
      refine hK1 _ ?_
      clear hK1 K1
      refine wpPre_i rfl (fun K1 hK1 => ?_)
      rw [if_neg (by go_simp; all_goals (intro h; cases h))]
      go_simp
      refine hK1 _ ?_
      clear hK1 K1
      refine wpPre_i rfl (fun K1 hK1 => ?_)
      rw [if_neg (by go_simp; all_goals (intro h; cases h))]
      go_simp
      refine hK1 _ ?_
      clear hK1 K1
      refine wpPre_i rfl (fun K1 hK1 => ?_)
      rw [if_neg (by go_simp; all_goals (intro h; cases h))]
      go_simp
      refine hK1 _ ?_
      clear hK1 K1
      refine wpPre_e rfl rfl (fun K1 hK1 => ?_)
      apply Exists.intro
      refine And.intro (fun wx hx => ?_) ?_
      · go_simp
        try rfl
      go_simp
      refine hK1 _ ?_
      clear hK1 K1
      refine wpPre_e rfl rfl (fun K1 hK1 => ?_)
      apply Exists.intro
      refine And.intro (fun wx hx => ?_) ?_
      · go_simp
        try rfl
      go_simp
      refine hK1 _ ?_
      clear hK1 K1
      refine wpPre_nil ?_
      refine wpStg_nil ?_
      go_wp2
      refine bodyPost_ret (v := .bool true) (by simp [results, Try.results20, go_sem]) rfl ⟨hb, P7, ts, num, { y with marks := y.marks + 1 }, rfl, HJ7.out.below (Below.refl _ _).drew, Int.le_refl _⟩
    by_cases t1 : (T : Int) ≤ o.task
    · skip
      have t0' : (0 : Int) ≤ o.task := by omega
      have t1' : ¬ o.task < (T : Int) := by omega
      have HR : Hid (P.refE id o.task = 144) := by
        unfold Hid Ps.refE
        rw [if_pos (.inr (by rw [HJ6.out.t]; exact t1))]
      have hs := HQ.out.s
      obtain ⟨rfl, rfl⟩ := HQ.out.n (by rw [HR.out]; omega)
      have HJ7 := hid (HJ6.out.stay hs)
      have hX7 := HXo.out.kept (hs.but.block _ HXo.out.lt HXn.out)
      have x4 := hX7.cell 4
      have ol := hX7.lt
      have c0 := HJ7.out.box.cell 0
      have c1 := HJ7.out.box.cell 1
      have sl := HJ7.out.box.lt
      simp [Sy.arr] at x4 c0 c1
      have m0 := trivial
      rw [HR.out]
      clear hs hX7 t0 t1 m0
      go_wp2_with fail
      have t1q : ¬ o.task < (T : Int) := by omega
      refine wp_region_calmD 30 (fun wx => Below w7.heap.size w7 wx) [(0, true), (1, false), (2, true), (3, true), (4, true), (5, false), (6, true), (7, true), (8, true), (9, true), (10, true), (11, true), (12, true), (13, false), (14, true), (15, true), (16, true), (17, true), (18, true), (19, true), (20, true), (21, false), (22, true), (23, true), (24, true), (25, true), (26, true), (27, true), (28, false), (29, true), (30, false), (31, true), (32, false), (33, true), (34, true), (35, true)] [] (by kernel_rfl) (by kernel_rfl) (Below.refl _ _).drew ?_
      refine wpPre_e rfl rfl (fun K1 hK1 => ?_)
      apply Exists.intro
      refine And.intro (fun wx hx => ?_) ?_
      · go_simp
        try rfl
      go_simp
      refine hK1 _ ?_
      clear hK1 K1
      refine wpPre_e rfl rfl (fun K1 hK1 => ?_)
      apply Exists.intro
      refine And.intro (fun wx hx => ?_) ?_
      · have e0 := below_fact hx rfl x4
        have e1 := below_fact hx rfl c0
        go_simp
        try rfl
      go_simp
      refine hK1 _ ?_
      clear hK1 K1
      refine wpPre_e rfl rfl (fun K1 hK1 => ?_)
      apply Exists.intro
      refine And.intro (fun wx hx => ?_) ?_
      · go_simp
        try rfl
      go_simp
      refine hK1 _ ?_
      clear hK1 K1
      refine wpPre_e rfl rfl (fun K1 hK1 => ?_)
      apply Exists.intro
      refine And.intro (fun wx hx => ?_) ?_
      · go_simp
        try rfl
      go_simp
      refine hK1 _ ?_
      clear hK1 K1
      refine wpPre_i rfl (fun K1 hK1 => ?_)
      rw [if_pos (by go_simp)]
      apply Exists.intro
      refine And.intro (fun wx hx => ?_) ?_
      · go_simp
        try rfl
      go_simp
      refine hK1 _ ?_
      clear hK1 K1
      refine wpPre_i rfl (fun K1 hK1 => ?_)
      rw [if_pos (by go_simp)]
      apply Exists.intro
      refine And.intro (fun wx hx => ?_) ?_
      · have e0 := below_fact hx rfl x4
        have e1 := below_fact hx rfl c0
        go_simp
        try rfl
      go_simp
      refine hK1 _ ?_
      clear hK1 K1
      refine wpPre_i rfl (fun K1 hK1 => ?_)
      rw [if_pos (by go_simp)]
      apply Exists.intro
      refine And.intro (fun wx hx => ?_) ?_
      · go_simp
        try rfl
      go_simp
      refine hK1 _ ?_
      clear hK1 K1
      refine wpPre_i rfl (fun K1 hK1 => ?_)
      rw [if_pos (by go_simp)]
      apply Exists.intro
      refine And.intro (fun wx hx => ?_) ?_
      · go_simp
        try rfl
      go_simp
      refine hK1 _ ?_
      clear hK1 K1
      refine wpPre_e rfl rfl (fun K1 hK1 => ?_)
      apply Exists.intro
      refine And.intro (fun wx hx => ?_) ?_
      · go_simp
        try rfl
      go_simp
      refine hK1 _ ?_
      clear hK1 K1
      refine wpPre_e rfl rfl (fun K1 hK1 => ?_)
      apply Exists.intro
      refine And.intro (fun wx hx => ?_) ?_
      · go_simp
        try rfl
      go_simp
      refine hK1 _ ?_
      clear hK1 K1
      refine wpPre_i rfl (fun K1 hK1 => ?_)
      rw [if_neg (by go_simp; all_goals (intro h; cases h))]
      go_simp
      refine hK1 _ ?_
      clear hK1 K1
      refine wpPre_i rfl (fun K1 hK1 => ?_)
      rw [if_neg (by go_simp; all_goals (intro h; cases h))]
      go_simp
      refine hK1 _ ?_
      clear hK1 K1
      refine wpPre_i rfl (fun K1 hK1 => ?_)
      rw [if_neg (by go_simp; all_goals (intro h; cases h))]
      go_simp
      refine hK1 _ ?_
      clear hK1 K1
      refine wpPre_i rfl (fun K1 hK1 => ?_)
      rw [if_neg (by go_simp; all_goals (intro h; cases h))]
      go_simp
      refine hK1 _ ?_
      clear hK1 K1
      refine wpPre_i rfl (fun K1 hK1 => ?_)
      rw [if_neg (by go_simp; all_goals (intro h; cases h))]
      go_simp
      refine hK1 _ ?_
      clear hK1 K1
      refine wpPre_e rfl rfl (fun K1 hK1 => ?_)
      apply Exists.intro
      refine And.intro (fun wx hx => ?_) ?_
      · go_simp
        try rfl
      go_simp
      refine hK1 _ ?_
      clear hK1 K1
      refine wpPre_e rfl rfl (fun K1 hK1 => ?_)
      apply Exists.intro
      refine And.intro (fun wx hx => ?_) ?_
      · go_simp
        try rfl
      go_simp
      refine hK1 _ ?_
      clear hK1 K1
      refine wpPre_i rfl (fun K1 hK1 => ?_)
      rw [if_neg (by go_simp; all_goals (intro h; cases h))]
      go_simp
      refine hK1 _ ?_
      clear hK1 K1
      refine wpPre_i rfl (fun K1 hK1 => ?_)
      rw [if_neg (by go_simp; all_goals (intro h; cases h))]
      go_simp
      refine hK1 _ ?_
      clear hK1 K1
      refine wpPre_i rfl (fun K1 hK1 => ?_)
      rw [if_neg (by go_simp; all_goals (intro h; cases h))]
      go_simp
      refine hK1 _ ?_
      clear hK1 K1
      refine wpPre_i rfl (fun K1 hK1 => ?_)
      rw [if_neg (by go_simp; all_goals (intro h; cases h))]
      go_simp
      refine hK1 _ ?_
      clear hK1 K1
      refine wpPre_i rfl (fun K1 hK1 => ?_)
      rw [if_neg (by go_simp; all_goals (intro h; cases h))]
      go_simp
      refine hK1 _ ?_
      clear hK1 K1
      refine wpPre_i rfl (fun K1 hK1 => ?_)
      rw [if_neg (by go_simp; all_goals (intro h; cases h))]
      go_simp
      refine hK1 _ ?_
      clear hK1 K1
      refine wpPre_e rfl rfl (fun K1 hK1 => ?_)
      apply Exists.intro
      refine And.intro (fun wx hx => ?_) ?_
      · go_simp
        try rfl
      go_simp
      refine hK1 _ ?_
      clear hK1 K1
      refine wpPre_e rfl rfl (fun K1 hK1 => ?_)
      apply Exists.intro
      refine And.intro (fun wx hx => ?_) ?_
      · go_simp
        try rfl
      go_simp
      refine hK1 _ ?_
      clear hK1 K1
      refine wpPre_i rfl (fun K1 hK1 => ?_)
      rw [if_neg (by go_simp; all_goals (intro h; cases h))]
      go_simp
      refine hK1 _ ?_
      clear hK1 K1
      refine wpPre_i rfl (fun K1 hK1 => ?_)
      rw [if_neg (by go_simp; all_goals (intro h; cases h))]
      go_simp
      refine hK1 _ ?_
      clear hK1 K1
      refine wpPre_i rfl (fun K1 hK1 => ?_)
      rw [if_neg (by go_simp; all_goals (intro h; cases h))]
      go_simp
      refine hK1 _ ?_
      clear hK1 K1
      refine wpPre_i rfl (fun K1 hK1 => ?_)
      rw [if_neg (by go_simp; all_goals (intro h; cases h))]
      go_simp
      refine hK1 _ ?_
      clear hK1 K1
      refine wpPre_i rfl (fun K1 hK1 => ?_)
      rw [if_neg (by go_simp; all_goals (intro h; cases h))]
      go_simp
      refine hK1 _ ?_
      clear hK1 K1
      refine wpPre_i rfl (fun K1 hK1 => ?_)
      rw [if_neg (by go_simp; all_goals (intro h; cases h))]
      go_simp
      refine hK1 _ ?_
      clear hK1 K1
      refine wpPre_i rfl (fun K1 hK1 => ?_)
      rw [if_neg (by go_simp; all_goals (intro h; cases h))]
      go_simp
      refine hK1 _ ?_
      clear hK1 K1
      refine wpPre_i rfl (fun K1 hK1 => ?_)
      rw [if_neg (by go_simp; all_goals (intro h; cases h))]
      go_simp
      refine hK1 _ ?_
      clear hK1 K1
      refine wpPre_i rfl (fun K1 hK1 => ?_)
      rw [if_neg (by go_simp; all_goals (intro h; cases h))]
      go_simp
      refine hK1 _ ?_
      clear hK1 K1
      refine wpPre_e rfl rfl (fun K1 hK1 => ?_)
      apply Exists.intro
      refine And.intro (fun wx hx => ?_) ?_
      · go_simp
        try rfl
      go_simp
      refine hK1 _ ?_
      clear hK1 K1
      refine wpPre_e rfl rfl (fun K1 hK1 => ?_)
      apply Exists.intro
      refine And.intro (fun wx hx => ?_) ?_
      · go_simp
        try rfl
      go_simp
      refine hK1 _ ?_
      clear hK1 K1
      refine wpPre_nil ?_
      refine wpStg_nil ?_
      go_wp2
      refine bodyPost_ret (v := .bool true) (by simp [results, Try.results20, go_sem]) rfl ⟨hb, P7, ts, num, { y with marks := y.marks + 1 }, rfl, HJ7.out.below (Below.refl _ _).drew, Int.le_refl _⟩
    have t0' : (0 : Int) ≤ o.task := by omega
    have t1' : o.task < (T : Int) := by omega
    by_cases u0 : P.under = 0
    · skip
      have HR : Hid (P.refE id o.task = 143) := by
        unfold Hid Ps.refE
        rw [if_neg (by rw [HJ6.out.t]; omega), if_pos (.inl u0)]
      have hs := HQ.out.s
      obtain ⟨rfl, rfl⟩ := HQ.out.n (by rw [HR.out]; omega)
      have HJ7 := hid (HJ6.out.stay hs)
      have hX7 := HXo.out.kept (hs.but.block _ HXo.out.lt HXn.out)
      have x4 := hX7.cell 4
      have ol := hX7.lt
      have c0 := HJ7.out.box.cell 0
      have c1 := HJ7.out.box.cell 1
      have sl := HJ7.out.box.lt
      simp [Sy.arr] at x4 c0 c1
      rw [show y.id = 0 from HJ0.out.id.trans u0] at c0
      rw [HR.out]
      clear hs hX7 t0 t1 u0
      go_wp2_with fail
      refine wp_region_calmD 30 (fun wx => Below w7.heap.size w7 wx) [(0, true), (1, false), (2, true), (3, true), (4, true), (5, false), (6, true), (7, true), (8, true), (9, true), (10, true), (11, true), (12, true), (13, false), (14, true), (15, true), (16, true), (17, true), (18, true), (19, true), (20, true), (21, false), (22, true), (23, true), (24, true), (25, true), (26, true), (27, true), (28, false), (29, true), (30, false), (31, true), (32, false), (33, true), (34, true), (35, true)] [] (by kernel_rfl) (by kernel_rfl) (Below.refl _ _).drew ?_
      refine wpPre_e rfl rfl (fun K1 hK1 => ?_)
      apply Exists.intro
      refine And.intro (fun wx hx => ?_) ?_
      · go_simp
        try rfl
      go_simp
      refine hK1 _ ?_
      clear hK1 K1
      refine wpPre_e rfl rfl (fun K1 hK1 => ?_)
      apply Exists.intro
      refine And.intro (fun wx hx => ?_) ?_
      · have e0 := below_fact hx rfl x4
        have e1 := below_fact hx rfl c0
        go_simp
        try rfl
      go_simp
      refine hK1 _ ?_
      clear hK1 K1
      refine wpPre_e rfl rfl (fun K1 hK1 => ?_)
      apply Exists.intro
      refine And.intro (fun wx hx => ?_) ?_
      · go_simp
        try rfl
      go_simp
      refine hK1 _ ?_
      clear hK1 K1
      refine wpPre_e rfl rfl (fun K1 hK1 => ?_)
      apply Exists.intro
      refine And.intro (fun wx hx => ?_) ?_
      · go_simp
        try rfl
      go_simp
      refine hK1 _ ?_
      clear hK1 K1
      refine wpPre_i rfl (fun K1 hK1 => ?_)
      rw [if_pos (by go_simp)]
      apply Exists.intro
      refine And.intro (fun wx hx => ?_) ?_
      · go_simp
        try rfl
      go_simp
      refine hK1 _ ?_
      clear hK1 K1
      refine wpPre_i rfl (fun K1 hK1 => ?_)
      rw [if_pos (by go_simp)]
      apply Exists.intro
      refine And.intro (fun wx hx => ?_) ?_
      · have e0 := below_fact hx rfl x4
        have e1 := below_fact hx rfl c0
        go_simp
        try rfl
      go_simp
      refine hK1 _ ?_
      clear hK1 K1
      refine wpPre_i rfl (fun K1 hK1 => ?_)
      rw [if_pos (by go_simp)]
      apply Exists.intro
      refine And.intro (fun wx hx => ?_) ?_
      · go_simp
        try rfl
      go_simp
      refine hK1 _ ?_
      clear hK1 K1
      refine wpPre_i rfl (fun K1 hK1 => ?_)
      rw [if_pos (by go_simp)]
      apply Exists.intro
      refine And.intro (fun wx hx => ?_) ?_
      · go_simp
        try rfl
      go_simp
      refine hK1 _ ?_
      clear hK1 K1
      refine wpPre_e rfl rfl (fun K1 hK1 => ?_)
      apply Exists.intro
      refine And.intro (fun wx hx => ?_) ?_
      · go_simp
        try rfl
      go_simp
      refine hK1 _ ?_
      clear hK1 K1
      refine wpPre_e rfl rfl (fun K1 hK1 => ?_)
      apply Exists.intro
      refine And.intro (fun wx hx => ?_) ?_
      · go_simp
        try rfl
      go_simp
      refine hK1 _ ?_
      clear hK1 K1
      refine wpPre_i rfl (fun K1 hK1 => ?_)
      rw [if_pos (by go_simp)]
      apply Exists.intro
      refine And.intro (fun wx hx => ?_) ?_
      · go_simp
        try rfl
      go_simp
      refine hK1 _ ?_
      clear hK1 K1
      refine wpPre_i rfl (fun K1 hK1 => ?_)
      rw [if_pos (by go_simp)]
      apply Exists.intro
      refine And.intro (fun wx hx => ?_) ?_
      · go_simp
        try rfl
      go_simp
      refine hK1 _ ?_
      clear hK1 K1
      refine wpPre_i rfl (fun K1 hK1 => ?_)
      rw [if_pos (by go_simp)]
      apply Exists.intro
      refine And.intro (fun wx hx => ?_) ?_
      · go_simp
        try rfl
      go_simp
      refine hK1 _ ?_
      clear hK1 K1
      refine wpPre_i rfl (fun K1 hK1 => ?_)
      rw [if_pos (by go_simp)]
      apply Exists.intro
      refine And.intro (fun wx hx => ?_) ?_
      · have e0 := below_fact hx rfl x4
        have e1 := below_fact hx rfl c0
        go_simp
        try rfl
      go_simp
      refine hK1 _ ?_
      clear hK1 K1
      refine wpPre_i rfl (fun K1 hK1 => ?_)
      rw [if_pos (by go_simp)]
      apply Exists.intro
      refine And.intro (fun wx hx => ?_) ?_
      · go_simp
        try rfl
      go_simp
      refine hK1 _ ?_
      clear hK1 K1
      refine wpPre_e rfl rfl (fun K1 hK1 => ?_)
      apply Exists.intro
      refine And.intro (fun wx hx => ?_) ?_
      · go_simp
        try rfl
      go_simp
      refine hK1 _ ?_
      clear hK1 K1
      refine wpPre_e rfl rfl (fun K1 hK1 => ?_)
      apply Exists.intro
      refine And.intro (fun wx hx => ?_) ?_
      · go_simp
        try rfl
      go_simp
      refine hK1 _ ?_
      clear hK1 K1
      refine wpPre_i rfl (fun K1 hK1 => ?_)
      rw [if_neg (by go_simp; all_goals (intro h; cases h))]
      go_simp
      refine hK1 _ ?_
      clear hK1 K1
      refine wpPre_i rfl (fun K1 hK1 => ?_)
      rw [if_neg (by go_simp; all_goals (intro h; cases h))]
      go_simp
      refine hK1 _ ?_
      clear hK1 K1
      refine wpPre_i rfl (fun K1 hK1 => ?_)
      rw [if_neg (by go_simp; all_goals (intro h; cases h))]
      go_simp
      refine hK1 _ ?_
      clear hK1 K1
      refine wpPre_i rfl (fun K1 hK1 => ?_)
      rw [if_neg (by go_simp; all_goals (intro h; cases h))]
      go_simp
      refine hK1 _ ?_
      clear hK1 K1
      refine wpPre_i rfl (fun K1 hK1 => ?_)
      rw [if_neg (by go_simp; all_goals (intro h; cases h))]
      go_simp
      refine hK1 _ ?_
      clear hK1 K1
      refine wpPre_i rfl (fun K1 hK1 => ?_)
      rw [if_neg (by go_simp; all_goals (intro h; cases h))]
      go_simp
      refine hK1 _ ?_
      clear hK1 K1
      refine wpPre_e rfl rfl (fun K1 hK1 => ?_)
      apply Exists.intro
      refine And.intro (fun wx hx => ?_) ?_
      · go_simp
        try rfl
      go_simp
      refine hK1 _ ?_
      clear hK1 K1
      refine wpPre_e rfl rfl (fun K1 hK1 => ?_)
      apply Exists.intro
      refine And.intro (fun wx hx => ?_) ?_
      · go_simp
        try rfl
      go_simp
      refine hK1 _ ?_
      clear hK1 K1
      refine wpPre_i rfl (fun K1 hK1 => ?_)
      rw [if_neg (by go_simp; all_goals (intro h; cases h))]
      go_simp
      refine hK1 _ ?_
      clear hK1 K1
      refine wpPre_i rfl (fun K1 hK1 => ?_)
      rw [if_neg (by go_simp; all_goals (intro h; cases h))]
      go_simp
      refine hK1 _ ?_
      clear hK1 K1
      refine wpPre_i rfl (fun K1 hK1 => ?_)
      rw [if_neg (by go_simp; all_goals (intro h; cases h))]
      go_simp
      refine hK1 _ ?_
      clear hK1 K1
      refine wpPre_i rfl (fun K1 hK1 => ?_)
      rw [if_neg (by go_simp; all_goals (intro h; cases h))]
      go_simp
      refine hK1 _ ?_
      clear hK1 K1
      refine wpPre_i rfl (fun K1 hK1 => ?_)
      rw [if_neg (by go_simp; all_goals (intro h; cases h))]
      go_simp
      refine hK1 _ ?_
      clear hK1 K1
      refine wpPre_i rfl (fun K1 hK1 => ?_)
      rw [if_neg (by go_simp; all_goals (intro h; cases h))]
      go_simp
      refine hK1 _ ?_
      clear hK1 K1
      refine wpPre_i rfl (fun K1 hK1 => ?_)
      rw [if_neg (by go_simp; all_goals (intro h; cases h))]
      go_simp
      refine hK1 _ ?_
      clear hK1 K1
      refine wpPre_i rfl (fun K1 hK1 => ?_)
      rw [if_neg (by go_simp; all_goals (intro h; cases h))]
      go_simp
      refine hK1 _ ?_
      clear hK1 K1
      refine wpPre_i rfl (fun K1 hK1 => ?_)
      rw [if_neg (by go_simp; all_goals (intro h; cases h))]
      go_simp
      refine hK1 _ ?_
      clear hK1 K1
      refine wpPre_e rfl rfl (fun K1 hK1 => ?_)
      apply Exists.intro
      refine And.intro (fun wx hx => ?_) ?_
      · go_simp
        try rfl
      go_simp
      refine hK1 _ ?_
      clear hK1 K1
      refine wpPre_e rfl rfl (fun K1 hK1 => ?_)
      apply Exists.intro
      refine And.intro (fun wx hx => ?_) ?_
      · go_simp
        try rfl
      go_simp
      refine hK1 _ ?_
      clear hK1 K1
      refine wpPre_nil ?_
      refine wpStg_nil ?_
      go_wp2
      refine bodyPost_ret (v := .bool true) (by simp [results, Try.results20, go_sem]) rfl ⟨hb, P7, ts, num, { y with marks := y.marks + 1 }, rfl, HJ7.out.below (Below.refl _ _).drew, Int.le_refl _⟩
    have hpos : 0 < y.id := by rw [HJ0.out.id]; exact Ps.under_pos HJ0.out.r.i u0
    by_cases iu : id = P.under
    rotate_left
    · skip
      have iu' : (id == y.id) = false := by rw [HJ0.out.id]; simp [iu]
      have HR : Hid (P.refE id o.task = 143) := by
        unfold Hid Ps.refE
        rw [if_neg (by rw [HJ6.out.t]; omega), if_pos (.inr iu)]
      have hs := HQ.out.s
      obtain ⟨rfl, rfl⟩ := HQ.out.n (by rw [HR.out]; omega)
      have HJ7 := hid (HJ6.out.stay hs)
      have hX7 := HXo.out.kept (hs.but.block _ HXo.out.lt HXn.out)
      have x4 := hX7.cell 4
      have ol := hX7.lt
      have c0 := HJ7.out.box.cell 0
      have c1 := HJ7.out.box.cell 1
      have sl := HJ7.out.box.lt
      simp [Sy.arr] at x4 c0 c1
      have m0 := trivial
      rw [HR.out]
      clear hs hX7 t0 t1 u0 iu m0
      go_wp2_with fail
      refine wp_region_calmD 30 (fun wx => Below w7.heap.size w7 wx) [(0, true), (1, false), (2, true), (3, true), (4, true), (5, false), (6, true), (7, true), (8, true), (9, true), (10, true), (11, true), (12, true), (13, false), (14, true), (15, true), (16, true), (17, true), (18, true), (19, true), (20, true), (21, false), (22, true), (23, true), (24, true), (25, true), (26, true), (27, true), (28, false), (29, true), (30, false), (31, true), (32, false), (33, true), (34, true), (35, true)] [] (by kernel_rfl) (by kernel_rfl) (Below.refl _ _).drew ?_
      refine wpPre_e rfl rfl (fun K1 hK1 => ?_)
      apply Exists.intro
      refine And.intro (fun wx hx => ?_) ?_
      · go_simp
        try rfl
      go_simp
      refine hK1 _ ?_
      clear hK1 K1
      refine wpPre_e rfl rfl (fun K1 hK1 => ?_)
      apply Exists.intro
      refine And.intro (fun wx hx => ?_) ?_
      · have e0 := below_fact hx rfl x4
        have e1 := below_fact hx rfl c0
        go_simp
        try rfl
      go_simp
      refine hK1 _ ?_
      clear hK1 K1
      refine wpPre_e rfl rfl (fun K1 hK1 => ?_)
      apply Exists.intro
      refine And.intro (fun wx hx => ?_) ?_
      · go_simp
        try rfl
      go_simp
      refine hK1 _ ?_
      clear hK1 K1
      refine wpPre_e rfl rfl (fun K1 hK1 => ?_)
      apply Exists.intro
      refine And.intro (fun wx hx => ?_) ?_
      · go_simp
        try rfl
      go_simp
      refine hK1 _ ?_
      clear hK1 K1
      refine wpPre_i rfl (fun K1 hK1 => ?_)
      rw [if_pos (by go_simp)]
      apply Exists.intro
      refine And.intro (fun wx hx => ?_) ?_
      · go_simp
        try rfl
      go_simp
      refine hK1 _ ?_
      clear hK1 K1
      refine wpPre_i rfl (fun K1 hK1 => ?_)
      rw [if_pos (by go_simp)]
      apply Exists.intro
      refine And.intro (fun wx hx => ?_) ?_
      · have e0 := below_fact hx rfl x4
        have e1 := below_fact hx rfl c0
        go_simp
        try rfl
      go_simp
      refine hK1 _ ?_
      clear hK1 K1
      refine wpPre_i rfl (fun K1 hK1 => ?_)
      rw [if_pos (by go_simp)]
      apply Exists.intro
      refine And.intro (fun wx hx => ?_) ?_
      · go_simp
        try rfl
      go_simp
      refine hK1 _ ?_
      clear hK1 K1
      refine wpPre_i rfl (fun K1 hK1 => ?_)
      rw [if_pos (by go_simp)]
      apply Exists.intro
      refine And.intro (fun wx hx => ?_) ?_
      · go_simp
        try rfl
      go_simp
      refine hK1 _ ?_
      clear hK1 K1
      refine wpPre_e rfl rfl (fun K1 hK1 => ?_)
      apply Exists.intro
      refine And.intro (fun wx hx => ?_) ?_
      · go_simp
        try rfl
      go_simp
      refine hK1 _ ?_
      clear hK1 K1
      refine wpPre_e rfl rfl (fun K1 hK1 => ?_)
      apply Exists.intro
      refine And.intro (fun wx hx => ?_) ?_
      · go_simp
        try rfl
      go_simp
      refine hK1 _ ?_
      clear hK1 K1
      refine wpPre_i rfl (fun K1 hK1 => ?_)
      rw [if_pos (by go_simp)]
      apply Exists.intro
      refine And.intro (fun wx hx => ?_) ?_
      · go_simp
        try rfl
      go_simp
      refine hK1 _ ?_
      clear hK1 K1
      refine wpPre_i rfl (fun K1 hK1 => ?_)
      rw [if_pos (by go_simp)]
      apply Exists.intro
      refine And.intro (fun wx hx => ?_) ?_
      · go_simp
        try rfl
      go_simp
      refine hK1 _ ?_
      clear hK1 K1
      refine wpPre_i rfl (fun K1 hK1 => ?_)
      rw [if_pos (by go_simp)]
      apply Exists.intro
      refine And.intro (fun wx hx => ?_) ?_
      · go_simp
        try rfl
      go_simp
      refine hK1 _ ?_
      clear hK1 K1
      refine wpPre_i rfl (fun K1 hK1 => ?_)
      rw [if_pos (by go_simp)]
      apply Exists.intro
      refine And.intro (fun wx hx => ?_) ?_
      · have e0 := below_fact hx rfl x4
        have e1 := below_fact hx rfl c0
        go_simp
        try rfl
      go_simp
      refine hK1 _ ?_
      clear hK1 K1
      refine wpPre_i rfl (fun K1 hK1 => ?_)
      rw [if_pos (by go_simp)]
      apply Exists.intro
      refine And.intro (fun wx hx => ?_) ?_
      · go_simp
        try rfl
      go_simp
      refine hK1 _ ?_
      clear hK1 K1
      refine wpPre_e rfl rfl (fun K1 hK1 => ?_)
      apply Exists.intro
      refine And.intro (fun wx hx => ?_) ?_
      · go_simp
        try rfl
      go_simp
      refine hK1 _ ?_
      clear hK1 K1
      refine wpPre_e rfl rfl (fun K1 hK1 => ?_)
      apply Exists.intro
      refine And.intro (fun wx hx => ?_) ?_
      · go_simp
        try rfl
      go_simp
      refine hK1 _ ?_
      clear hK1 K1
      refine wpPre_i rfl (fun K1 hK1 => ?_)
      rw [if_pos (by go_simp)]
      apply Exists.intro
      refine And.intro (fun wx hx => ?_) ?_
      · go_simp
        try rfl
      go_simp
      refine hK1 _ ?_
      clear hK1 K1
      refine wpPre_i rfl (fun K1 hK1 => ?_)
      rw [if_pos (by go_simp)]
      apply Exists.intro
      refine And.intro (fun wx hx => ?_) ?_
      · go_simp
        try rfl
      go_simp
      refine hK1 _ ?_
      clear hK1 K1
      refine wpPre_i rfl (fun K1 hK1 => ?_)
      rw [if_pos (by go_simp)]
      apply Exists.intro
      refine And.intro (fun wx hx => ?_) ?_
      · go_simp
        try rfl
      go_simp
      refine hK1 _ ?_
      clear hK1 K1
      refine wpPre_i rfl (fun K1 hK1 => ?_)
      rw [if_pos (by go_simp)]
      apply Exists.intro
      refine And.intro (fun wx hx => ?_) ?_
      · go_simp
        try rfl
      go_simp
      refine hK1 _ ?_
      clear hK1 K1
      refine wpPre_i rfl (fun K1 hK1 => ?_)
      rw [if_pos (by go_simp)]
      apply Exists.intro
      refine And.intro (fun wx hx => ?_) ?_
      · have e0 := below_fact hx rfl x4
        have e1 := below_fact hx rfl c0
        go_simp
        try rfl
      go_simp
      refine hK1 _ ?_
      clear hK1 K1
      refine wpPre_i rfl (fun K1 hK1 => ?_)
      rw [if_pos (by go_simp)]
      apply Exists.intro
      refine And.intro (fun wx hx => ?_) ?_
      · go_simp
        try rfl
      go_simp
      refine hK1 _ ?_
      clear hK1 K1
      refine wpPre_e rfl rfl (fun K1 hK1 => ?_)
      apply Exists.intro
      refine And.intro (fun wx hx => ?_) ?_
      · go_simp
        try rfl
      go_simp
      refine hK1 _ ?_
      clear hK1 K1
      refine wpPre_e rfl rfl (fun K1 hK1 => ?_)
      apply Exists.intro
      refine And.intro (fun wx hx => ?_) ?_
      · go_simp
        try rfl
      go_simp
      refine hK1 _ ?_
      clear hK1 K1
      refine wpPre_i rfl (fun K1 hK1 => ?_)
      rw [if_neg (by go_simp; all_goals (intro h; cases h))]
      go_simp
      refine hK1 _ ?_
      clear hK1 K1
      refine wpPre_i rfl (fun K1 hK1 => ?_)
      rw [if_neg (by go_simp; all_goals (intro h; cases h))]
      go_simp
      refine hK1 _ ?_
      clear hK1 K1
      refine wpPre_i rfl (fun K1 hK1 => ?_)
      rw [if_neg (by go_simp; all_goals (intro h; cases h))]
      go_simp
      refine hK1 _ ?_
      clear hK1 K1
      refine wpPre_i rfl (fun K1 hK1 => ?_)
      rw [if_neg (by go_simp; all_goals (intro h; cases h))]
      go_simp
      refine hK1 _ ?_
      clear hK1 K1
      refine wpPre_i rfl (fun K1 hK1 => ?_)
      rw [if_neg (by go_simp; all_goals (intro h; cases h))]
      go_simp
      refine hK1 _ ?_
      clear hK1 K1
      refine wpPre_i rfl (fun K1 hK1 => ?_)
      rw [if_neg (by go_simp; all_goals (intro h; cases h))]
      go_simp
      refine hK1 _ ?_
      clear hK1 K1
      refine wpPre_i rfl (fun K1 hK1 => ?_)
      rw [if_neg (by go_simp; all_goals (intro h; cases h))]
      go_simp
      refine hK1 _ ?_
      clear hK1 K1
      refine wpPre_i rfl (fun K1 hK1 => ?_)
      rw [if_neg (by go_simp; all_goals (intro h; cases h))]
      go_simp
      refine hK1 _ ?_
      clear hK1 K1
      refine wpPre_i rfl (fun K1 hK1 => ?_)
      rw [if_neg (by go_simp; all_goals (intro h; cases h))]
      go_simp
      refine hK1 _ ?_
      clear hK1 K1
      refine wpPre_e rfl rfl (fun K1 hK1 => ?_)
      apply Exists.intro
      refine And.intro (fun wx hx => ?_) ?_
      · go_simp
        try rfl
      go_simp
      refine hK1 _ ?_
      clear hK1 K1
      refine wpPre_e rfl rfl (fun K1 hK1 => ?_)
      apply Exists.intro
      refine And.intro (fun wx hx => ?_) ?_
      · go_simp
        try rfl
      go_simp
      refine hK1 _ ?_
      clear hK1 K1
      refine wpPre_nil ?_
      refine wpStg_nil ?_
      go_wp2
      refine bodyPost_ret (v := .bool true) (by simp [results, Try.results20, go_sem]) rfl ⟨hb, P7, ts, num, { y with marks := y.marks + 1 }, rfl, HJ7.out.below (Below.refl _ _).drew, Int.le_refl _⟩
    have iu' : (id == y.id) = true := by rw [HJ0.out.id]; simp [iu]
    obtain ⟨i, hi⟩ : ∃ i : Nat, o.task = (i : Int) := ⟨o.task.toNat, by omega⟩
    have hiT : i < T := by omega
    obtain ⟨M, hM⟩ := HJ6.out.on u0
    have HM := hid hM
    clear hM
    by_cases hp : P.pl i = 0
    rotate_left
    · skip
      have hnz : (num i == 0) = false := by have := (HM.out.num i hiT hp).1; rw [beq_eq_false_iff_ne]; omega
      have HR : Hid (P.refE id o.task = 145) := by
        unfold Hid Ps.refE
        rw [if_neg (by rw [HJ6.out.t]; omega), if_neg (by rintro (h | h); exact u0 h; exact h iu), if_pos (by rw [hi, Int.toNat_natCast]; exact hp)]
      have hs := HQ.out.s
      obtain ⟨rfl, rfl⟩ := HQ.out.n (by rw [HR.out]; omega)
      have HJ7 := hid (HJ6.out.stay hs)
      have hX7 := HXo.out.kept (hs.but.block _ HXo.out.lt HXn.out)
      have x4 := hX7.cell 4
      have ol := hX7.lt
      have c0 := HJ7.out.box.cell 0
      have c1 := HJ7.out.box.cell 1
      have sl := HJ7.out.box.lt
      simp [Sy.arr] at x4 c0 c1
      rw [HM.out.h.1, HM.out.h.2.1, HM.out.h.2.2] at c1
      have hM7 := (HJ6.out.keptP hs).2 M HM.out.box
      have m0 := (hM7.cell i).trans (HM.out.ms i hiT)
      rw [if_neg hp] at m0
      have ml := hM7.lt
      rw [hi] at x4
      have hi0 : (0 : Int) ≤ (i : Int) := by omega
      have hi1 : (i : Int) < (T : Int) := by omega
      rw [HR.out]
      clear hs hX7 t0 t1 u0 iu hp hi hM7 t0' t1'
      go_wp2_with fail
      refine wp_region_calmD 30 (fun wx => Below w7.heap.size w7 wx) [(0, true), (1, false), (2, true), (3, true), (4, true), (5, false), (6, true), (7, true), (8, true), (9, true), (10, true), (11, true), (12, true), (13, false), (14, true), (15, true), (16, true), (17, true), (18, true), (19, true), (20, true), (21, false), (22, true), (23, true), (24, true), (25, true), (26, true), (27, true), (28, false), (29, true), (30, false), (31, true), (32, false), (33, true), (34, true), (35, true)] [] (by kernel_rfl) (by kernel_rfl) (Below.refl _ _).drew ?_
      refine wpPre_e rfl rfl (fun K1 hK1 => ?_)
      apply Exists.intro
      refine And.intro (fun wx hx => ?_) ?_
      · go_simp
        try rfl
      go_simp
      refine hK1 _ ?_
      clear hK1 K1
      refine wpPre_e rfl rfl (fun K1 hK1 => ?_)
      apply Exists.intro
      refine And.intro (fun wx hx => ?_) ?_
      · have e0 := below_fact hx rfl x4
        have e1 := below_fact hx rfl c0
        have e2 := below_fact hx rfl c1
        have e3 := below_fact hx rfl m0
        go_simp
        try rfl
      go_simp
      refine hK1 _ ?_
      clear hK1 K1
      refine wpPre_e rfl rfl (fun K1 hK1 => ?_)
      apply Exists.intro
      refine And.intro (fun wx hx => ?_) ?_
      · go_simp
        try rfl
      go_simp
      refine hK1 _ ?_
      clear hK1 K1
      refine wpPre_e rfl rfl (fun K1 hK1 => ?_)
      apply Exists.intro
      refine And.intro (fun wx hx => ?_) ?_
      · go_simp
        try rfl
      go_simp
      refine hK1 _ ?_
      clear hK1 K1
      refine wpPre_i rfl (fun K1 hK1 => ?_)
      rw [if_pos (by go_simp)]
      apply Exists.intro
      refine And.intro (fun wx hx => ?_) ?_
      · go_simp
        try rfl
      go_simp
      refine hK1 _ ?_
      clear hK1 K1
      refine wpPre_i rfl (fun K1 hK1 => ?_)
      rw [if_pos (by go_simp)]
      apply Exists.intro
      refine And.intro (fun wx hx => ?_) ?_
      · have e0 := below_fact hx rfl x4
        have e1 := below_fact hx rfl c0
        have e2 := below_fact hx rfl c1
        have e3 := below_fact hx rfl m0
        go_simp
        try rfl
      go_simp
      refine hK1 _ ?_
      clear hK1 K1
      refine wpPre_i rfl (fun K1 hK1 => ?_)
      rw [if_pos (by go_simp)]
      apply Exists.intro
      refine And.intro (fun wx hx => ?_) ?_
      · go_simp
        try rfl
      go_simp
      refine hK1 _ ?_
      clear hK1 K1
      refine wpPre_i rfl (fun K1 hK1 => ?_)
      rw [if_pos (by go_simp)]
      apply Exists.intro
      refine And.intro (fun wx hx => ?_) ?_
      · go_simp
        try rfl
      go_simp
      refine hK1 _ ?_
      clear hK1 K1
      refine wpPre_e rfl rfl (fun K1 hK1 => ?_)
      apply Exists.intro
      refine And.intro (fun wx hx => ?_) ?_
      · go_simp
        try rfl
      go_simp
      refine hK1 _ ?_
      clear hK1 K1
      refine wpPre_e rfl rfl (fun K1 hK1 => ?_)
      apply Exists.intro
      refine And.intro (fun wx hx => ?_) ?_
      · go_simp
        try rfl
      go_simp
      refine hK1 _ ?_
      clear hK1 K1
      refine wpPre_i rfl (fun K1 hK1 => ?_)
      rw [if_pos (by go_simp)]
      apply Exists.intro
      refine And.intro (fun wx hx => ?_) ?_
      · go_simp
        try rfl
      go_simp
      refine hK1 _ ?_
      clear hK1 K1
      refine wpPre_i rfl (fun K1 hK1 => ?_)
      rw [if_pos (by go_simp)]
      apply Exists.intro
      refine And.intro (fun wx hx => ?_) ?_
      · go_simp
        try rfl
      go_simp
      refine hK1 _ ?_
      clear hK1 K1
      refine wpPre_i rfl (fun K1 hK1 => ?_)
      rw [if_pos (by go_simp)]
      apply Exists.intro
      refine And.intro (fun wx hx => ?_) ?_
      · go_simp
        try rfl
      go_simp
      refine hK1 _ ?_
      clear hK1 K1
      refine wpPre_i rfl (fun K1 hK1 => ?_)
      rw [if_pos (by go_simp)]
      apply Exists.intro
      refine And.intro (fun wx hx => ?_) ?_
      · have e0 := below_fact hx rfl x4
        have e1 := below_fact hx rfl c0
        have e2 := below_fact hx rfl c1
        have e3 := below_fact hx rfl m0
        go_simp
        try rfl
      go_simp
      refine hK1 _ ?_
      clear hK1 K1
      refine wpPre_i rfl (fun K1 hK1 => ?_)
      rw [if_pos (by go_simp)]
      apply Exists.intro
      refine And.intro (fun wx hx => ?_) ?_
      · go_simp
        try rfl
      go_simp
      refine hK1 _ ?_
      clear hK1 K1
      refine wpPre_e rfl rfl (fun K1 hK1 => ?_)
      apply Exists.intro
      refine And.intro (fun wx hx => ?_) ?_
      · go_simp
        try rfl
      go_simp
      refine hK1 _ ?_
      clear hK1 K1
      refine wpPre_e rfl rfl (fun K1 hK1 => ?_)
      apply Exists.intro
      refine And.intro (fun wx hx => ?_) ?_
      · go_simp
        try rfl
      go_simp
      refine hK1 _ ?_
      clear hK1 K1
      refine wpPre_i rfl (fun K1 hK1 => ?_)
      rw [if_pos (by go_simp)]
      apply Exists.intro
      refine And.intro (fun wx hx => ?_) ?_
      · go_simp
        try rfl
      go_simp
      refine hK1 _ ?_
      clear hK1 K1
      refine wpPre_i rfl (fun K1 hK1 => ?_)
      rw [if_pos (by go_simp)]
      apply Exists.intro
      refine And.intro (fun wx hx => ?_) ?_
      · go_simp
        try rfl
      go_simp
      refine hK1 _ ?_
      clear hK1 K1
      refine wpPre_i rfl (fun K1 hK1 => ?_)
      rw [if_pos (by go_simp)]
      apply Exists.intro
      refine And.intro (fun wx hx => ?_) ?_
      · go_simp
        try rfl
      go_simp
      refine hK1 _ ?_
      clear hK1 K1
      refine wpPre_i rfl (fun K1 hK1 => ?_)
      rw [if_pos (by go_simp)]
      apply Exists.intro
      refine And.intro (fun wx hx => ?_) ?_
      · go_simp
        try rfl
      go_simp
      refine hK1 _ ?_
      clear hK1 K1
      refine wpPre_i rfl (fun K1 hK1 => ?_)
      rw [if_pos (by go_simp)]
      apply Exists.intro
      refine And.intro (fun wx hx => ?_) ?_
      · have e0 := below_fact hx rfl x4
        have e1 := below_fact hx rfl c0
        have e2 := below_fact hx rfl c1
        have e3 := below_fact hx rfl m0
        go_simp
        try rfl
      go_simp
      refine hK1 _ ?_
      clear hK1 K1
      refine wpPre_i rfl (fun K1 hK1 => ?_)
      rw [if_pos (by go_simp)]
      apply Exists.intro
      refine And.intro (fun wx hx => ?_) ?_
      · go_simp
        try rfl
      go_simp
      refine hK1 _ ?_
      clear hK1 K1
      refine wpPre_e rfl rfl (fun K1 hK1 => ?_)
      apply Exists.intro
      refine And.intro (fun wx hx => ?_) ?_
      · go_simp
        try rfl
      go_simp
      refine hK1 _ ?_
      clear hK1 K1
      refine wpPre_e rfl rfl (fun K1 hK1 => ?_)
      apply Exists.intro
      refine And.intro (fun wx hx => ?_) ?_
      · go_simp
        try rfl
      go_simp
      refine hK1 _ ?_
      clear hK1 K1
      refine wpPre_i rfl (fun K1 hK1 => ?_)
      rw [if_pos (by go_simp)]
      apply Exists.intro
      refine And.intro (fun wx hx => ?_) ?_
      · go_simp
        try rfl
      go_simp
      refine hK1 _ ?_
      clear hK1 K1
      refine wpPre_i rfl (fun K1 hK1 => ?_)
      rw [if_pos (by go_simp)]
      apply Exists.intro
      refine And.intro (fun wx hx => ?_) ?_
      · go_simp
        try rfl
      go_simp
      refine hK1 _ ?_
      clear hK1 K1
      refine wpPre_i rfl (fun K1 hK1 => ?_)
      rw [if_pos (by go_simp)]
      apply Exists.intro
      refine And.intro (fun wx hx => ?_) ?_
      · go_simp
        try rfl
      go_simp
      refine hK1 _ ?_
      clear hK1 K1
      refine wpPre_i rfl (fun K1 hK1 => ?_)
      rw [if_pos (by go_simp)]
      apply Exists.intro
      refine And.intro (fun wx hx => ?_) ?_
      · have e0 := below_fact hx rfl x4
        have e1 := below_fact hx rfl c0
        have e2 := below_fact hx rfl c1
        have e3 := below_fact hx rfl m0
        go_simp
        try rfl
      go_simp
      refine hK1 _ ?_
      clear hK1 K1
      refine wpPre_i rfl (fun K1 hK1 => ?_)
      rw [if_pos (by go_simp)]
      apply Exists.intro
      refine And.intro (fun wx hx => ?_) ?_
      · go_simp
        try rfl
      go_simp
      refine hK1 _ ?_
      clear hK1 K1
      refine wpPre_i rfl (fun K1 hK1 => ?_)
      rw [if_pos (by go_simp)]
      apply Exists.intro
      refine And.intro (fun wx hx => ?_) ?_
      · have e0 := below_fact hx rfl x4
        have e1 := below_fact hx rfl c0
        have e2 := below_fact hx rfl c1
        have e3 := below_fact hx rfl m0
        go_simp
        try rfl
      go_simp
      refine hK1 _ ?_
      clear hK1 K1
      refine wpPre_i rfl (fun K1 hK1 => ?_)
      rw [if_pos (by go_simp)]
      apply Exists.intro
      refine And.intro (fun wx hx => ?_) ?_
      · go_simp
        try rfl
      go_simp
      refine hK1 _ ?_
      clear hK1 K1
      refine wpPre_i rfl (fun K1 hK1 => ?_)
      rw [if_pos (by go_simp)]
      apply Exists.intro
      refine And.intro (fun wx hx => ?_) ?_
      · have e0 := below_fact hx rfl x4
        have e1 := below_fact hx rfl c0
        have e2 := below_fact hx rfl c1
        have e3 := below_fact hx rfl m0
        go_simp
        try rfl
      go_simp
      refine hK1 _ ?_
      clear hK1 K1
      refine wpPre_i rfl (fun K1 hK1 => ?_)
      rw [if_pos (by go_simp)]
      apply Exists.intro
      refine And.intro (fun wx hx => ?_) ?_
      · go_simp
        try rfl
      go_simp
      refine hK1 _ ?_
      clear hK1 K1
      refine wpPre_e rfl rfl (fun K1 hK1 => ?_)
      apply Exists.intro
      refine And.intro (fun wx hx => ?_) ?_
      · go_simp
        try rfl
      go_simp
      refine hK1 _ ?_
      clear hK1 K1
      refine wpPre_e rfl rfl (fun K1 hK1 => ?_)
      apply Exists.intro
      refine And.intro (fun wx hx => ?_) ?_
      · go_simp
        try rfl
      go_simp
      refine hK1 _ ?_
      clear hK1 K1
      refine wpPre_nil ?_
      refine wpStg_nil ?_
      go_wp2
      refine bodyPost_ret (v := .bool true) (by simp [results, Try.results20, go_sem]) rfl ⟨hb, P7, ts, num, { y with marks := y.marks + 1 }, rfl, HJ7.out.below (Below.refl _ _).drew, Int.le_refl _⟩
    have HR : Hid (P.refE id o.task = 0) := by
      unfold Hid Ps.refE
      rw [if_neg (by rw [HJ6.out.t]; omega), if_neg (by rintro (h | h); exact u0 h; exact h iu), if_neg (by rw [hi, Int.toNat_natCast, hp]; simp)]
    have hs := HQ.out.s
    obtain ⟨i', u7, hii, _, rfl, hR7⟩ := HJ6.out.r.hand HQ.out HR.out HX6.out
    obtain rfl : i = i' := by omega
    have hK := HJ6.out.keptP hs
    have hM7 := hK.2 M HM.out.box
    have HK := hid (And.intro hK.1 (And.intro hM7 hR7))
    have hX7 := HXo.out.kept (hs.but.block _ HXo.out.lt HXn.out)
    have x4 := hX7.cell 4
    have ol := hX7.lt
    have c0 := hK.1.cell 0
    have c1 := hK.1.cell 1
    have c2 := hK.1.cell 2
    have c5 := hK.1.cell 5
    have f2 := hK.1.frozen 2
    have fm := hM7.frozen i
    have sl := hK.1.lt
    have ml := hM7.lt
    have m0 := (hM7.cell i).trans (HM.out.ms i hiT)
    rw [if_pos hp] at m0
    simp [Sy.arr] at x4 c0 c1 c2 c5
    rw [HM.out.h.1, HM.out.h.2.1, HM.out.h.2.2] at c1
    rw [hi] at x4
    have hi0 : (0 : Int) ≤ (i : Int) := by omega
    have hi1 : (i : Int) < (T : Int) := by omega
    have HP0 := hid hp
    have hnc : hb ≠ sb := HM.out.ne
    have hnc' : sb ≠ hb := fun e => hnc e.symm
    have hcn := HM.out.count
    have hwc : IntKind.i64.wrap (y.count + 1) = y.count + 1 := by
      rw [IntKind.wrap_i64]
      have h1 : y.picked + (P.wants.length : Int) = (T : Int) := HM.out.picked
      have h2 : y.count = y.picked + (ts.length : Int) := HM.out.count
      have h3 := HJ6.out.T12
      have h4 := room_le P.tasks.toNat (ts.map (·.1)) HJ6.out.r.nd (fun a ha => by
        obtain ⟨q, hq, rfl⟩ := List.mem_map.1 ha
        have := (HJ6.out.r.one q hq).1
        omega)
      have h5 := P.wantsU_len P.tasks.toNat
      have h6 := HJ6.out.t
      have h7 : P.wants.length ≤ P.tasks.toNat := h5
      simp at h4
      omega
    rw [HR.out]
    clear hs hK hM7 hR7 hX7 t0 t1 u0 iu hp hi hii t0' t1' hcn
    go_wp2_with fail
    refine wp_region_calmD 30 (fun wx => Below w7.heap.size w7 wx) [(0, true), (1, false), (2, true), (3, true), (4, true), (5, false), (6, true), (7, true), (8, true), (9, true), (10, true), (11, true), (12, true), (13, false), (14, true), (15, true), (16, true), (17, true), (18, true), (19, true), (20, true), (21, false), (22, true), (23, true), (24, true), (25, true), (26, true), (27, true), (28, false), (29, true), (30, false), (31, true), (32, false), (33, true), (34, true), (35, true)] [] (by kernel_rfl) (by kernel_rfl) (Below.refl _ _).drew ?_
    refine wpPre_e rfl rfl (fun K1 hK1 => ?_)
    apply Exists.intro
    refine And.intro (fun wx hx => ?_) ?_
    · go_simp
      try rfl
    go_simp
    refine hK1 _ ?_
    clear hK1 K1
    refine wpPre_e rfl rfl (fun K1 hK1 => ?_)
    apply Exists.intro
    refine And.intro (fun wx hx => ?_) ?_
    · have e0 := below_fact hx rfl x4
      have e1 := below_fact hx rfl c0
      have e2 := below_fact hx rfl c1
      have e3 := below_fact hx rfl m0
      go_simp
      try rfl
    go_simp
    refine hK1 _ ?_
    clear hK1 K1
    refine wpPre_e rfl rfl (fun K1 hK1 => ?_)
    apply Exists.intro
    refine And.intro (fun wx hx => ?_) ?_
    · go_simp
      try rfl
    go_simp
    refine hK1 _ ?_
    clear hK1 K1
    refine wpPre_e rfl rfl (fun K1 hK1 => ?_)
    apply Exists.intro
    refine And.intro (fun wx hx => ?_) ?_
    · go_simp
      try rfl
    go_simp
    refine hK1 _ ?_
    clear hK1 K1
    refine wpPre_i rfl (fun K1 hK1 => ?_)
    rw [if_pos (by go_simp)]
    apply Exists.intro
    refine And.intro (fun wx hx => ?_) ?_
    · go_simp
      try rfl
    go_simp
    refine hK1 _ ?_
    clear hK1 K1
    refine wpPre_i rfl (fun K1 hK1 => ?_)
    rw [if_pos (by go_simp)]
    apply Exists.intro
    refine And.intro (fun wx hx => ?_) ?_
    · have e0 := below_fact hx rfl x4
      have e1 := below_fact hx rfl c0
      have e2 := below_fact hx rfl c1
      have e3 := below_fact hx rfl m0
      go_simp
      try rfl
    go_simp
    refine hK1 _ ?_
    clear hK1 K1
    refine wpPre_i rfl (fun K1 hK1 => ?_)
    rw [if_pos (by go_simp)]
    apply Exists.intro
    refine And.intro (fun wx hx => ?_) ?_
    · go_simp
      try rfl
    go_simp
    refine hK1 _ ?_
    clear hK1 K1
    refine wpPre_i rfl (fun K1 hK1 => ?_)
    rw [if_pos (by go_simp)]
    apply Exists.intro
    refine And.intro (fun wx hx => ?_) ?_
    · go_simp
      try rfl
    go_simp
    refine hK1 _ ?_
    clear hK1 K1
    refine wpPre_e rfl rfl (fun K1 hK1 => ?_)
    apply Exists.intro
    refine And.intro (fun wx hx => ?_) ?_
    · go_simp
      try rfl
    go_simp
    refine hK1 _ ?_
    clear hK1 K1
    refine wpPre_e rfl rfl (fun K1 hK1 => ?_)
    apply Exists.intro
    refine And.intro (fun wx hx => ?_) ?_
    · go_simp
      try rfl
    go_simp
    refine hK1 _ ?_
    clear hK1 K1
    refine wpPre_i rfl (fun K1 hK1 => ?_)
    rw [if_pos (by go_simp)]
    apply Exists.intro
    refine And.intro (fun wx hx => ?_) ?_
    · go_simp
      try rfl
    go_simp
    refine hK1 _ ?_
    clear hK1 K1
    refine wpPre_i rfl (fun K1 hK1 => ?_)
    rw [if_pos (by go_simp)]
    apply Exists.intro
    refine And.intro (fun wx hx => ?_) ?_
    · go_simp
      try rfl
    go_simp
    refine hK1 _ ?_
    clear hK1 K1
    refine wpPre_i rfl (fun K1 hK1 => ?_)
    rw [if_pos (by go_simp)]
    apply Exists.intro
    refine And.intro (fun wx hx => ?_) ?_
    · go_simp
      try rfl
    go_simp
    refine hK1 _ ?_
    clear hK1 K1
    refine wpPre_i rfl (fun K1 hK1 => ?_)
    rw [if_pos (by go_simp)]
    apply Exists.intro
    refine And.intro (fun wx hx => ?_) ?_
    · have e0 := below_fact hx rfl x4
      have e1 := below_fact hx rfl c0
      have e2 := below_fact hx rfl c1
      have e3 := below_fact hx rfl m0
      go_simp
      try rfl
    go_simp
    refine hK1 _ ?_
    clear hK1 K1
    refine wpPre_i rfl (fun K1 hK1 => ?_)
    rw [if_pos (by go_simp)]
    apply Exists.intro
    refine And.intro (fun wx hx => ?_) ?_
    · go_simp
      try rfl
    go_simp
    refine hK1 _ ?_
    clear hK1 K1
    refine wpPre_e rfl rfl (fun K1 hK1 => ?_)
    apply Exists.intro
    refine And.intro (fun wx hx => ?_) ?_
    · go_simp
      try rfl
    go_simp
    refine hK1 _ ?_
    clear hK1 K1
    refine wpPre_e rfl rfl (fun K1 hK1 => ?_)
    apply Exists.intro
    refine And.intro (fun wx hx => ?_) ?_
    · go_simp
      try rfl
    go_simp
    refine hK1 _ ?_
    clear hK1 K1
    refine wpPre_i rfl (fun K1 hK1 => ?_)
    rw [if_pos (by go_simp)]
    apply Exists.intro
    refine And.intro (fun wx hx => ?_) ?_
    · go_simp
      try rfl
    go_simp
    refine hK1 _ ?_
    clear hK1 K1
    refine wpPre_i rfl (fun K1 hK1 => ?_)
    rw [if_pos (by go_simp)]
    apply Exists.intro
    refine And.intro (fun wx hx => ?_) ?_
    · go_simp
      try rfl
    go_simp
    refine hK1 _ ?_
    clear hK1 K1
    refine wpPre_i rfl (fun K1 hK1 => ?_)
    rw [if_pos (by go_simp)]
    apply Exists.intro
    refine And.intro (fun wx hx => ?_) ?_
    · go_simp
      try rfl
    go_simp
    refine hK1 _ ?_
    clear hK1 K1
    refine wpPre_i rfl (fun K1 hK1 => ?_)
    rw [if_pos (by go_simp)]
    apply Exists.intro
    refine And.intro (fun wx hx => ?_) ?_
    · go_simp
      try rfl
    go_simp
    refine hK1 _ ?_
    clear hK1 K1
    refine wpPre_i rfl (fun K1 hK1 => ?_)
    rw [if_pos (by go_simp)]
    apply Exists.intro
    refine And.intro (fun wx hx => ?_) ?_
    · have e0 := below_fact hx rfl x4
      have e1 := below_fact hx rfl c0
      have e2 := below_fact hx rfl c1
      have e3 := below_fact hx rfl m0
      go_simp
      try rfl
    go_simp
    refine hK1 _ ?_
    clear hK1 K1
    refine wpPre_i rfl (fun K1 hK1 => ?_)
    rw [if_pos (by go_simp)]
    apply Exists.intro
    refine And.intro (fun wx hx => ?_) ?_
    · go_simp
      try rfl
    go_simp
    refine hK1 _ ?_
    clear hK1 K1
    refine wpPre_e rfl rfl (fun K1 hK1 => ?_)
    apply Exists.intro
    refine And.intro (fun wx hx => ?_) ?_
    · go_simp
      try rfl
    go_simp
    refine hK1 _ ?_
    clear hK1 K1
    refine wpPre_e rfl rfl (fun K1 hK1 => ?_)
    apply Exists.intro
    refine And.intro (fun wx hx => ?_) ?_
    · go_simp
      try rfl
    go_simp
    refine hK1 _ ?_
    clear hK1 K1
    refine wpPre_i rfl (fun K1 hK1 => ?_)
    rw [if_pos (by go_simp)]
    apply Exists.intro
    refine And.intro (fun wx hx => ?_) ?_
    · go_simp
      try rfl
    go_simp
    refine hK1 _ ?_
    clear hK1 K1
    refine wpPre_i rfl (fun K1 hK1 => ?_)
    rw [if_pos (by go_simp)]
    apply Exists.intro
    refine And.intro (fun wx hx => ?_) ?_
    · go_simp
      try rfl
    go_simp
    refine hK1 _ ?_
    clear hK1 K1
    refine wpPre_i rfl (fun K1 hK1 => ?_)
    rw [if_pos (by go_simp)]
    apply Exists.intro
    refine And.intro (fun wx hx => ?_) ?_
    · go_simp
      try rfl
    go_simp
    refine hK1 _ ?_
    clear hK1 K1
    refine wpPre_i rfl (fun K1 hK1 => ?_)
    rw [if_pos (by go_simp)]
    apply Exists.intro
    refine And.intro (fun wx hx => ?_) ?_
    · have e0 := below_fact hx rfl x4
      have e1 := below_fact hx rfl c0
      have e2 := below_fact hx rfl c1
      have e3 := below_fact hx rfl m0
      go_simp
      try rfl
    go_simp
    refine hK1 _ ?_
    clear hK1 K1
    refine wpPre_i rfl (fun K1 hK1 => ?_)
    rw [if_pos (by go_simp)]
    apply Exists.intro
    refine And.intro (fun wx hx => ?_) ?_
    · go_simp
      try rfl
    go_simp
    refine hK1 _ ?_
    clear hK1 K1
    refine wpPre_i rfl (fun K1 hK1 => ?_)
    rw [if_pos (by go_simp)]
    apply Exists.intro
    refine And.intro (fun wx hx => ?_) ?_
    · have e0 := below_fact hx rfl x4
      have e1 := below_fact hx rfl c0
      have e2 := below_fact hx rfl c1
      have e3 := below_fact hx rfl m0
      go_simp
      try rfl
    go_simp
    refine hK1 _ ?_
    clear hK1 K1
    refine wpPre_i rfl (fun K1 hK1 => ?_)
    rw [if_pos (by go_simp)]
    apply Exists.intro
    refine And.intro (fun wx hx => ?_) ?_
    · go_simp
      try rfl
    go_simp
    refine hK1 _ ?_
    clear hK1 K1
    refine wpPre_i rfl (fun K1 hK1 => ?_)
    rw [if_pos (by go_simp)]
    apply Exists.intro
    refine And.intro (fun wx hx => ?_) ?_
    · have e0 := below_fact hx rfl x4
      have e1 := below_fact hx rfl c0
      have e2 := below_fact hx rfl c1
      have e3 := below_fact hx rfl m0
      go_simp
      try rfl
    go_simp
    refine hK1 _ ?_
    clear hK1 K1
    refine wpPre_i rfl (fun K1 hK1 => ?_)
    rw [if_pos (by go_simp)]
    apply Exists.intro
    refine And.intro (fun wx hx => ?_) ?_
    · go_simp
      try rfl
    go_simp
    refine hK1 _ ?_
    clear hK1 K1
    refine wpPre_e rfl rfl (fun K1 hK1 => ?_)
    apply Exists.intro
    refine And.intro (fun wx hx => ?_) ?_
    · go_simp
      try rfl
    go_simp
    refine hK1 _ ?_
    clear hK1 K1
    refine wpPre_e rfl rfl (fun K1 hK1 => ?_)
    apply Exists.intro
    refine And.intro (fun wx hx => ?_) ?_
    · go_simp
      try rfl
    go_simp
    refine hK1 _ ?_
    clear hK1 K1
    refine wpPre_nil ?_
    refine wpStg_nil ?_
    go_upto_region 11 with fail
    obtain ⟨V, hV⟩ : ∃ V, V = w7.drew := ⟨_, rfl⟩
    have HV := hid hV
    rw [← hV]
    have hbv : Below w7.heap.size w7 V := by rw [hV]; exact (Below.refl _ _).drew
    have x4 := (World.cell?_of_block (a := ⟨w.heap.size, 4, none⟩) (hbv.block _ ol)).trans x4
    have c1 := (World.cell?_of_block (a := ⟨sb, 1, none⟩) (hbv.block _ sl)).trans c1
    have c2 := (World.cell?_of_block (a := ⟨sb, 2, none⟩) (hbv.block _ sl)).trans c2
    have c5 := (World.cell?_of_block (a := ⟨sb, 5, none⟩) (hbv.block _ sl)).trans c5
    have m0 := (World.cell?_of_block (a := ⟨hb, i, none⟩) (hbv.block _ ml)).trans m0
    have f2 := (HK.out.1.below hbv).frozen 2
    have fm := (HK.out.2.1.below hbv).frozen i
    have sl := (HK.out.1.below hbv).lt
    have ml := (HK.out.2.1.below hbv).lt
    have ol := Nat.lt_of_lt_of_le ol hbv.size
    have HBv := hid hbv
    clear hV hbv
    refine wp_region_calmE 30 (fun wx => Below V.heap.size V wx) [(0, true), (1, true), (2, true), (3, false), (4, true), (5, false), (6, true), (7, true), (8, true), (9, false), (10, true)] (.one 11 false [] .done) (by kernel_rfl) (by kernel_rfl) (Below.refl _ _).drew ?_
    refine wpPre_e rfl rfl (fun K1 hK1 => ?_)
    apply Exists.intro
    refine And.intro (fun wx hx => ?_) ?_
    · go_simp
      try rfl
    go_simp
    refine hK1 _ ?_
    clear hK1 K1
    refine wpPre_e rfl rfl (fun K1 hK1 => ?_)
    apply Exists.intro
    refine And.intro (fun wx hx => ?_) ?_
    · go_simp
      try rfl
    go_simp
    refine hK1 _ ?_
    clear hK1 K1
    refine wpPre_e rfl rfl (fun K1 hK1 => ?_)
    apply Exists.intro
    refine And.intro (fun wx hx => ?_) ?_
    · go_simp
      try rfl
    go_simp
    refine hK1 _ ?_
    clear hK1 K1
    refine wpPre_e rfl rfl (fun K1 hK1 => ?_)
    apply Exists.intro
    refine And.intro (fun wx hx => ?_) ?_
    · have e0 := below_fact hx rfl c1
      have e1 := below_fact hx rfl x4
      have e2 := below_fact hx rfl c5
      go_simp
      try rfl
    go_simp
    refine hK1 _ ?_
    clear hK1 K1
    refine wpPre_e rfl rfl (fun K1 hK1 => ?_)
    apply Exists.intro
    refine And.intro (fun wx hx => ?_) ?_
    · go_simp
      try rfl
    go_simp
    refine hK1 _ ?_
    clear hK1 K1
    refine wpPre_e rfl rfl (fun K1 hK1 => ?_)
    apply Exists.intro
    refine And.intro (fun wx hx => ?_) ?_
    · have e0 := below_fact hx rfl c1
      have e1 := below_fact hx rfl x4
      have e2 := below_fact hx rfl c5
      go_simp
      try rfl
    go_simp
    refine hK1 _ ?_
    clear hK1 K1
    refine wpPre_e rfl rfl (fun K1 hK1 => ?_)
    apply Exists.intro
    refine And.intro (fun wx hx => ?_) ?_
    · go_simp
      try rfl
    go_simp
    refine hK1 _ ?_
    clear hK1 K1
    refine wpPre_e rfl rfl (fun K1 hK1 => ?_)
    apply Exists.intro
    refine And.intro (fun wx hx => ?_) ?_
    · go_simp
      try rfl
    go_simp
    refine hK1 _ ?_
    clear hK1 K1
    refine wpPre_e rfl rfl (fun K1 hK1 => ?_)
    apply Exists.intro
    refine And.intro (fun wx hx => ?_) ?_
    · go_simp
      try rfl
    go_simp
    refine hK1 _ ?_
    clear hK1 K1
    refine wpPre_e rfl rfl (fun K1 hK1 => ?_)
    apply Exists.intro
    refine And.intro (fun wx hx => ?_) ?_
    · have e0 := below_fact hx rfl c1
      have e1 := below_fact hx rfl x4
      have e2 := below_fact hx rfl c5
      go_simp
      try rfl
    go_simp
    refine hK1 _ ?_
    clear hK1 K1
    refine wpPre_e rfl rfl (fun K1 hK1 => ?_)
    apply Exists.intro
    refine And.intro (fun wx hx => ?_) ?_
    · go_simp
      try rfl
    go_simp
    refine hK1 _ ?_
    clear hK1 K1
    refine wpPre_nil ?_
    refine wpTr_e rfl (fun K1 hK1 => ?_)
    go_simp
    refine hK1 _ _ (fun h => by cases h) ?_
    clear hK1 K1
    refine wpPre_nil ?_
    refine wpTr_done ?_
    go_wp2
    refine bodyPost_ret (v := .bool true) (by simp [results, Try.results20, go_sem]) rfl ⟨hb, P.hand i, ts ++ [(i, u7)], _, _, rfl, HJ6.out.handed HP0.out hiT (by show 1 ≤ y.marks + 1; omega) HM.out ((HK.out.2.2.below HBv.out).below (Below.refl V.heap.size V).drew) ((HK.out.1.below HBv.out).below (Below.refl V.heap.size V).drew) ((HK.out.2.1.below HBv.out).below (Below.refl V.heap.size V).drew) rfl, Int.le_refl _⟩
  have k2' : (o.kind == 2) = false := by simp [k2]
  by_cases k3 : o.kind = 3
  · rw [k3] at x0
    clear k1 k1' k2 k2'
    have hT12 := HJ4.out.T12
    have hmk := HJ0.out.mks
    cases ts with
    | nil =>
      obtain ⟨sc, rc, hch⟩ := HJ4.out.r.inb.ch
      have HPn := hid (pick_none w4 b P HJ4.out.r.i _ sc rc hch)
      clear hch
      go_wp2_with fail
      refine HPn.out.mono ?_
      rintro e w5 ⟨rfl, hb5⟩
      have HJ5 := hid (HJ4.out.below hb5)
      have HJ6 := hid (HJ5.out.below ((Below.refl w5.heap.size w5).alloc (Nat.le_refl _) (.cells #[.int .i64 0, .int .u32 0, .slice none 0 0] 48)))
      clear hb5 HPn
      have HSp : Hid (Calls Try.prog 39 #[.pointer (some ⟨sb, 0, none⟩), .int .i64 (T : Int), .int .u32 sum, .int .i64 0, .agg #[.int .i64 0, .int .u32 0, .slice none 0 0]] (w5.alloc (.cells #[.int .i64 0, .int .u32 0, .slice none 0 0] 48)) fun e w' => Yes (w5.alloc (.cells #[.int .i64 0, .int .u32 0, .slice none 0 0] 48)) e w') := by
        by_cases u0 : P.under = 0
        · exact spick_idle y sb _ _ _ HJ6.out.box (HJ6.out.id.trans u0)
        · obtain ⟨M, hM⟩ := HJ6.out.on u0
          exact spick_none y sb _ _ _ HJ6.out.box (by rw [HJ6.out.id]; exact u0) (by have := hM.count; simp at this; omega)
      go_wp2_with fail
      refine HSp.out.mono ?_
      rintro e w6 ⟨rfl, hb6⟩
      have HJ7 := hid (HJ6.out.below hb6)
      clear hb6 HSp
      go_wp2
      exact bodyPost_ret (v := .bool true) (by simp [results, Try.results20, go_sem]) rfl ⟨hb, P, [], num, y, rfl, HJ7.out, by omega⟩
    | cons q ts =>
      have hu : ¬ P.under = 0 := fun e => by have := (HJ4.out.r.un e).1; cases this
      obtain ⟨M, hM⟩ := HJ4.out.on hu
      have HM := hid hM
      have h12 : q.1 < 12 := by have := (HJ4.out.r.one q (List.mem_cons_self ..)).1; have := HJ4.out.t; omega
      have HPk := hid (pick_some q.1 h12 q.2 (lets ts) w4 b P HJ4.out.r.i HJ4.out.r.inb (Ps.last1 hu).1)
      have hw1 := HJ4.out.r.wants1
      have hid9 := hid HJ4.out.id
      have hc1 : y.picked ≠ y.count := fun e => by have := hM.count; simp at this; omega
      have hp1 := hM.picked
      have hp0 : 0 ≤ y.picked := by
        have h5 := P.wantsU_len P.tasks.toNat
        have h7 : P.wants.length ≤ P.tasks.toNat := h5
        have := HJ4.out.t
        omega
      have hyu : y.id ≠ 0 := by rw [HJ4.out.id]; exact hu
      clear hM
      by_cases hw : (P.gath q.1 q.2).wants = []
      rotate_left
      · skip
        have hwl : 1 ≤ (P.gath q.1 q.2).wants.length := by
          cases hq : (P.gath q.1 q.2).wants with
          | nil => exact absurd hq hw
          | cons => simp
        have h3 : y.picked + 1 < (T : Int) := by omega
        have HA := hid (And.intro hyu (And.intro hc1 (And.intro h3 (And.intro hp0 hT12))))
        have HWn := hid hw
        clear hw hwl hw1 hc1 hp1 hp0 hyu hu hT12 h3
        go_wp2_with fail
        refine HPk.out.mono ?_
        rintro e w5 ⟨P5, hQ⟩
        have hs := hQ.s
        obtain ⟨rfl, rfl⟩ := hQ.n HWn.out
        have HS := hid hs
        have hB : Below w5.heap.size w5 (w5.alloc (.cells #[.int .i64 0, .int .u32 0, .slice none 0 0] 48)) := (Below.refl _ _).alloc (Nat.le_refl _) _
        have HB := hid hB
        have HSp := hid (spick_more y sb (T : Int) sum (w5.alloc (.cells #[.int .i64 0, .int .u32 0, .slice none 0 0] 48)) ((HJ4.out.keptP hs).1.below hB) HA.out.1 HA.out.2.1 HA.out.2.2.1 HA.out.2.2.2.1 (by have := HA.out.2.2.2.2.2; omega))
        clear hQ hs hB HPk
        go_wp2_with fail
        refine HSp.out.mono ?_
        rintro e w6 ⟨rfl, hg6⟩
        have HJ7 := hid (HJ4.out.more HS.out HB.out hg6)
        clear hg6 HSp
        go_wp2
        exact bodyPost_ret (v := .bool true) (by simp [results, Try.results20, go_sem]) rfl ⟨hb, P.gath q.1 q.2, ts, num, y.pick, rfl, HJ7.out, by show y.marks ≤ y.marks + 1; omega⟩
      · skip
        obtain rfl := HJ4.out.r.rest hw
        have h3 : y.picked + 1 = (T : Int) := by
          have : (P.gath q.1 q.2).wants.length = 0 := by rw [hw]; rfl
          omega
        have HA := hid (And.intro hyu (And.intro hc1 (And.intro h3 (And.intro hp0 hT12))))
        have HWn := hid hw
        have HAll := hid (Ps.wantsU_nil hw)
        have Hun := hid (Ps.last1 hu).1
        clear hw hw1 hc1 hp1 hp0 hyu hu hT12 h3
        go_wp2_with fail
        refine HPk.out.mono ?_
        rintro e w5 ⟨P5, hQ⟩
        have hs := hQ.s
        obtain ⟨rfl, pp, cp, T', hT', rfl, hrow⟩ := hQ.y HWn.out
        obtain rfl : T' = T := by have := HJ4.out.t; omega
        have HS := hid hs
        rw [HJ4.out.s, ← hid9.out]
        have hB : Below w5.heap.size w5 (w5.alloc (.cells #[.int .i64 y.id, .int .u32 sum, .slice pp T' cp] 48)) := (Below.refl _ _).alloc (Nat.le_refl _) _
        have HB := hid hB
        have hk := HJ4.out.keptP hs
        have hg := (HJ4.out.r.gath hs).2
        have hsb := (HJ4.out.r.dl sb (.inl rfl)).2.1
        have hpl1 := (HJ4.out.r.one q (List.mem_cons_self ..)).2
        have HSp := hid (spick_last y sb hb T' sum pp cp (P.gath q.1 q.2) num M (Out P b (fun k => k = sb ∨ k = hb)) w4.heap.size (w5.alloc (.cells #[.int .i64 y.id, .int .u32 sum, .slice pp T' cp] 48)) (hk.1.below hB) HA.out.1 HA.out.2.1 HA.out.2.2.1 HA.out.2.2.2.2.2 HM.out.h ((hk.2 M HM.out.box).below hB) (fun t ht => by
            have h9 := HAll.out t (by show t < P.tasks.toNat; have := HJ4.out.t; omega)
            have h8 : (if t = q.1 then (2 : Int) else P.pl t) = 2 := h9
            rw [HM.out.ms t ht, if_neg]
            intro h0
            by_cases e : t = q.1
            · rw [e, hpl1] at h0; cases h0
            · rw [if_neg e, h0] at h8; cases h8) (ownsRow_keep hrow (fun j _ hj => hB.block j hj)) (fun k hk e => by have := (hrow.lt k hk).1; omega) HM.out.ne (fun t ht => by
            have h12' := HA.out.2.2.2.2.2
            have h9 := HAll.out t (by show t < P.tasks.toNat; have := HJ4.out.t; omega)
            have h8 : (if t = q.1 then (2 : Int) else P.pl t) = 2 := h9
            have h7 := hg t (by omega) h9
            have h6 := HM.out.num t ht (fun h0 => by
              by_cases e : t = q.1
              · rw [e, hpl1] at h0; cases h0
              · rw [if_neg e, h0] at h8; cases h8)
            exact ⟨h7.1, h7.2.below hB, by omega, by omega⟩) (fun h => h.2.2 (.inl rfl)))
        clear hQ hB HPk hrow hT' hk hg hsb hpl1
        go_wp2_with fail
        refine HSp.out.mono ?_
        rintro e w6 ⟨rfl, hg6⟩
        have HJ7 := hid (HJ4.out.over (P1 := P.gath q.1 q.2) (x := 2) (y' := y.shut) HS.out rfl rfl rfl rfl (by omega) Hun.out HB.out hg6 rfl rfl rfl)
        clear hg6 HSp hs
        go_wp2
        exact bodyPost_ret (v := .bool true) (by simp [results, Try.results20, go_sem]) rfl ⟨hb, (P.gath q.1 q.2).fin 2, [], num, y.shut, rfl, HJ7.out, by show y.marks ≤ y.marks + 1; omega⟩
  have k3' : (o.kind == 3) = false := by simp [k3]
  by_cases k4 : o.kind = 4
  · rw [k4] at x0
    clear k1 k1' k2 k2' k3 k3'
    have HAb := hid (abort_any w4 b P (lets ts) HJ4.out.r.i HJ4.out.r.inb)
    by_cases u0 : P.under = 0
    · have HU0 := hid u0
      clear u0
      go_wp2_with fail
      refine HAb.out.mono ?_
      rintro e w5 ⟨P5, L5, hQ⟩
      have hs := hQ.s
      obtain ⟨rfl, rfl, rfl⟩ := hQ.n HU0.out
      have hJ5 := HJ4.out.stay hs
      have HJ5 := hid hJ5
      have c0 := hJ5.box.cell 0
      have f0 := hJ5.box.frozen 0
      have sl := hJ5.box.lt
      simp [Sy.arr] at c0
      rw [show y.id = 0 from hJ5.id.trans HU0.out] at c0
      clear hQ hs HAb hJ5
      go_wp2
      exact bodyPost_ret (v := .bool true) (by simp [results, Try.results20, go_sem]) rfl ⟨hb, P5, ts, num, _, rfl, HJ5.out.idle HU0.out ⟨HJ5.out.box.set 0 _, (But.one w5 sb).setAt 0 _⟩, by show y.marks ≤ y.marks + 1; omega⟩
    · have HU0 := hid u0
      have Hun := hid (Ps.last1 u0).1
      have hpos : 0 < y.id := by rw [HJ4.out.id]; exact Ps.under_pos HJ4.out.r.i u0
      have hid9 := hid HJ4.out.id
      clear u0
      go_wp2_with fail
      refine HAb.out.mono ?_
      rintro e w5 ⟨P5, L5, hQ⟩
      have hs := hQ.s
      obtain ⟨rfl, rfl, rfl⟩ := hQ.y HU0.out
      rw [← hid9.out]
      have HS := hid hs
      have hk := HJ4.out.keptP hs
      have HK := hid hk.1
      have c0 := hk.1.cell 0
      have f0 := hk.1.frozen 0
      have sl := hk.1.lt
      simp [Sy.arr] at c0
      clear hQ hs HAb hk
      go_wp2
      exact bodyPost_ret (v := .bool true) (by simp [results, Try.results20, go_sem]) rfl ⟨hb, P.fin 4, [], num, _, rfl, HJ4.out.over (P1 := P) (x := 4) (y' := { y with id := 0 }) HS.out rfl rfl rfl rfl (by omega) Hun.out (Below.refl _ _) ⟨HK.out.set 0 _, (But.one w5 sb).setAt 0 _⟩ rfl rfl rfl, by show y.marks ≤ y.marks + 1; omega⟩
  have k4' : (o.kind == 4) = false := by simp [k4]
  clear k1 k2 k3 k4
  go_wp2
  exact bodyPost_ret (v := .bool true) (by simp [results, Try.results20, go_sem]) rfl ⟨hb, P, ts, num, y, rfl, HJ4.out, by omega⟩
end Go.Proofs.Ytldkepokcbjlpaa
