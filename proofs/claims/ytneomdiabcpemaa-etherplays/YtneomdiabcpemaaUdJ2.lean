import Derived.Test.YtneomdiabcpemaaPack24
namespace Go.Proofs.Ytneomdiabcpemaa
open Go.RowKit
set_option maxRecDepth 8000
set_option maxHeartbeats 8000000 in
theorem play_2 (w : World) (Z Z1 Z2 : Nat → Prop) (xb b rb : Nat) (m : Int) (A : List FA) (N : Nat) (h : PrI w Z Z1 Z2 xb b rb m A A N) (hN : (N + 1) * 48 ≤ 140737488355328) (wh a1 b1 : Int) (y : BY) (_hy : Byts w Z y.p y.n y.c y.f) (_ha1 : a1 ≤ 9223372036854775807) (_hb1 : b1 ≤ 9223372036854775807) :
    Calls Try.prog 25 #[.pointer (some ⟨xb, 0, none⟩), .agg #[.int .i64 2, .int .i64 wh, .int .i64 a1, .int .i64 b1, .slice y.p y.n y.c]] w fun e w' => PlQ w Z xb N e w' := by
  obtain ⟨V, hV⟩ : ∃ V, V = w.alloc (.cells #[.int .i64 2, .int .i64 wh, .int .i64 a1, .int .i64 b1, .slice y.p y.n y.c] 48) := ⟨_, rfl⟩
  have hBV : Below w.heap.size w V := by rw [hV]; exact (Below.refl _ _).alloc (Nat.le_refl _) _
  have hX : Box V w.heap.size #[.int .i64 2, .int .i64 wh, .int .i64 a1, .int .i64 b1, .slice y.p y.n y.c] 48 := by rw [hV]; exact Box.new _ _ _
  have hVs : V.heap.size = w.heap.size + 1 := by rw [hV]; simp
  have hlen := h.len
  have hZl : ∀ k, Z k → k < w.heap.size := fun k hk => h.l1 k (h.s1 k hk)
  have hp := h.more hBV
  have hZx : (Z w.heap.size ∨ Bt w.heap.size V.heap.size w.heap.size) := .inr ⟨Nat.le_refl _, by omega⟩
  have HQ : Hid (∀ (w' : World) (Z1 Z2 : Nat → Prop) (A : List FA), PrI w' (fun k => Z k ∨ Bt w.heap.size V.heap.size k) Z1 Z2 xb b rb m A A (N + 1) → Fr (fun k => Z k ∨ Bt w.heap.size V.heap.size k) V w' → Pr w' Z xb (N + 1) ∧ Fr Z w w') := fun w' Z1 Z2 A h1 h2 => PlQ.of hBV h1 h2
  have hyV : Byts V (fun k => Z k ∨ Bt w.heap.size V.heap.size k) y.p y.n y.c y.f := (_hy.kept hBV.size fun k _ hk => hBV.block k hk).mono fun k hk _ => .inl hk
  obtain ⟨Zv, hZv⟩ : ∃ Zv : Nat → Prop, Zv = fun k => Z k ∨ Bt w.heap.size V.heap.size k := ⟨_, rfl⟩
  have hZx1 : Zv w.heap.size := by rw [hZv]; exact hZx
  rw [← hZv] at hp HQ hyV
  obtain ⟨Y1, hY1⟩ : ∃ Y1 : Nat → Prop, Y1 = fun k => Z1 k ∨ Bt w.heap.size V.heap.size k := ⟨_, rfl⟩
  obtain ⟨Y2, hY2⟩ : ∃ Y2 : Nat → Prop, Y2 = fun k => Z2 k ∨ Bt w.heap.size V.heap.size k := ⟨_, rfl⟩
  rw [← hY1, ← hY2] at hp
  have HP := hid hp
  have HX := hid hX
  have HZx := hid hZx1
  have HV := hid hV
  have HN := hid hN
  have HL := hid hlen
  have HY := hid hyV
  have Ha1 := hid _ha1
  have Hb1 := hid _hb1
  have o0 := hX.cell 0
  have o2 := hX.cell 2
  have o3 := hX.cell 3
  have o4 := hX.cell 4
  simp at o0 o2 o3 o4
  have ol := hX.lt
  have k0 := hp.bx.cell 0
  have k1 := hp.bx.cell 1
  simp at k0 k1
  have kl := hp.bx.lt
  clear h hN hlen hZl hX hV hVs hp hZx hZx1 hZv hY1 hY2 hBV hyV _hy _ha1 _hb1
  go_enter Try.func25, Try.ntmps25
  go_upto_region 1 with fail
  rw [← HV.out]
  obtain ⟨a, x, A', hd1, hd2⟩ := duo_deliver (N := N) a1 Ha1.out (by have := HN.out; omega) xb b rb m A HL.out
  have HD1 := hid hd1
  have HD2 := hid hd2
  clear hd1 hd2
  go_upto_region 15 with fail
  refine wp_region_calmE 30 (fun wx => Box wx xb #[.pointer (some ⟨b, 0, none⟩), .pointer (some ⟨rb, 0, none⟩)] 71 ∧ Box wx w.heap.size #[.int .i64 2, .int .i64 wh, .int .i64 a1, .int .i64 b1, .slice y.p y.n y.c] 48) [(0, true), (1, true), (2, true), (3, false), (4, true), (5, false)] (.two 6 false [(7, true), (8, true), (9, true)] (.one 10 true [] (.one 11 false [(12, true)] .done)) 10 true [] (.one 6 false [(7, true), (8, true), (9, true)] (.one 11 false [(12, true)] .done))) (by kernel_rfl) (by kernel_rfl) ⟨HP.out.bx, HX.out⟩ ?_
  refine wpPre_e rfl rfl (fun K1 hK1 => ?_)
  apply Exists.intro
  refine And.intro (fun wx hx => ?_) ?_
  · go_simp
    try rfl
  go_simp
  refine hK1 _ ?_
  clear hK1 K1
  refine wpPre_e rfl rfl (fun K1 hK1 => ?_)
  apply Exists.intro
  refine And.intro (fun wx hx => ?_) ?_
  · go_simp
    try rfl
  go_simp
  refine hK1 _ ?_
  clear hK1 K1
  refine wpPre_e rfl rfl (fun K1 hK1 => ?_)
  apply Exists.intro
  refine And.intro (fun wx hx => ?_) ?_
  · go_simp
    try rfl
  go_simp
  refine hK1 _ ?_
  clear hK1 K1
  refine wpPre_e rfl rfl (fun K1 hK1 => ?_)
  apply Exists.intro
  refine And.intro (fun wx hx => ?_) ?_
  · have hy := hx.resolve_left (by decide)
    have e0 := hy.1.cell 0
    simp at e0
    go_simp
    try rfl
  go_simp
  refine hK1 _ ?_
  clear hK1 K1
  refine wpPre_e rfl rfl (fun K1 hK1 => ?_)
  apply Exists.intro
  refine And.intro (fun wx hx => ?_) ?_
  · go_simp
    try rfl
  go_simp
  refine hK1 _ ?_
  clear hK1 K1
  refine wpPre_e rfl rfl (fun K1 hK1 => ?_)
  apply Exists.intro
  refine And.intro (fun wx hx => ?_) ?_
  · have hy := hx.resolve_left (by decide)
    have e0 := hy.2.cell 2
    simp at e0
    go_simp
    try rfl
  go_simp
  refine hK1 _ ?_
  clear hK1 K1
  refine wpPre_nil ?_
  refine wpTr_two rfl rfl (fun K1 hK1 => ?_) (fun K1 hK1 => ?_)
  case _ =>
    refine step_callG (by first | rfl | go_simp) 11 #[.tmp 82, .tmp 84] _ rfl Try.f11 Try.func11 (by kernel_rfl) rfl #[.pointer (some ⟨b, 0, none⟩), .int .i64 a1] rfl _ (HD1.out _ _ _ _ HP.out.drew) ?_
    rintro e w2 ⟨p2, c2, Zy, rfl, hk2, hz2, hF0, Y3, Y4, hP2⟩
    refine ⟨_, rfl, ?_⟩
    have hF2 : Fr Zv V w2 := (show Fr Zv V V.drew from (But.refl _ _).drew).trans hF0
    have HX1 := hid (HX.out.but hF2 (fun h => h HZx.out))
    have HP1 := hid hP2
    have HF1 := hid hF2
    have Hk1 := hid hk2
    have Hz1 := hid hz2
    clear hF0 hF2 hP2 hk2 hz2
    go_simp
    refine hK1 _ _ (fun h => by cases h) ?_
    clear hK1 K1
    refine wpPre_e rfl rfl (fun K1 hK1 => ?_)
    apply Exists.intro
    refine And.intro (fun wx hx => ?_) ?_
    · go_simp
      try rfl
    go_simp
    refine hK1 _ ?_
    clear hK1 K1
    refine wpPre_e rfl rfl (fun K1 hK1 => ?_)
    apply Exists.intro
    refine And.intro (fun wx hx => ?_) ?_
    · go_simp
      try rfl
    go_simp
    refine hK1 _ ?_
    clear hK1 K1
    refine wpPre_e rfl rfl (fun K1 hK1 => ?_)
    apply Exists.intro
    refine And.intro (fun wx hx => ?_) ?_
    · go_simp
      try rfl
    go_simp
    refine hK1 _ ?_
    clear hK1 K1
    refine wpPre_nil ?_
    refine wpTr_e rfl (fun K1 hK1 => ?_)
    go_simp
    refine hK1 _ _ (fun _ => ⟨HP1.out.bx.below ((Below.refl _ _).alloc (Nat.le_refl _) _), HX1.out.below ((Below.refl _ _).alloc (Nat.le_refl _) _)⟩) ?_
    clear hK1 K1
    refine wpPre_nil ?_
    refine wpTr_e rfl (fun K1 hK1 => ?_)
    go_simp
    obtain ⟨T, hT⟩ : ∃ U, U = w2.alloc (.cells #[.int .i64 a.fr, .int .i64 a.tt, .slice p2 a.zs.length c2] 32) := ⟨_, rfl⟩
    rw [← hT]
    have hbT : Below w2.heap.size w2 T := by rw [hT]; exact ((Below.refl _ _).alloc (Nat.le_refl _) _)
    have HFb : Hid (Box T w2.heap.size #[.int .i64 a.fr, .int .i64 a.tt, .slice p2 a.zs.length c2] 32) := by show Box _ _ _ _; rw [hT]; exact Box.new _ _ _
    have hpm := HP1.out.more hbT
    obtain ⟨Zw, hZw⟩ : ∃ Zw : Nat → Prop, Zw = fun k => Zy k ∨ Bt w2.heap.size T.heap.size k := ⟨_, rfl⟩
    have HZb : Hid (Zw w2.heap.size) := by show Zw _; rw [hZw]; exact .inr ⟨Nat.le_refl _, HFb.out.lt⟩
    have HZs : Hid (∀ k, Zv k → Zw k) := fun k hk => by rw [hZw]; exact .inl (Hz1.out k hk)
    have HKp : Hid (Kp T Zw p2 c2 a.zs) := (Hk1.out.fr (Fr.below hbT)).mono fun k hk => by rw [hZw]; exact .inl hk
    rw [← hZw] at hpm
    have HP2 := hid hpm
    have HX2 := hid (HX1.out.below hbT)
    have HF2 : Hid (Fr Zv V T) := HF1.out.trans (Fr.below hbT)
    clear hbT hT hpm hZw HP1 HX1 HF1 Hk1 Hz1
    refine hK1 _ _ (fun h => by cases h) ?_
    clear hK1 K1
    refine wpPre_e rfl rfl (fun K1 hK1 => ?_)
    apply Exists.intro
    refine And.intro (fun wx hx => ?_) ?_
    · go_simp
      try rfl
    go_simp
    refine hK1 _ ?_
    clear hK1 K1
    refine wpPre_nil ?_
    refine wpTr_done ?_
    clear k0 k1 kl o0 o2 o3 o4 ol
    go_upto_region 16 with fail
    refine wp_region_calmE 30 (fun wx => Box wx xb #[.pointer (some ⟨b, 0, none⟩), .pointer (some ⟨rb, 0, none⟩)] 71 ∧ Box wx w.heap.size #[.int .i64 2, .int .i64 wh, .int .i64 a1, .int .i64 b1, .slice y.p y.n y.c] 48) [(0, true), (1, true), (2, true), (3, false), (4, true), (5, false)] (.two 6 false [(7, true), (8, true), (9, true)] (.one 10 true [] (.one 11 false [(12, true)] .done)) 10 true [] (.one 6 false [(7, true), (8, true), (9, true)] (.one 11 false [(12, true)] .done))) (by kernel_rfl) (by kernel_rfl) ⟨HP2.out.bx, HX2.out⟩ ?_
    refine wpPre_e rfl rfl (fun K1 hK1 => ?_)
    apply Exists.intro
    refine And.intro (fun wx hx => ?_) ?_
    · go_simp
      try rfl
    go_simp
    refine hK1 _ ?_
    clear hK1 K1
    refine wpPre_e rfl rfl (fun K1 hK1 => ?_)
    apply Exists.intro
    refine And.intro (fun wx hx => ?_) ?_
    · go_simp
      try rfl
    go_simp
    refine hK1 _ ?_
    clear hK1 K1
    refine wpPre_e rfl rfl (fun K1 hK1 => ?_)
    apply Exists.intro
    refine And.intro (fun wx hx => ?_) ?_
    · go_simp
      try rfl
    go_simp
    refine hK1 _ ?_
    clear hK1 K1
    refine wpPre_e rfl rfl (fun K1 hK1 => ?_)
    apply Exists.intro
    refine And.intro (fun wx hx => ?_) ?_
    · have hy := hx.resolve_left (by decide)
      have e0 := hy.1.cell 1
      simp at e0
      go_simp
      try rfl
    go_simp
    refine hK1 _ ?_
    clear hK1 K1
    refine wpPre_e rfl rfl (fun K1 hK1 => ?_)
    apply Exists.intro
    refine And.intro (fun wx hx => ?_) ?_
    · go_simp
      try rfl
    go_simp
    refine hK1 _ ?_
    clear hK1 K1
    refine wpPre_e rfl rfl (fun K1 hK1 => ?_)
    apply Exists.intro
    refine And.intro (fun wx hx => ?_) ?_
    · have hy := hx.resolve_left (by decide)
      have e0 := hy.2.cell 2
      simp at e0
      go_simp
      try rfl
    go_simp
    refine hK1 _ ?_
    clear hK1 K1
    refine wpPre_nil ?_
    refine wpTr_two rfl rfl (fun K1 hK1 => ?_) (fun K1 hK1 => ?_)
    case _ =>
      refine step_callG (by first | rfl | go_simp) 35 #[.tmp 92, .tmp 94] _ rfl Try.f35 Try.func35 (by kernel_rfl) rfl #[.pointer (some ⟨rb, 0, none⟩), .int .i64 a1] rfl _ (HD2.out _ _ _ _ HP2.out.drew) ?_
      rintro e w3 ⟨q, c3, rfl, hs3, Y5, Y6, hP3, hF0⟩
      refine ⟨_, rfl, ?_⟩
      have hF3 : Fr Zw T w3 := (show Fr Zw T T.drew from (But.refl _ _).drew).trans hF0
      have HX3 := hid (HX2.out.but hF3 (fun h => h (HZs.out _ HZx.out)))
      have HP3 := hid hP3
      have HF3 := hid hF3
      have Hs3 := hid hs3
      clear hF0 hF3 hP3 hs3
      go_simp
      refine hK1 _ _ (fun h => by cases h) ?_
      clear hK1 K1
      refine wpPre_e rfl rfl (fun K1 hK1 => ?_)
      apply Exists.intro
      refine And.intro (fun wx hx => ?_) ?_
      · go_simp
        try rfl
      go_simp
      refine hK1 _ ?_
      clear hK1 K1
      refine wpPre_e rfl rfl (fun K1 hK1 => ?_)
      apply Exists.intro
      refine And.intro (fun wx hx => ?_) ?_
      · go_simp
        try rfl
      go_simp
      refine hK1 _ ?_
      clear hK1 K1
      refine wpPre_e rfl rfl (fun K1 hK1 => ?_)
      apply Exists.intro
      refine And.intro (fun wx hx => ?_) ?_
      · go_simp
        try rfl
      go_simp
      refine hK1 _ ?_
      clear hK1 K1
      refine wpPre_nil ?_
      refine wpTr_e rfl (fun K1 hK1 => ?_)
      go_simp
      refine hK1 _ _ (fun _ => ⟨HP3.out.bx.below ((Below.refl _ _).alloc (Nat.le_refl _) _), HX3.out.below ((Below.refl _ _).alloc (Nat.le_refl _) _)⟩) ?_
      clear hK1 K1
      refine wpPre_nil ?_
      refine wpTr_e rfl (fun K1 hK1 => ?_)
      go_simp
      obtain ⟨T2, hT2⟩ : ∃ U, U = w3.alloc (.cells #[.int .i64 a.fr, .int .i64 a.tt, .slice q a.zs.length c3] 32) := ⟨_, rfl⟩
      rw [← hT2]
      have hbT : Below w3.heap.size w3 T2 := by rw [hT2]; exact ((Below.refl _ _).alloc (Nat.le_refl _) _)
      have HFc4 : Hid (Box T2 w3.heap.size #[.int .i64 a.fr, .int .i64 a.tt, .slice q a.zs.length c3] 32) := by show Box _ _ _ _; rw [hT2]; exact Box.new _ _ _
      have HFb4 : Hid (Box T2 w2.heap.size #[.int .i64 a.fr, .int .i64 a.tt, .slice p2 a.zs.length c2] 32) := (HFb.out.but HF3.out (fun h => h HZb.out)).below hbT
      have Hs4 : Hid (Src T2 p2 a.zs.length c2 1 (a.zs.map (.int .u8))) := ((HKp.out.fr HF3.out).fr (Fr.below hbT)).src
      have Hs5 : Hid (Src T2 q a.zs.length c3 1 (a.zs.map (.int .u8))) := Hs3.out.below hbT
      have HP4 := hid ((HP3.out.less HZs.out).below hbT)
      have HF4 : Hid (Fr Zv V T2) := (HF2.out.trans (HF3.out.less HZs.out)).trans (Fr.below hbT)
      clear hbT hT2
      refine hK1 _ _ (fun h => by cases h) ?_
      clear hK1 K1
      refine wpPre_e rfl rfl (fun K1 hK1 => ?_)
      apply Exists.intro
      refine And.intro (fun wx hx => ?_) ?_
      · go_simp
        try rfl
      go_simp
      refine hK1 _ ?_
      clear hK1 K1
      refine wpPre_nil ?_
      refine wpTr_done ?_
      have q0 := HFb4.out.cell 0
      have q1 := HFb4.out.cell 1
      have q2 := HFb4.out.cell 2
      have qn := HFb4.out.lt
      have r0 := HFc4.out.cell 0
      have r1 := HFc4.out.cell 1
      have r2 := HFc4.out.cell 2
      have rn := HFc4.out.lt
      simp at q0 q1 q2 r0 r1 r2
      have hxx : (x == x) = true := by simp
      have HSf := hid (sameF_yes T2 a.fr a.tt a.zs p2 q c2 c3 Hs4.out Hs5.out)
      go_wp2_with fail
      refine HSf.out.mono ?_
      rintro e w5 ⟨rfl, hb5⟩
      have HP5 := hid (HP4.out.below hb5)
      have HF5 : Hid (Fr Zv V w5) := HF4.out.trans (Fr.below hb5)
      clear hb5 HSf
      go_wp2
      refine bodyPost_ret (v := .bool true) (by simp [results, Try.results25, go_sem]) rfl ⟨rfl, ?_⟩
      exact HQ.out _ _ _ _ (HP5.out.mono (Nat.le_succ _)) HF5.out
    case _ =>
      go_simp
      obtain ⟨W2, hW2⟩ : ∃ U, U = (T.alloc (.cells #[.int .i64 0, .int .i64 0, .slice none 0 0] 32)).drew := ⟨_, rfl⟩
      rw [← hW2]
      have hb2 : Below T.heap.size T W2 := by rw [hW2]; exact ((Below.refl _ _).alloc (Nat.le_refl _) _).drew
      have hf2 : Box W2 T.heap.size #[.int .i64 0, .int .i64 0, .slice none 0 0] 32 := by rw [hW2]; exact (Box.new _ _ _).below (Below.refl _ _).drew
      have HB2 := hid hb2
      have HG2 := hid hf2
      have hpm := HP2.out.more hb2
      obtain ⟨Zx, hZx⟩ : ∃ Zx : Nat → Prop, Zx = fun k => Zw k ∨ Bt T.heap.size W2.heap.size k := ⟨_, rfl⟩
      have HZf : Hid (Zx T.heap.size) := by show Zx _; rw [hZx]; exact .inr ⟨Nat.le_refl _, hf2.lt⟩
      have HZt : Hid (∀ k, Zw k → Zx k) := fun k hk => by rw [hZx]; exact .inl hk
      rw [← hZx] at hpm
      have HPm := hid hpm
      refine hK1 _ _ (fun _ => ⟨HP2.out.bx.below hb2, HX2.out.below hb2⟩) ?_
      clear hK1 K1 hb2 hf2 hpm hZx hW2
      refine wpPre_nil ?_
      refine wpTr_e rfl (fun K1 hK1 => ?_)
      refine step_callG (by first | rfl | go_simp) 35 #[.tmp 92, .tmp 94] _ rfl Try.f35 Try.func35 (by kernel_rfl) rfl #[.pointer (some ⟨rb, 0, none⟩), .int .i64 a1] rfl _ (HD2.out _ _ _ _ HPm.out) ?_
      rintro e w3 ⟨q, c3, rfl, hs3, Y5, Y6, hP3, hF3⟩
      refine ⟨_, rfl, ?_⟩
      have HG3 := hid (HG2.out.but hF3 (fun h => h HZf.out))
      have HP3 := hid hP3
      have HF3 := hid hF3
      have Hs3 := hid hs3
      clear hF3 hP3 hs3
      go_simp
      refine hK1 _ _ (fun h => by cases h) ?_
      clear hK1 K1
      refine wpPre_e rfl rfl (fun K1 hK1 => ?_)
      apply Exists.intro
      refine And.intro (fun wx hx => ?_) ?_
      · go_simp
        try rfl
      go_simp
      refine hK1 _ ?_
      clear hK1 K1
      refine wpPre_e rfl rfl (fun K1 hK1 => ?_)
      apply Exists.intro
      refine And.intro (fun wx hx => ?_) ?_
      · go_simp
        try rfl
      go_simp
      refine hK1 _ ?_
      clear hK1 K1
      refine wpPre_e rfl rfl (fun K1 hK1 => ?_)
      apply Exists.intro
      refine And.intro (fun wx hx => ?_) ?_
      · go_simp
        try rfl
      go_simp
      refine hK1 _ ?_
      clear hK1 K1
      refine wpPre_nil ?_
      have f0 := HG3.out.cell 0
      have f1 := HG3.out.cell 1
      have f2 := HG3.out.cell 2
      have g0 := HG3.out.frozen 0
      have g1 := HG3.out.frozen 1
      have g2 := HG3.out.frozen 2
      have gl := HG3.out.lt
      simp at f0 f1 f2
      refine wpTr_e rfl (fun K1 hK1 => ?_)
      go_simp
      obtain ⟨T2, hT2⟩ : ∃ U, U = ((w3.setCell ⟨T.heap.size, 0, none⟩ (.int .i64 a.fr)).setCell ⟨T.heap.size, 1, none⟩ (.int .i64 a.tt)).setCell ⟨T.heap.size, 2, none⟩ (.slice q a.zs.length c3) := ⟨_, rfl⟩
      rw [← hT2]
      have hbT : But (fun k => k = T.heap.size) w3 T2 := by rw [hT2]; exact But.sets3 _ _ _ _ _
      have HFc4 : Hid (Box T2 T.heap.size #[.int .i64 a.fr, .int .i64 a.tt, .slice q a.zs.length c3] 32) := by show Box _ _ _ _; rw [hT2]; exact HG3.out.sets3 _ _ _
      have hfn : w2.heap.size ≠ T.heap.size := fun e => by have := HFb.out.lt; omega
      have HFb4 : Hid (Box T2 w2.heap.size #[.int .i64 a.fr, .int .i64 a.tt, .slice p2 a.zs.length c2] 32) := ((HFb.out.below HB2.out).but HF3.out (fun h => h (HZt.out _ HZb.out))).but hbT hfn
      have Hs4 : Hid (Src T2 p2 a.zs.length c2 1 (a.zs.map (.int .u8))) := ((((HKp.out.fr (Fr.below HB2.out)).mono HZt.out).fr HF3.out).fl hbT HG3.out).src
      have Hs5 : Hid (Src T2 q a.zs.length c3 1 (a.zs.map (.int .u8))) := Hs3.out.fl hbT HG3.out
      have HP4 := hid (HP3.out.but (Z' := Zv) (hbT.mono fun k _ e => by have e' : k = T.heap.size := e; rw [e']; exact HZf.out) (fun k _ hk => HZt.out _ (HZs.out k hk)) (fun k hk => Nat.lt_of_lt_of_le (HP3.out.l1 k (HP3.out.s1 k (HZt.out _ (HZs.out k hk)))) hbT.size))
      have HF4 : Hid (Fr Zv V T2) := ((HF2.out.trans (Fr.below HB2.out)).trans (HF3.out.less fun k hk => HZt.out _ (HZs.out k hk))).trans (hbT.mono fun k _ e hk => by
        have e' : k = T.heap.size := e
        have h1 := HP2.out.l1 k (HP2.out.s1 k (HZs.out k hk))
        omega)
      clear hbT hT2 hfn
      refine hK1 _ _ (fun h => by cases h) ?_
      clear hK1 K1
      refine wpPre_e rfl rfl (fun K1 hK1 => ?_)
      apply Exists.intro
      refine And.intro (fun wx hx => ?_) ?_
      · go_simp
        try rfl
      go_simp
      refine hK1 _ ?_
      clear hK1 K1
      refine wpPre_nil ?_
      refine wpTr_done ?_
      clear f0 f1 f2 g0 g1 g2 gl
      have q0 := HFb4.out.cell 0
      have q1 := HFb4.out.cell 1
      have q2 := HFb4.out.cell 2
      have qn := HFb4.out.lt
      have r0 := HFc4.out.cell 0
      have r1 := HFc4.out.cell 1
      have r2 := HFc4.out.cell 2
      have rn := HFc4.out.lt
      simp at q0 q1 q2 r0 r1 r2
      have hxx : (x == x) = true := by simp
      have HSf := hid (sameF_yes T2 a.fr a.tt a.zs p2 q c2 c3 Hs4.out Hs5.out)
      go_wp2_with fail
      refine HSf.out.mono ?_
      rintro e w5 ⟨rfl, hb5⟩
      have HP5 := hid (HP4.out.below hb5)
      have HF5 : Hid (Fr Zv V w5) := HF4.out.trans (Fr.below hb5)
      clear hb5 HSf
      go_wp2
      refine bodyPost_ret (v := .bool true) (by simp [results, Try.results25, go_sem]) rfl ⟨rfl, ?_⟩
      exact HQ.out _ _ _ _ (HP5.out.mono (Nat.le_succ _)) HF5.out
  case _ =>
    go_simp
    obtain ⟨W1, hW1⟩ : ∃ U, U = (V.alloc (.cells #[.int .i64 0, .int .i64 0, .slice none 0 0] 32)).drew := ⟨_, rfl⟩
    rw [← hW1]
    have hb1 : Below V.heap.size V W1 := by rw [hW1]; exact ((Below.refl _ _).alloc (Nat.le_refl _) _).drew
    have hf1 : Box W1 V.heap.size #[.int .i64 0, .int .i64 0, .slice none 0 0] 32 := by rw [hW1]; exact (Box.new _ _ _).below (Below.refl _ _).drew
    have HB1 := hid hb1
    have HG1 := hid hf1
    have hpm := HP.out.more hb1
    obtain ⟨Zx, hZx⟩ : ∃ Zx : Nat → Prop, Zx = fun k => Zv k ∨ Bt V.heap.size W1.heap.size k := ⟨_, rfl⟩
    have HZf : Hid (Zx V.heap.size) := by show Zx _; rw [hZx]; exact .inr ⟨Nat.le_refl _, hf1.lt⟩
    have HZt : Hid (∀ k, Zv k → Zx k) := fun k hk => by rw [hZx]; exact .inl hk
    rw [← hZx] at hpm
    have HPm := hid hpm
    refine hK1 _ _ (fun _ => ⟨HP.out.bx.below hb1, HX.out.below hb1⟩) ?_
    clear hK1 K1 hb1 hf1 hpm hZx hW1
    refine wpPre_nil ?_
    refine wpTr_e rfl (fun K1 hK1 => ?_)
    refine step_callG (by first | rfl | go_simp) 11 #[.tmp 82, .tmp 84] _ rfl Try.f11 Try.func11 (by kernel_rfl) rfl #[.pointer (some ⟨b, 0, none⟩), .int .i64 a1] rfl _ (HD1.out _ _ _ _ HPm.out) ?_
    rintro e w2 ⟨p2, c2, Zw, rfl, hk2, hz2, hF2, Y3, Y4, hP2⟩
    refine ⟨_, rfl, ?_⟩
    have HX1 := hid ((HX.out.below HB1.out).but hF2 (fun h => h (HZt.out _ HZx.out)))
    have HG3 := hid (HG1.out.but hF2 (fun h => h HZf.out))
    have HP1 := hid hP2
    have HF1 := hid hF2
    have Hk1 := hid hk2
    have Hz1 := hid hz2
    clear hF2 hP2 hk2 hz2
    go_simp
    refine hK1 _ _ (fun h => by cases h) ?_
    clear hK1 K1
    refine wpPre_e rfl rfl (fun K1 hK1 => ?_)
    apply Exists.intro
    refine And.intro (fun wx hx => ?_) ?_
    · go_simp
      try rfl
    go_simp
    refine hK1 _ ?_
    clear hK1 K1
    refine wpPre_e rfl rfl (fun K1 hK1 => ?_)
    apply Exists.intro
    refine And.intro (fun wx hx => ?_) ?_
    · go_simp
      try rfl
    go_simp
    refine hK1 _ ?_
    clear hK1 K1
    refine wpPre_e rfl rfl (fun K1 hK1 => ?_)
    apply Exists.intro
    refine And.intro (fun wx hx => ?_) ?_
    · go_simp
      try rfl
    go_simp
    refine hK1 _ ?_
    clear hK1 K1
    refine wpPre_nil ?_
    have f0 := HG3.out.cell 0
    have f1 := HG3.out.cell 1
    have f2 := HG3.out.cell 2
    have g0 := HG3.out.frozen 0
    have g1 := HG3.out.frozen 1
    have g2 := HG3.out.frozen 2
    have gl := HG3.out.lt
    simp at f0 f1 f2
    refine wpTr_e rfl (fun K1 hK1 => ?_)
    go_simp
    obtain ⟨T, hT⟩ : ∃ U, U = ((w2.setCell ⟨V.heap.size, 0, none⟩ (.int .i64 a.fr)).setCell ⟨V.heap.size, 1, none⟩ (.int .i64 a.tt)).setCell ⟨V.heap.size, 2, none⟩ (.slice p2 a.zs.length c2) := ⟨_, rfl⟩
    rw [← hT]
    have hbT : But (fun k => k = V.heap.size) w2 T := by rw [hT]; exact But.sets3 _ _ _ _ _
    have HFb : Hid (Box T V.heap.size #[.int .i64 a.fr, .int .i64 a.tt, .slice p2 a.zs.length c2] 32) := by show Box _ _ _ _; rw [hT]; exact HG3.out.sets3 _ _ _
    have HZb : Hid (Zw V.heap.size) := Hz1.out _ HZf.out
    have HZs : Hid (∀ k, Zv k → Zw k) := fun k hk => Hz1.out _ (HZt.out k hk)
    have HKp : Hid (Kp T Zw p2 c2 a.zs) := Hk1.out.fl hbT HG3.out
    have HP2 := hid (HP1.out.but (Z' := Zw) (hbT.mono fun k _ e => by have e' : k = V.heap.size := e; rw [e']; exact HZb.out) (fun k _ hk => hk) (fun k hk => Nat.lt_of_lt_of_le (HP1.out.l1 k (HP1.out.s1 k hk)) hbT.size))
    have HX2 := hid (HX1.out.but hbT (fun e => by have e' : w.heap.size = V.heap.size := e; have := HX.out.lt; omega))
    have HF2 : Hid (Fr Zv V T) := ((Fr.below HB1.out).trans (HF1.out.less HZt.out)).trans (hbT.mono fun k _ e hk => by
      have e' : k = V.heap.size := e
      have h1 := HP.out.l1 k (HP.out.s1 k hk)
      omega)
    clear hbT hT HP1 HX1 HF1 Hk1 Hz1
    refine hK1 _ _ (fun h => by cases h) ?_
    clear hK1 K1
    refine wpPre_e rfl rfl (fun K1 hK1 => ?_)
    apply Exists.intro
    refine And.intro (fun wx hx => ?_) ?_
    · go_simp
      try rfl
    go_simp
    refine hK1 _ ?_
    clear hK1 K1
    refine wpPre_nil ?_
    refine wpTr_done ?_
    clear f0 f1 f2 g0 g1 g2 gl HZf HZt HPm HB1 HG1 HG3
    clear k0 k1 kl o0 o2 o3 o4 ol
    go_upto_region 16 with fail
    refine wp_region_calmE 30 (fun wx => Box wx xb #[.pointer (some ⟨b, 0, none⟩), .pointer (some ⟨rb, 0, none⟩)] 71 ∧ Box wx w.heap.size #[.int .i64 2, .int .i64 wh, .int .i64 a1, .int .i64 b1, .slice y.p y.n y.c] 48) [(0, true), (1, true), (2, true), (3, false), (4, true), (5, false)] (.two 6 false [(7, true), (8, true), (9, true)] (.one 10 true [] (.one 11 false [(12, true)] .done)) 10 true [] (.one 6 false [(7, true), (8, true), (9, true)] (.one 11 false [(12, true)] .done))) (by kernel_rfl) (by kernel_rfl) ⟨HP2.out.bx, HX2.out⟩ ?_
    refine wpPre_e rfl rfl (fun K1 hK1 => ?_)
    apply Exists.intro
    refine And.intro (fun wx hx => ?_) ?_
    · go_simp
      try rfl
    go_simp
    refine hK1 _ ?_
    clear hK1 K1
    refine wpPre_e rfl rfl (fun K1 hK1 => ?_)
    apply Exists.intro
    refine And.intro (fun wx hx => ?_) ?_
    · go_simp
      try rfl
    go_simp
    refine hK1 _ ?_
    clear hK1 K1
    refine wpPre_e rfl rfl (fun K1 hK1 => ?_)
    apply Exists.intro
    refine And.intro (fun wx hx => ?_) ?_
    · go_simp
      try rfl
    go_simp
    refine hK1 _ ?_
    clear hK1 K1
    refine wpPre_e rfl rfl (fun K1 hK1 => ?_)
    apply Exists.intro
    refine And.intro (fun wx hx => ?_) ?_
    · have hy := hx.resolve_left (by decide)
      have e0 := hy.1.cell 1
      simp at e0
      go_simp
      try rfl
    go_simp
    refine hK1 _ ?_
    clear hK1 K1
    refine wpPre_e rfl rfl (fun K1 hK1 => ?_)
    apply Exists.intro
    refine And.intro (fun wx hx => ?_) ?_
    · go_simp
      try rfl
    go_simp
    refine hK1 _ ?_
    clear hK1 K1
    refine wpPre_e rfl rfl (fun K1 hK1 => ?_)
    apply Exists.intro
    refine And.intro (fun wx hx => ?_) ?_
    · have hy := hx.resolve_left (by decide)
      have e0 := hy.2.cell 2
      simp at e0
      go_simp
      try rfl
    go_simp
    refine hK1 _ ?_
    clear hK1 K1
    refine wpPre_nil ?_
    refine wpTr_two rfl rfl (fun K1 hK1 => ?_) (fun K1 hK1 => ?_)
    case _ =>
      refine step_callG (by first | rfl | go_simp) 35 #[.tmp 92, .tmp 94] _ rfl Try.f35 Try.func35 (by kernel_rfl) rfl #[.pointer (some ⟨rb, 0, none⟩), .int .i64 a1] rfl _ (HD2.out _ _ _ _ HP2.out.drew) ?_
      rintro e w3 ⟨q, c3, rfl, hs3, Y5, Y6, hP3, hF0⟩
      refine ⟨_, rfl, ?_⟩
      have hF3 : Fr Zw T w3 := (show Fr Zw T T.drew from (But.refl _ _).drew).trans hF0
      have HX3 := hid (HX2.out.but hF3 (fun h => h (HZs.out _ HZx.out)))
      have HP3 := hid hP3
      have HF3 := hid hF3
      have Hs3 := hid hs3
      clear hF0 hF3 hP3 hs3
      go_simp
      refine hK1 _ _ (fun h => by cases h) ?_
      clear hK1 K1
      refine wpPre_e rfl rfl (fun K1 hK1 => ?_)
      apply Exists.intro
      refine And.intro (fun wx hx => ?_) ?_
      · go_simp
        try rfl
      go_simp
      refine hK1 _ ?_
      clear hK1 K1
      refine wpPre_e rfl rfl (fun K1 hK1 => ?_)
      apply Exists.intro
      refine And.intro (fun wx hx => ?_) ?_
      · go_simp
        try rfl
      go_simp
      refine hK1 _ ?_
      clear hK1 K1
      refine wpPre_e rfl rfl (fun K1 hK1 => ?_)
      apply Exists.intro
      refine And.intro (fun wx hx => ?_) ?_
      · go_simp
        try rfl
      go_simp
      refine hK1 _ ?_
      clear hK1 K1
      refine wpPre_nil ?_
      refine wpTr_e rfl (fun K1 hK1 => ?_)
      go_simp
      refine hK1 _ _ (fun _ => ⟨HP3.out.bx.below ((Below.refl _ _).alloc (Nat.le_refl _) _), HX3.out.below ((Below.refl _ _).alloc (Nat.le_refl _) _)⟩) ?_
      clear hK1 K1
      refine wpPre_nil ?_
      refine wpTr_e rfl (fun K1 hK1 => ?_)
      go_simp
      obtain ⟨T2, hT2⟩ : ∃ U, U = w3.alloc (.cells #[.int .i64 a.fr, .int .i64 a.tt, .slice q a.zs.length c3] 32) := ⟨_, rfl⟩
      rw [← hT2]
      have hbT : Below w3.heap.size w3 T2 := by rw [hT2]; exact ((Below.refl _ _).alloc (Nat.le_refl _) _)
      have HFc4 : Hid (Box T2 w3.heap.size #[.int .i64 a.fr, .int .i64 a.tt, .slice q a.zs.length c3] 32) := by show Box _ _ _ _; rw [hT2]; exact Box.new _ _ _
      have HFb4 : Hid (Box T2 V.heap.size #[.int .i64 a.fr, .int .i64 a.tt, .slice p2 a.zs.length c2] 32) := (HFb.out.but HF3.out (fun h => h HZb.out)).below hbT
      have Hs4 : Hid (Src T2 p2 a.zs.length c2 1 (a.zs.map (.int .u8))) := ((HKp.out.fr HF3.out).fr (Fr.below hbT)).src
      have Hs5 : Hid (Src T2 q a.zs.length c3 1 (a.zs.map (.int .u8))) := Hs3.out.below hbT
      have HP4 := hid ((HP3.out.less HZs.out).below hbT)
      have HF4 : Hid (Fr Zv V T2) := (HF2.out.trans (HF3.out.less HZs.out)).trans (Fr.below hbT)
      clear hbT hT2
      refine hK1 _ _ (fun h => by cases h) ?_
      clear hK1 K1
      refine wpPre_e rfl rfl (fun K1 hK1 => ?_)
      apply Exists.intro
      refine And.intro (fun wx hx => ?_) ?_
      · go_simp
        try rfl
      go_simp
      refine hK1 _ ?_
      clear hK1 K1
      refine wpPre_nil ?_
      refine wpTr_done ?_
      have q0 := HFb4.out.cell 0
      have q1 := HFb4.out.cell 1
      have q2 := HFb4.out.cell 2
      have qn := HFb4.out.lt
      have r0 := HFc4.out.cell 0
      have r1 := HFc4.out.cell 1
      have r2 := HFc4.out.cell 2
      have rn := HFc4.out.lt
      simp at q0 q1 q2 r0 r1 r2
      have hxx : (x == x) = true := by simp
      have HSf := hid (sameF_yes T2 a.fr a.tt a.zs p2 q c2 c3 Hs4.out Hs5.out)
      go_wp2_with fail
      refine HSf.out.mono ?_
      rintro e w5 ⟨rfl, hb5⟩
      have HP5 := hid (HP4.out.below hb5)
      have HF5 : Hid (Fr Zv V w5) := HF4.out.trans (Fr.below hb5)
      clear hb5 HSf
      go_wp2
      refine bodyPost_ret (v := .bool true) (by simp [results, Try.results25, go_sem]) rfl ⟨rfl, ?_⟩
      exact HQ.out _ _ _ _ (HP5.out.mono (Nat.le_succ _)) HF5.out
    case _ =>
      go_simp
      obtain ⟨W2, hW2⟩ : ∃ U, U = (T.alloc (.cells #[.int .i64 0, .int .i64 0, .slice none 0 0] 32)).drew := ⟨_, rfl⟩
      rw [← hW2]
      have hb2 : Below T.heap.size T W2 := by rw [hW2]; exact ((Below.refl _ _).alloc (Nat.le_refl _) _).drew
      have hf2 : Box W2 T.heap.size #[.int .i64 0, .int .i64 0, .slice none 0 0] 32 := by rw [hW2]; exact (Box.new _ _ _).below (Below.refl _ _).drew
      have HB2 := hid hb2
      have HG2 := hid hf2
      have hpm := HP2.out.more hb2
      obtain ⟨Zx, hZx⟩ : ∃ Zx : Nat → Prop, Zx = fun k => Zw k ∨ Bt T.heap.size W2.heap.size k := ⟨_, rfl⟩
      have HZf : Hid (Zx T.heap.size) := by show Zx _; rw [hZx]; exact .inr ⟨Nat.le_refl _, hf2.lt⟩
      have HZt : Hid (∀ k, Zw k → Zx k) := fun k hk => by rw [hZx]; exact .inl hk
      rw [← hZx] at hpm
      have HPm := hid hpm
      refine hK1 _ _ (fun _ => ⟨HP2.out.bx.below hb2, HX2.out.below hb2⟩) ?_
      clear hK1 K1 hb2 hf2 hpm hZx hW2
      refine wpPre_nil ?_
      refine wpTr_e rfl (fun K1 hK1 => ?_)
      refine step_callG (by first | rfl | go_simp) 35 #[.tmp 92, .tmp 94] _ rfl Try.f35 Try.func35 (by kernel_rfl) rfl #[.pointer (some ⟨rb, 0, none⟩), .int .i64 a1] rfl _ (HD2.out _ _ _ _ HPm.out) ?_
      rintro e w3 ⟨q, c3, rfl, hs3, Y5, Y6, hP3, hF3⟩
      refine ⟨_, rfl, ?_⟩
      have HG3 := hid (HG2.out.but hF3 (fun h => h HZf.out))
      have HP3 := hid hP3
      have HF3 := hid hF3
      have Hs3 := hid hs3
      clear hF3 hP3 hs3
      go_simp
      refine hK1 _ _ (fun h => by cases h) ?_
      clear hK1 K1
      refine wpPre_e rfl rfl (fun K1 hK1 => ?_)
      apply Exists.intro
      refine And.intro (fun wx hx => ?_) ?_
      · go_simp
        try rfl
      go_simp
      refine hK1 _ ?_
      clear hK1 K1
      refine wpPre_e rfl rfl (fun K1 hK1 => ?_)
      apply Exists.intro
      refine And.intro (fun wx hx => ?_) ?_
      · go_simp
        try rfl
      go_simp
      refine hK1 _ ?_
      clear hK1 K1
      refine wpPre_e rfl rfl (fun K1 hK1 => ?_)
      apply Exists.intro
      refine And.intro (fun wx hx => ?_) ?_
      · go_simp
        try rfl
      go_simp
      refine hK1 _ ?_
      clear hK1 K1
      refine wpPre_nil ?_
      have f0 := HG3.out.cell 0
      have f1 := HG3.out.cell 1
      have f2 := HG3.out.cell 2
      have g0 := HG3.out.frozen 0
      have g1 := HG3.out.frozen 1
      have g2 := HG3.out.frozen 2
      have gl := HG3.out.lt
      simp at f0 f1 f2
      refine wpTr_e rfl (fun K1 hK1 => ?_)
      go_simp
      obtain ⟨T2, hT2⟩ : ∃ U, U = ((w3.setCell ⟨T.heap.size, 0, none⟩ (.int .i64 a.fr)).setCell ⟨T.heap.size, 1, none⟩ (.int .i64 a.tt)).setCell ⟨T.heap.size, 2, none⟩ (.slice q a.zs.length c3) := ⟨_, rfl⟩
      rw [← hT2]
      have hbT : But (fun k => k = T.heap.size) w3 T2 := by rw [hT2]; exact But.sets3 _ _ _ _ _
      have HFc4 : Hid (Box T2 T.heap.size #[.int .i64 a.fr, .int .i64 a.tt, .slice q a.zs.length c3] 32) := by show Box _ _ _ _; rw [hT2]; exact HG3.out.sets3 _ _ _
      have hfn : V.heap.size ≠ T.heap.size := fun e => by have := HFb.out.lt; omega
      have HFb4 : Hid (Box T2 V.heap.size #[.int .i64 a.fr, .int .i64 a.tt, .slice p2 a.zs.length c2] 32) := ((HFb.out.below HB2.out).but HF3.out (fun h => h (HZt.out _ HZb.out))).but hbT hfn
      have Hs4 : Hid (Src T2 p2 a.zs.length c2 1 (a.zs.map (.int .u8))) := ((((HKp.out.fr (Fr.below HB2.out)).mono HZt.out).fr HF3.out).fl hbT HG3.out).src
      have Hs5 : Hid (Src T2 q a.zs.length c3 1 (a.zs.map (.int .u8))) := Hs3.out.fl hbT HG3.out
      have HP4 := hid (HP3.out.but (Z' := Zv) (hbT.mono fun k _ e => by have e' : k = T.heap.size := e; rw [e']; exact HZf.out) (fun k _ hk => HZt.out _ (HZs.out k hk)) (fun k hk => Nat.lt_of_lt_of_le (HP3.out.l1 k (HP3.out.s1 k (HZt.out _ (HZs.out k hk)))) hbT.size))
      have HF4 : Hid (Fr Zv V T2) := ((HF2.out.trans (Fr.below HB2.out)).trans (HF3.out.less fun k hk => HZt.out _ (HZs.out k hk))).trans (hbT.mono fun k _ e hk => by
        have e' : k = T.heap.size := e
        have h1 := HP2.out.l1 k (HP2.out.s1 k (HZs.out k hk))
        omega)
      clear hbT hT2 hfn
      refine hK1 _ _ (fun h => by cases h) ?_
      clear hK1 K1
      refine wpPre_e rfl rfl (fun K1 hK1 => ?_)
      apply Exists.intro
      refine And.intro (fun wx hx => ?_) ?_
      · go_simp
        try rfl
      go_simp
      refine hK1 _ ?_
      clear hK1 K1
      refine wpPre_nil ?_
      refine wpTr_done ?_
      clear f0 f1 f2 g0 g1 g2 gl
      have q0 := HFb4.out.cell 0
      have q1 := HFb4.out.cell 1
      have q2 := HFb4.out.cell 2
      have qn := HFb4.out.lt
      have r0 := HFc4.out.cell 0
      have r1 := HFc4.out.cell 1
      have r2 := HFc4.out.cell 2
      have rn := HFc4.out.lt
      simp at q0 q1 q2 r0 r1 r2
      have hxx : (x == x) = true := by simp
      have HSf := hid (sameF_yes T2 a.fr a.tt a.zs p2 q c2 c3 Hs4.out Hs5.out)
      go_wp2_with fail
      refine HSf.out.mono ?_
      rintro e w5 ⟨rfl, hb5⟩
      have HP5 := hid (HP4.out.below hb5)
      have HF5 : Hid (Fr Zv V w5) := HF4.out.trans (Fr.below hb5)
      clear hb5 HSf
      go_wp2
      refine bodyPost_ret (v := .bool true) (by simp [results, Try.results25, go_sem]) rfl ⟨rfl, ?_⟩
      exact HQ.out _ _ _ _ (HP5.out.mono (Nat.le_succ _)) HF5.out
end Go.Proofs.Ytneomdiabcpemaa
