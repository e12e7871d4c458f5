import Derived.Test.YtneomdiabcpemaaPack41
namespace Go.Proofs.Ytneomdiabcpemaa
open Go.RowKit
set_option maxRecDepth 8000
set_option maxHeartbeats 8000000 in
theorem play_1 (w : World) (Z Z1 Z2 : Nat → Prop) (xb b rb : Nat) (m : Int) (A : List FA) (N : Nat) (h : PrI w Z Z1 Z2 xb b rb m A A N) (hN : (N + 1) * 48 ≤ 140737488355328) (wh a1 b1 : Int) (y : BY) (_hy : Byts w Z y.p y.n y.c y.f) (_ha1 : a1 ≤ 9223372036854775807) (_hb1 : b1 ≤ 9223372036854775807) (hyn : y.n ≤ 140737488351232) :
    Calls Try.prog 25 #[.pointer (some ⟨xb, 0, none⟩), .agg #[.int .i64 1, .int .i64 wh, .int .i64 a1, .int .i64 b1, .slice y.p y.n y.c]] w fun e w' => PlQ w Z xb N e w' := by
  obtain ⟨V, hV⟩ : ∃ V, V = w.alloc (.cells #[.int .i64 1, .int .i64 wh, .int .i64 a1, .int .i64 b1, .slice y.p y.n y.c] 48) := ⟨_, rfl⟩
  have hBV : Below w.heap.size w V := by rw [hV]; exact (Below.refl _ _).alloc (Nat.le_refl _) _
  have hX : Box V w.heap.size #[.int .i64 1, .int .i64 wh, .int .i64 a1, .int .i64 b1, .slice y.p y.n y.c] 48 := by rw [hV]; exact Box.new _ _ _
  have hVs : V.heap.size = w.heap.size + 1 := by rw [hV]; simp
  have hlen := h.len
  have hZl : ∀ k, Z k → k < w.heap.size := fun k hk => h.l1 k (h.s1 k hk)
  have hp := h.more hBV
  have hZx : (Z w.heap.size ∨ Bt w.heap.size V.heap.size w.heap.size) := .inr ⟨Nat.le_refl _, by omega⟩
  have HQ : Hid (∀ (w' : World) (Z1 Z2 : Nat → Prop) (A : List FA), PrI w' (fun k => Z k ∨ Bt w.heap.size V.heap.size k) Z1 Z2 xb b rb m A A (N + 1) → Fr (fun k => Z k ∨ Bt w.heap.size V.heap.size k) V w' → Pr w' Z xb (N + 1) ∧ Fr Z w w') := fun w' Z1 Z2 A h1 h2 => PlQ.of hBV h1 h2
  have hyV : Byts V (fun k => Z k ∨ Bt w.heap.size V.heap.size k) y.p y.n y.c y.f := (_hy.kept hBV.size fun k _ hk => hBV.block k hk).mono fun k hk _ => .inl hk
  obtain ⟨Zv, hZv⟩ : ∃ Zv : Nat → Prop, Zv = fun k => Z k ∨ Bt w.heap.size V.heap.size k := ⟨_, rfl⟩
  have hZx1 : Zv w.heap.size := by rw [hZv]; exact hZx
  rw [← hZv] at hp HQ hyV
  obtain ⟨Y1, hY1⟩ : ∃ Y1 : Nat → Prop, Y1 = fun k => Z1 k ∨ Bt w.heap.size V.heap.size k := ⟨_, rfl⟩
  obtain ⟨Y2, hY2⟩ : ∃ Y2 : Nat → Prop, Y2 = fun k => Z2 k ∨ Bt w.heap.size V.heap.size k := ⟨_, rfl⟩
  rw [← hY1, ← hY2] at hp
  have HP := hid hp
  have HX := hid hX
  have HZx := hid hZx1
  have HV := hid hV
  have HN := hid hN
  have HL := hid hlen
  have HY := hid hyV
  have Ha1 := hid _ha1
  have Hb1 := hid _hb1
  have o0 := hX.cell 0
  have o2 := hX.cell 2
  have o3 := hX.cell 3
  have o4 := hX.cell 4
  simp at o0 o2 o3 o4
  have ol := hX.lt
  have k0 := hp.bx.cell 0
  have k1 := hp.bx.cell 1
  simp at k0 k1
  have kl := hp.bx.lt
  clear h hN hlen hZl hX hV hVs hp hZx hZx1 hZv hY1 hY2 hBV hyV _hy _ha1 _hb1
  go_enter Try.func25, Try.ntmps25
  go_upto_region 1 with fail
  rw [← HV.out]
  obtain ⟨V0, hV0⟩ : ∃ U, U = V.alloc (.cells #[.slice none 0 0, .slice none 0 0, .slice none 0 0, .slice none 0 0, .slice none 0 0, .slice none 0 0, .slice none 0 0, .slice none 0 0, .slice none 0 0, .slice none 0 0] 81) := ⟨_, rfl⟩
  have hb0 : Below V.heap.size V V0 := by rw [hV0]; exact (Below.refl _ _).alloc (Nat.le_refl _) _
  have hs0 : V0.heap.size = V.heap.size + 1 := by rw [hV0]; simp
  have hr0 : Rm V.heap.size V0 (newRoomU V.heap.size) := by rw [hV0]; exact newRoomU_rm V _ (Nat.le_refl _)
  have hbt := byts_of y.p y.n y.c y.f V.heap.size V0 (newRoomU V.heap.size) Zv hr0 hb0.size (HY.out.kept hb0.size fun k _ hl => hb0.block k hl) hyn (fun q hq => by simp [newRoomU])
  have hrb : (newRoomU V.heap.size).rb = V.heap.size := rfl
  rw [hrb] at hbt
  have HBt := hid hbt
  have HB0 := hid hb0
  have HS0 := hid hs0
  have HV0 := hid hV0
  have n4 := (HX.out.below hb0).cell 4
  have nl := (HX.out.below hb0).lt
  simp at n4
  clear hV0 hb0 hs0 hr0 hbt hrb
  go_upto_region 6 with fail
  rw [← HV0.out]
  clear k0 k1 kl o0 o2 o3 o4 ol
  go_wp2_with fail
  refine HBt.out.mono ?_
  rintro e w1 ⟨p1, c1, R1, rfl, hQ⟩
  obtain ⟨g, cs, rfl, hgl, hG⟩ := hQ.own
  have HGl : Hid (V.heap.size ≤ g) := by have := HS0.out; show _ ≤ _; omega
  have hot : ∀ k, (newRoomU V.heap.size).hot k → k = V.heap.size := fun k hk => newRoomU_hot hk
  have hb1 : Below V.heap.size V w1 := HB0.out.trans (hQ.but.below HB0.out.size (fun k hk hh => by have := hot k hh; omega))
  have hP1 := HP.out.more hb1
  obtain ⟨Zr, hZr⟩ : ∃ Zr : Nat → Prop, Zr = fun k => Zv k ∨ Bt V.heap.size w1.heap.size k := ⟨_, rfl⟩
  rw [← hZr] at hP1
  have HZv : Hid (∀ k, Zv k → Zr k) := fun k hk => by rw [hZr]; exact .inl hk
  have HZg : Hid (Zr g) := by show Zr g; rw [hZr]; exact .inr ⟨by have := HS0.out; omega, hG.lt⟩
  have HFt : Hid (∀ k, R1.foot k → Zr k) := fun k hk => by
    rw [hZr]
    refine .inr ⟨?_, hQ.rm.footlt hk⟩
    rcases hQ.foot k hk with h1 | h1
    · have := newRoomU_foot h1; omega
    · have := HS0.out; omega
  have HP1 := hid hP1
  have HX1 := hid (HX.out.below hb1)
  have HY1 : Hid (Byts w1 Zr y.p y.n y.c y.f) := (HY.out.kept hb1.size fun k _ hl => hb1.block k hl).mono fun k hk _ => HZv.out k hk
  have HBy : Hid (Byts w1 Zr (some ⟨g, 0, none⟩) y.n c1 y.f) := hQ.ints.mono fun k hk hl => by
    rw [hZr]
    exact .inr ⟨by have := hk.1; have := HS0.out; omega, hl⟩
  have HR1 := hid hQ.rm
  have HRb : Hid (R1.rb = V.heap.size) := hQ.rb
  have HG1 := hid hG
  have HPl : Hid R1.plainY := fun q _ _ _ h9 => (hQ.same q h9).1
  have HFv : Hid (Fr Zv V w1) := Fr.below hb1
  obtain ⟨x, A', hd1, hd2⟩ := duo_send (N := N) a1 b1 y.zs (BY.by_ HY.out) HN.out Zr xb b rb m A HL.out
  have hd1 := hd1 w1.drew _ _ _ _ (BY.src (x := ⟨some ⟨g, 0, none⟩, y.n, c1, y.f⟩) (S := Zr) (HBy.out.kept (Nat.le_refl _) fun _ _ _ => rfl)) hP1.drew
  rw [BY.len] at hd1
  have HD1 := hid hd1
  have HD2 := hid hd2
  have k2 := hP1.bx.cell 0
  simp at k2
  have kl2 := hP1.bx.lt
  have n2 := HX1.out.cell 2
  have n3 := HX1.out.cell 3
  have nl1 := HX1.out.lt
  simp at n2 n3
  clear hb1 hP1 hZr hQ hG hot hd1 hd2 n4 nl HBt
  go_upto_region 7 with fail
  refine wp_region_calmE 30 (fun wx => Below w1.heap.size w1 wx) [(0, true), (1, true), (2, true), (3, false), (4, true), (5, false), (6, true), (7, false), (8, true)] (.one 9 false [(10, true)] .done) (by kernel_rfl) (by kernel_rfl) (Below.refl _ _).drew ?_
  refine wpPre_e rfl rfl (fun K1 hK1 => ?_)
  apply Exists.intro
  refine And.intro (fun wx hx => ?_) ?_
  · go_simp
    try rfl
  go_simp
  refine hK1 _ ?_
  clear hK1 K1
  refine wpPre_e rfl rfl (fun K1 hK1 => ?_)
  apply Exists.intro
  refine And.intro (fun wx hx => ?_) ?_
  · go_simp
    try rfl
  go_simp
  refine hK1 _ ?_
  clear hK1 K1
  refine wpPre_e rfl rfl (fun K1 hK1 => ?_)
  apply Exists.intro
  refine And.intro (fun wx hx => ?_) ?_
  · go_simp
    try rfl
  go_simp
  refine hK1 _ ?_
  clear hK1 K1
  refine wpPre_e rfl rfl (fun K1 hK1 => ?_)
  apply Exists.intro
  refine And.intro (fun wx hx => ?_) ?_
  · have e0 := below_fact hx rfl k2
    have e1 := below_fact hx rfl n2
    have e2 := below_fact hx rfl n3
    go_simp
    try rfl
  go_simp
  refine hK1 _ ?_
  clear hK1 K1
  refine wpPre_e rfl rfl (fun K1 hK1 => ?_)
  apply Exists.intro
  refine And.intro (fun wx hx => ?_) ?_
  · go_simp
    try rfl
  go_simp
  refine hK1 _ ?_
  clear hK1 K1
  refine wpPre_e rfl rfl (fun K1 hK1 => ?_)
  apply Exists.intro
  refine And.intro (fun wx hx => ?_) ?_
  · have e0 := below_fact hx rfl k2
    have e1 := below_fact hx rfl n2
    have e2 := below_fact hx rfl n3
    go_simp
    try rfl
  go_simp
  refine hK1 _ ?_
  clear hK1 K1
  refine wpPre_e rfl rfl (fun K1 hK1 => ?_)
  apply Exists.intro
  refine And.intro (fun wx hx => ?_) ?_
  · go_simp
    try rfl
  go_simp
  refine hK1 _ ?_
  clear hK1 K1
  refine wpPre_e rfl rfl (fun K1 hK1 => ?_)
  apply Exists.intro
  refine And.intro (fun wx hx => ?_) ?_
  · have e0 := below_fact hx rfl k2
    have e1 := below_fact hx rfl n2
    have e2 := below_fact hx rfl n3
    go_simp
    try rfl
  go_simp
  refine hK1 _ ?_
  clear hK1 K1
  refine wpPre_e rfl rfl (fun K1 hK1 => ?_)
  apply Exists.intro
  refine And.intro (fun wx hx => ?_) ?_
  · go_simp
    try rfl
  go_simp
  refine hK1 _ ?_
  clear hK1 K1
  refine wpPre_nil ?_
  refine wpTr_e rfl (fun K1 hK1 => ?_)
  refine step_callG (by first | rfl | go_simp) 10 #[.tmp 36, .tmp 38, .tmp 40, .tmp 41] _ rfl Try.f10 Try.func10 (by kernel_rfl) rfl #[.pointer (some ⟨b, 0, none⟩), .int .i64 a1, .int .i64 b1, .slice (some ⟨g, 0, none⟩) y.n c1] rfl _ HD1.out ?_
  rintro e w2 ⟨rfl, Y3, Y4, hP2, hF0⟩
  refine ⟨_, rfl, ?_⟩
  have hF2 : Fr Zr w1 w2 := (show Fr Zr w1 w1.drew from (But.refl _ _).drew).trans hF0
  have HP2 := hid hP2
  have HF2 := hid hF2
  have HX2 := hid (HX1.out.but hF2 (fun h => h (HZv.out _ HZx.out)))
  have HY2 := hid (HY1.out.kept hF2.size fun k hS hl => hF2.block k hl (fun h => h hS))
  have HB2 := hid (HBy.out.kept hF2.size fun k hS hl => hF2.block k hl (fun h => h hS))
  have HR2 := hid (HR1.out.keep hF2.size fun k hf => hF2.block k (HR1.out.footlt hf) (fun h => h (HFt.out k hf)))
  have HG2 := hid (HG1.out.but hF2 (fun h => h HZg.out))
  clear hP2 hF0 hF2
  go_simp
  refine hK1 _ _ (fun h => by cases h) ?_
  clear hK1 K1
  refine wpPre_e rfl rfl (fun K1 hK1 => ?_)
  apply Exists.intro
  refine And.intro (fun wx hx => ?_) ?_
  · go_simp
    try rfl
  go_simp
  refine hK1 _ ?_
  clear hK1 K1
  refine wpPre_nil ?_
  refine wpTr_done ?_
  clear k2 kl2 n2 n3 nl1
  go_upto_region 8 with fail
  refine wp_region_calmE 30 (fun wx => Box wx xb #[.pointer (some ⟨b, 0, none⟩), .pointer (some ⟨rb, 0, none⟩)] 71 ∧ Box wx w.heap.size #[.int .i64 1, .int .i64 wh, .int .i64 a1, .int .i64 b1, .slice y.p y.n y.c] 48) [(0, true), (1, true), (2, true), (3, true), (4, false), (5, true), (6, false), (7, true), (8, false), (9, true), (10, false)] (.one 11 true [(12, true), (13, true), (14, true), (15, true), (16, false)] (.one 17 false [(18, true), (19, true), (20, true)] (.one 21 false [(22, true), (23, true)] .done))) (by kernel_rfl) (by kernel_rfl) ⟨HP2.out.bx, HX2.out⟩ ?_
  refine wpPre_e rfl rfl (fun K1 hK1 => ?_)
  apply Exists.intro
  refine And.intro (fun wx hx => ?_) ?_
  · go_simp
    try rfl
  go_simp
  refine hK1 _ ?_
  clear hK1 K1
  refine wpPre_e rfl rfl (fun K1 hK1 => ?_)
  apply Exists.intro
  refine And.intro (fun wx hx => ?_) ?_
  · go_simp
    try rfl
  go_simp
  refine hK1 _ ?_
  clear hK1 K1
  refine wpPre_e rfl rfl (fun K1 hK1 => ?_)
  apply Exists.intro
  refine And.intro (fun wx hx => ?_) ?_
  · go_simp
    try rfl
  go_simp
  refine hK1 _ ?_
  clear hK1 K1
  refine wpPre_e rfl rfl (fun K1 hK1 => ?_)
  apply Exists.intro
  refine And.intro (fun wx hx => ?_) ?_
  · go_simp
    try rfl
  go_simp
  refine hK1 _ ?_
  clear hK1 K1
  refine wpPre_e rfl rfl (fun K1 hK1 => ?_)
  apply Exists.intro
  refine And.intro (fun wx hx => ?_) ?_
  · have hy := hx.resolve_left (by decide)
    have e0 := hy.1.cell 1
    simp at e0
    go_simp
    try rfl
  go_simp
  refine hK1 _ ?_
  clear hK1 K1
  refine wpPre_e rfl rfl (fun K1 hK1 => ?_)
  apply Exists.intro
  refine And.intro (fun wx hx => ?_) ?_
  · go_simp
    try rfl
  go_simp
  refine hK1 _ ?_
  clear hK1 K1
  refine wpPre_e rfl rfl (fun K1 hK1 => ?_)
  apply Exists.intro
  refine And.intro (fun wx hx => ?_) ?_
  · have hy := hx.resolve_left (by decide)
    have e0 := hy.2.cell 2
    simp at e0
    go_simp
    try rfl
  go_simp
  refine hK1 _ ?_
  clear hK1 K1
  refine wpPre_e rfl rfl (fun K1 hK1 => ?_)
  apply Exists.intro
  refine And.intro (fun wx hx => ?_) ?_
  · go_simp
    try rfl
  go_simp
  refine hK1 _ ?_
  clear hK1 K1
  refine wpPre_e rfl rfl (fun K1 hK1 => ?_)
  apply Exists.intro
  refine And.intro (fun wx hx => ?_) ?_
  · have hy := hx.resolve_left (by decide)
    have e0 := hy.2.cell 3
    simp at e0
    go_simp
    try rfl
  go_simp
  refine hK1 _ ?_
  clear hK1 K1
  refine wpPre_e rfl rfl (fun K1 hK1 => ?_)
  apply Exists.intro
  refine And.intro (fun wx hx => ?_) ?_
  · go_simp
    try rfl
  go_simp
  refine hK1 _ ?_
  clear hK1 K1
  refine wpPre_e rfl rfl (fun K1 hK1 => ?_)
  apply Exists.intro
  refine And.intro (fun wx hx => ?_) ?_
  · have hy := hx.resolve_left (by decide)
    have e0 := hy.2.cell 4
    simp at e0
    go_simp
    try rfl
  go_simp
  refine hK1 _ ?_
  clear hK1 K1
  refine wpPre_nil ?_
  refine wpTr_e rfl (fun K1 hK1 => ?_)
  refine step_callG (by first | rfl | go_simp) 33 #[.tmp 47, .tmp 49, .tmp 51, .tmp 53] _ rfl Try.f33 Try.func33 (by kernel_rfl) rfl #[.pointer (some ⟨rb, 0, none⟩), .int .i64 a1, .int .i64 b1, .slice y.p y.n y.c] rfl _ (HD2.out w2.drew _ _ y Zr rfl (HY2.out.kept (Nat.le_refl _) fun _ _ _ => rfl) HP2.out.drew) ?_
  rintro e w3 ⟨rfl, Y5, Y6, hP3, hF0⟩
  refine ⟨_, rfl, ?_⟩
  have hF3 : Fr Zr w2 w3 := (show Fr Zr w2 w2.drew from (But.refl _ _).drew).trans hF0
  have HP3 := hid hP3
  have HF3 := hid hF3
  have HX3 := hid (HX2.out.but hF3 (fun h => h (HZv.out _ HZx.out)))
  have hY3 := HY2.out.kept hF3.size fun k hS hl => hF3.block k hl (fun h => h hS)
  have hB3 := HB2.out.kept hF3.size fun k hS hl => hF3.block k hl (fun h => h hS)
  have hR3 := HR2.out.keep hF3.size fun k hf => hF3.block k (HR2.out.footlt hf) (fun h => h (HFt.out k hf))
  have HG3 := hid (HG2.out.but hF3 (fun h => h HZg.out))
  have HB3 := hid hB3
  have hsb := sameB_yes w3 y.zs (some ⟨g, 0, none⟩) y.p c1 y.c (BY.src (x := ⟨some ⟨g, 0, none⟩, y.n, c1, y.f⟩) hB3) (BY.src hY3)
  rw [BY.len] at hsb
  have HSb := hid hsb
  have hho := holdY_any V.heap.size w3 R1 hR3 HPl.out
  rw [HRb.out] at hho
  have HHo := hid hho
  clear hP3 hF0 hF3 hY3 hB3 hR3 hsb hho
  go_simp
  refine hK1 _ _ (fun _ => ⟨HP3.out.bx, HX3.out⟩) ?_
  clear hK1 K1
  refine wpPre_e rfl rfl (fun K1 hK1 => ?_)
  apply Exists.intro
  refine And.intro (fun wx hx => ?_) ?_
  · go_simp
    try rfl
  go_simp
  refine hK1 _ ?_
  clear hK1 K1
  refine wpPre_e rfl rfl (fun K1 hK1 => ?_)
  apply Exists.intro
  refine And.intro (fun wx hx => ?_) ?_
  · go_simp
    try rfl
  go_simp
  refine hK1 _ ?_
  clear hK1 K1
  refine wpPre_i rfl (fun K1 hK1 => ?_)
  rw [if_pos (by go_simp)]
  apply Exists.intro
  refine And.intro (fun wx hx => ?_) ?_
  · go_simp
    try rfl
  go_simp
  refine hK1 _ ?_
  clear hK1 K1
  refine wpPre_i rfl (fun K1 hK1 => ?_)
  rw [if_pos (by go_simp)]
  apply Exists.intro
  refine And.intro (fun wx hx => ?_) ?_
  · go_simp
    try rfl
  go_simp
  refine hK1 _ ?_
  clear hK1 K1
  refine wpPre_i rfl (fun K1 hK1 => ?_)
  rw [if_pos (by go_simp)]
  apply Exists.intro
  refine And.intro (fun wx hx => ?_) ?_
  · have hy := hx.resolve_left (by decide)
    have e0 := hy.2.cell 4
    simp at e0
    go_simp
    try rfl
  go_simp
  refine hK1 _ ?_
  clear hK1 K1
  refine wpPre_nil ?_
  refine wpTr_e rfl (fun K1 hK1 => ?_)
  refine step_callG (by first | rfl | go_simp) 12 #[.tmp 57, .tmp 59] _ rfl Try.f12 Try.func12 (by kernel_rfl) rfl #[.slice (some ⟨g, 0, none⟩) y.n c1, .slice y.p y.n y.c] rfl _ HSb.out ?_
  rintro e w4 ⟨rfl, hw4⟩
  subst w4
  refine ⟨_, rfl, ?_⟩
  go_simp
  refine hK1 _ _ (fun h => by cases h) ?_
  clear hK1 K1
  refine wpPre_e rfl rfl (fun K1 hK1 => ?_)
  apply Exists.intro
  refine And.intro (fun wx hx => ?_) ?_
  · go_simp
    try rfl
  go_simp
  refine hK1 _ ?_
  clear hK1 K1
  refine wpPre_e rfl rfl (fun K1 hK1 => ?_)
  apply Exists.intro
  refine And.intro (fun wx hx => ?_) ?_
  · go_simp
    try rfl
  go_simp
  refine hK1 _ ?_
  clear hK1 K1
  refine wpPre_i rfl (fun K1 hK1 => ?_)
  rw [if_pos (by go_simp)]
  apply Exists.intro
  refine And.intro (fun wx hx => ?_) ?_
  · go_simp
    try rfl
  go_simp
  refine hK1 _ ?_
  clear hK1 K1
  refine wpPre_nil ?_
  refine wpTr_e rfl (fun K1 hK1 => ?_)
  refine step_callG (by first | rfl | go_simp) 34 #[.tmp 63] _ rfl Try.f34 Try.func34 (by kernel_rfl) rfl #[.pointer (some ⟨V.heap.size, 0, none⟩)] rfl _ HHo.out ?_
  rintro e w4 ⟨rfl, hb4⟩
  refine ⟨_, rfl, ?_⟩
  have HP4 := hid (HP3.out.below hb4)
  have HF4 : Hid (Fr Zr w3 w4) := Fr.below hb4
  have HB4 := hid (HB3.out.kept hb4.size fun k _ hl => hb4.block k hl)
  have HG4 := hid (HG3.out.below hb4)
  clear hb4
  go_simp
  refine hK1 _ _ (fun h => by cases h) ?_
  clear hK1 K1
  refine wpPre_e rfl rfl (fun K1 hK1 => ?_)
  apply Exists.intro
  refine And.intro (fun wx hx => ?_) ?_
  · go_simp
    try rfl
  go_simp
  refine hK1 _ ?_
  clear hK1 K1
  refine wpPre_e rfl rfl (fun K1 hK1 => ?_)
  apply Exists.intro
  refine And.intro (fun wx hx => ?_) ?_
  · go_simp
    try rfl
  go_simp
  refine hK1 _ ?_
  clear hK1 K1
  refine wpPre_nil ?_
  refine wpTr_done ?_
  have hnc : y.n ≤ cs.size := by
    rcases Nat.eq_zero_or_pos y.n with h0 | h0
    · omega
    · obtain ⟨g', o', e', _, _, hat⟩ := HB4.out.at_ h0
      cases e'
      have h1 := hat (y.n - 1) (by omega)
      rw [HG4.out.cell] at h1
      rcases Nat.lt_or_ge (0 + (y.n - 1)) cs.size with h2 | h2
      · omega
      · rw [Array.getElem?_eq_none h2] at h1; cases h1
  go_upto_region 9 with fail
  go_wp2_with fail
  go_loopw [9] (fun x wr => ∃ i : Nat, i ≤ y.n ∧ x = .int .i64 (i : Int) ∧ But (fun k => k = g) w4 wr ∧ ∃ cs', Box wr g cs' 5 ∧ cs'.size = cs.size) (fun x _ => y.n - (intOf x).toNat)
  case atStart => exact ⟨0, by omega, rfl, But.refl _ _, cs, HG4.out, rfl⟩
  case round =>
    obtain ⟨i, hi, rfl, hbu, cs', hg', hc'⟩ := hrel
    by_cases hlt : i < y.n
    · have hlt' : (i : Int) < (y.n : Int) := by omega
      have c0 := hg'.cell i
      obtain ⟨u0, hu0⟩ : ∃ u, cs'[i]? = some u := ⟨_, Array.getElem?_eq_getElem (show i < cs'.size by omega)⟩
      rw [hu0] at c0
      clear hu0
      have f0 := hg'.frozen i
      have gl := hg'.lt
      have HR : Hid (But (fun k => k = g) w4 (wr.setCell ⟨g, i, none⟩ (.int .u8 77))) := hbu.trans ((But.one wr g).setAt i _)
      have HC : Hid (∃ cs', Box (wr.setCell ⟨g, i, none⟩ (.int .u8 77)) g cs' 5 ∧ cs'.size = cs.size) := ⟨_, hg'.set i _, by simp [hc']⟩
      clear hbu hg' hc'
      go_wp2
      go_roundw
      case rel => exact ⟨i + 1, by omega, by go_num, HR.out, HC.out⟩
      case measure => simp [intOf]; omega
    · have hlt' : ¬ (i : Int) < (y.n : Int) := by omega
      have HU := hid hbu
      clear hbu hg' hc'
      go_wp2
      refine bodyPost_ret (v := .bool true) (by simp [results, Try.results25, go_sem]) rfl ⟨rfl, ?_⟩
      refine HQ.out _ _ _ _ (HP4.out.but (Z' := Zv) (HU.out.mono fun k _ e => by have e' : k = g := e; rw [e']; exact HZg.out) (fun k _ hk => HZv.out k hk) (fun k hk => Nat.lt_of_lt_of_le (HP4.out.l1 k (HP4.out.s1 k (HZv.out k hk))) HU.out.size)) ?_
      refine (((HFv.out.trans (HF2.out.less HZv.out)).trans (HF3.out.less HZv.out)).trans (HF4.out.less HZv.out)).trans (HU.out.mono fun k _ e hk => ?_)
      have e' : k = g := e
      have h1 := HP.out.l1 k (HP.out.s1 k hk)
      have h2 := HGl.out
      omega
end Go.Proofs.Ytneomdiabcpemaa
