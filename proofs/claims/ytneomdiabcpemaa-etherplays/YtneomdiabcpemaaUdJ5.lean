import Derived.Test.YtneomdiabcpemaaPack24
namespace Go.Proofs.Ytneomdiabcpemaa
open Go.RowKit
set_option maxRecDepth 8000
set_option maxHeartbeats 8000000 in
theorem play_5 (w : World) (Z Z1 Z2 : Nat → Prop) (xb b rb : Nat) (m : Int) (A : List FA) (N : Nat) (h : PrI w Z Z1 Z2 xb b rb m A A N) (hN : (N + 1) * 48 ≤ 140737488355328) (wh a1 b1 : Int) (y : BY) (_hy : Byts w Z y.p y.n y.c y.f) (_ha1 : a1 ≤ 9223372036854775807) (_hb1 : b1 ≤ 9223372036854775807) :
    Calls Try.prog 25 #[.pointer (some ⟨xb, 0, none⟩), .agg #[.int .i64 5, .int .i64 wh, .int .i64 a1, .int .i64 b1, .slice y.p y.n y.c]] w fun e w' => PlQ w Z xb N e w' := by
  obtain ⟨V, hV⟩ : ∃ V, V = w.alloc (.cells #[.int .i64 5, .int .i64 wh, .int .i64 a1, .int .i64 b1, .slice y.p y.n y.c] 48) := ⟨_, rfl⟩
  have hBV : Below w.heap.size w V := by rw [hV]; exact (Below.refl _ _).alloc (Nat.le_refl _) _
  have hX : Box V w.heap.size #[.int .i64 5, .int .i64 wh, .int .i64 a1, .int .i64 b1, .slice y.p y.n y.c] 48 := by rw [hV]; exact Box.new _ _ _
  have hVs : V.heap.size = w.heap.size + 1 := by rw [hV]; simp
  have hlen := h.len
  have hZl : ∀ k, Z k → k < w.heap.size := fun k hk => h.l1 k (h.s1 k hk)
  have hp := h.more hBV
  have hZx : (Z w.heap.size ∨ Bt w.heap.size V.heap.size w.heap.size) := .inr ⟨Nat.le_refl _, by omega⟩
  have HQ : Hid (∀ (w' : World) (Z1 Z2 : Nat → Prop) (A : List FA), PrI w' (fun k => Z k ∨ Bt w.heap.size V.heap.size k) Z1 Z2 xb b rb m A A (N + 1) → Fr (fun k => Z k ∨ Bt w.heap.size V.heap.size k) V w' → Pr w' Z xb (N + 1) ∧ Fr Z w w') := fun w' Z1 Z2 A h1 h2 => PlQ.of hBV h1 h2
  have hyV : Byts V (fun k => Z k ∨ Bt w.heap.size V.heap.size k) y.p y.n y.c y.f := (_hy.kept hBV.size fun k _ hk => hBV.block k hk).mono fun k hk _ => .inl hk
  obtain ⟨Zv, hZv⟩ : ∃ Zv : Nat → Prop, Zv = fun k => Z k ∨ Bt w.heap.size V.heap.size k := ⟨_, rfl⟩
  have hZx1 : Zv w.heap.size := by rw [hZv]; exact hZx
  rw [← hZv] at hp HQ hyV
  obtain ⟨Y1, hY1⟩ : ∃ Y1 : Nat → Prop, Y1 = fun k => Z1 k ∨ Bt w.heap.size V.heap.size k := ⟨_, rfl⟩
  obtain ⟨Y2, hY2⟩ : ∃ Y2 : Nat → Prop, Y2 = fun k => Z2 k ∨ Bt w.heap.size V.heap.size k := ⟨_, rfl⟩
  rw [← hY1, ← hY2] at hp
  have HP := hid hp
  have HX := hid hX
  have HZx := hid hZx1
  have HV := hid hV
  have HN := hid hN
  have HL := hid hlen
  have HY := hid hyV
  have Ha1 := hid _ha1
  have Hb1 := hid _hb1
  have o0 := hX.cell 0
  have o2 := hX.cell 2
  have o3 := hX.cell 3
  have o4 := hX.cell 4
  simp at o0 o2 o3 o4
  have ol := hX.lt
  have k0 := hp.bx.cell 0
  have k1 := hp.bx.cell 1
  simp at k0 k1
  have kl := hp.bx.lt
  clear h hN hlen hZl hX hV hVs hp hZx hZx1 hZv hY1 hY2 hBV hyV _hy _ha1 _hb1
  go_enter Try.func25, Try.ntmps25
  go_upto_region 1 with fail
  rw [← HV.out]
  obtain ⟨x, A', hd1, hd2⟩ := duo_flip (N := N) a1 b1 Ha1.out Hb1.out (by have := HN.out; omega) Zv xb b rb m A
  have HD1 := hid hd1
  have HD2 := hid hd2
  clear hd1 hd2
  go_upto_region 25 with fail
  refine wp_region_calmE 30 (fun wx => Below V.heap.size V wx) [(0, true), (1, true), (2, true), (3, false), (4, true), (5, false), (6, true), (7, false)] (.one 8 false [(9, true)] .done) (by kernel_rfl) (by kernel_rfl) (Below.refl _ _).drew ?_
  refine wpPre_e rfl rfl (fun K1 hK1 => ?_)
  apply Exists.intro
  refine And.intro (fun wx hx => ?_) ?_
  · go_simp
    try rfl
  go_simp
  refine hK1 _ ?_
  clear hK1 K1
  refine wpPre_e rfl rfl (fun K1 hK1 => ?_)
  apply Exists.intro
  refine And.intro (fun wx hx => ?_) ?_
  · go_simp
    try rfl
  go_simp
  refine hK1 _ ?_
  clear hK1 K1
  refine wpPre_e rfl rfl (fun K1 hK1 => ?_)
  apply Exists.intro
  refine And.intro (fun wx hx => ?_) ?_
  · go_simp
    try rfl
  go_simp
  refine hK1 _ ?_
  clear hK1 K1
  refine wpPre_e rfl rfl (fun K1 hK1 => ?_)
  apply Exists.intro
  refine And.intro (fun wx hx => ?_) ?_
  · have e0 := below_fact hx rfl k0
    have e1 := below_fact hx rfl o2
    have e2 := below_fact hx rfl o3
    go_simp
    try rfl
  go_simp
  refine hK1 _ ?_
  clear hK1 K1
  refine wpPre_e rfl rfl (fun K1 hK1 => ?_)
  apply Exists.intro
  refine And.intro (fun wx hx => ?_) ?_
  · go_simp
    try rfl
  go_simp
  refine hK1 _ ?_
  clear hK1 K1
  refine wpPre_e rfl rfl (fun K1 hK1 => ?_)
  apply Exists.intro
  refine And.intro (fun wx hx => ?_) ?_
  · have e0 := below_fact hx rfl k0
    have e1 := below_fact hx rfl o2
    have e2 := below_fact hx rfl o3
    go_simp
    try rfl
  go_simp
  refine hK1 _ ?_
  clear hK1 K1
  refine wpPre_e rfl rfl (fun K1 hK1 => ?_)
  apply Exists.intro
  refine And.intro (fun wx hx => ?_) ?_
  · go_simp
    try rfl
  go_simp
  refine hK1 _ ?_
  clear hK1 K1
  refine wpPre_e rfl rfl (fun K1 hK1 => ?_)
  apply Exists.intro
  refine And.intro (fun wx hx => ?_) ?_
  · have e0 := below_fact hx rfl k0
    have e1 := below_fact hx rfl o2
    have e2 := below_fact hx rfl o3
    go_simp
    try rfl
  go_simp
  refine hK1 _ ?_
  clear hK1 K1
  refine wpPre_nil ?_
  refine wpTr_e rfl (fun K1 hK1 => ?_)
  refine step_callG (by first | rfl | go_simp) 19 #[.tmp 147, .tmp 149, .tmp 151] _ rfl Try.f19 Try.func19 (by kernel_rfl) rfl #[.pointer (some ⟨b, 0, none⟩), .int .i64 a1, .int .i64 b1] rfl _ (HD1.out _ _ _ HP.out.drew) ?_
  rintro e w2 ⟨rfl, hQ⟩
  refine ⟨_, rfl, ?_⟩
  obtain ⟨Y3, Y4, hP2, hF0⟩ := hQ
  have hF2 : Fr Zv V w2 := (show Fr Zv V V.drew from (But.refl _ _).drew).trans hF0
  have HP2 := hid hP2
  have HF2 := hid hF2
  have hX2 := HX.out.but hF2 (fun h => h HZx.out)
  have HX2 := hid hX2
  have n2 := hX2.cell 2
  have n3 := hX2.cell 3
  have n4 := hX2.cell 4
  simp at n2 n3 n4
  have nl := hX2.lt
  have k2 := hP2.bx.cell 0
  have k3 := hP2.bx.cell 1
  simp at k2 k3
  have kl2 := hP2.bx.lt
  clear hP2 hF0 hF2 hX2 o0 o2 o3 o4 ol k0 k1 kl
  go_simp
  refine hK1 _ _ (fun h => by cases h) ?_
  clear hK1 K1
  refine wpPre_e rfl rfl (fun K1 hK1 => ?_)
  apply Exists.intro
  refine And.intro (fun wx hx => ?_) ?_
  · go_simp
    try rfl
  go_simp
  refine hK1 _ ?_
  clear hK1 K1
  refine wpPre_nil ?_
  refine wpTr_done ?_
  go_upto_region 26 with fail
  clear n4
  refine wp_region_calmE 30 (fun wx => Below w2.heap.size w2 wx) [(0, true), (1, true), (2, true), (3, true), (4, false), (5, true), (6, false), (7, true), (8, false)] (.one 9 false [(10, true), (11, true)] .done) (by kernel_rfl) (by kernel_rfl) (Below.refl _ _).drew ?_
  refine wpPre_e rfl rfl (fun K1 hK1 => ?_)
  apply Exists.intro
  refine And.intro (fun wx hx => ?_) ?_
  · go_simp
    try rfl
  go_simp
  refine hK1 _ ?_
  clear hK1 K1
  refine wpPre_e rfl rfl (fun K1 hK1 => ?_)
  apply Exists.intro
  refine And.intro (fun wx hx => ?_) ?_
  · go_simp
    try rfl
  go_simp
  refine hK1 _ ?_
  clear hK1 K1
  refine wpPre_e rfl rfl (fun K1 hK1 => ?_)
  apply Exists.intro
  refine And.intro (fun wx hx => ?_) ?_
  · go_simp
    try rfl
  go_simp
  refine hK1 _ ?_
  clear hK1 K1
  refine wpPre_e rfl rfl (fun K1 hK1 => ?_)
  apply Exists.intro
  refine And.intro (fun wx hx => ?_) ?_
  · go_simp
    try rfl
  go_simp
  refine hK1 _ ?_
  clear hK1 K1
  refine wpPre_e rfl rfl (fun K1 hK1 => ?_)
  apply Exists.intro
  refine And.intro (fun wx hx => ?_) ?_
  · have e0 := below_fact hx rfl k3
    have e1 := below_fact hx rfl n2
    have e2 := below_fact hx rfl n3
    go_simp
    try rfl
  go_simp
  refine hK1 _ ?_
  clear hK1 K1
  refine wpPre_e rfl rfl (fun K1 hK1 => ?_)
  apply Exists.intro
  refine And.intro (fun wx hx => ?_) ?_
  · go_simp
    try rfl
  go_simp
  refine hK1 _ ?_
  clear hK1 K1
  refine wpPre_e rfl rfl (fun K1 hK1 => ?_)
  apply Exists.intro
  refine And.intro (fun wx hx => ?_) ?_
  · have e0 := below_fact hx rfl k3
    have e1 := below_fact hx rfl n2
    have e2 := below_fact hx rfl n3
    go_simp
    try rfl
  go_simp
  refine hK1 _ ?_
  clear hK1 K1
  refine wpPre_e rfl rfl (fun K1 hK1 => ?_)
  apply Exists.intro
  refine And.intro (fun wx hx => ?_) ?_
  · go_simp
    try rfl
  go_simp
  refine hK1 _ ?_
  clear hK1 K1
  refine wpPre_e rfl rfl (fun K1 hK1 => ?_)
  apply Exists.intro
  refine And.intro (fun wx hx => ?_) ?_
  · have e0 := below_fact hx rfl k3
    have e1 := below_fact hx rfl n2
    have e2 := below_fact hx rfl n3
    go_simp
    try rfl
  go_simp
  refine hK1 _ ?_
  clear hK1 K1
  refine wpPre_nil ?_
  refine wpTr_e rfl (fun K1 hK1 => ?_)
  refine step_callG (by first | rfl | go_simp) 38 #[.tmp 157, .tmp 159, .tmp 161] _ rfl Try.f38 Try.func38 (by kernel_rfl) rfl #[.pointer (some ⟨rb, 0, none⟩), .int .i64 a1, .int .i64 b1] rfl _ (HD2.out _ _ _ HP2.out.drew) ?_
  rintro e w3 ⟨rfl, hQ⟩
  refine ⟨_, rfl, ?_⟩
  obtain ⟨Y5, Y6, hP3, hF0⟩ := hQ
  have hF3 : Fr Zv w2 w3 := (show Fr Zv w2 w2.drew from (But.refl _ _).drew).trans hF0
  have HP3 := hid hP3
  have HF3 := hid hF3
  clear hP3 hF3 hF0
  go_simp
  refine hK1 _ _ (fun h => by cases h) ?_
  clear hK1 K1
  refine wpPre_e rfl rfl (fun K1 hK1 => ?_)
  apply Exists.intro
  refine And.intro (fun wx hx => ?_) ?_
  · go_simp
    try rfl
  go_simp
  refine hK1 _ ?_
  clear hK1 K1
  refine wpPre_e rfl rfl (fun K1 hK1 => ?_)
  apply Exists.intro
  refine And.intro (fun wx hx => ?_) ?_
  · go_simp
    try rfl
  go_simp
  refine hK1 _ ?_
  clear hK1 K1
  refine wpPre_nil ?_
  refine wpTr_done ?_
  go_wp2
  refine bodyPost_ret (v := .bool true) (by simp [results, Try.results25, go_sem]) rfl ⟨rfl, ?_⟩
  exact HQ.out _ _ _ _ (HP3.out.mono (Nat.le_succ _)) ((show Fr Zv V w2 from HF2.out).trans HF3.out)
end Go.Proofs.Ytneomdiabcpemaa
