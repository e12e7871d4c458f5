import Derived.Test.YtckopbkhpbhljaaPack29
namespace Go.Proofs.Ytckopbkhpbhljaa
open Go.RowKit
set_option maxRecDepth 8000

/-- three boxes of deltas, and what they hold -/
structure Tri (w w' : World) (d e f : DT) : Prop where
  b0 : Box w' w.heap.size #[.int .i64 d.num, .slice d.set.p d.set.n d.set.c, .slice d.gone.p d.gone.n d.gone.c] 30
  b1 : Box w' (w.heap.size + 1) #[.int .i64 e.num, .slice e.set.p e.set.n e.set.c, .slice e.gone.p e.gone.n e.gone.c] 30
  b2 : Box w' (w.heap.size + 2) #[.int .i64 f.num, .slice f.set.p f.set.n f.set.c, .slice f.gone.p f.gone.n f.gone.c] 30
  bel : Below w.heap.size w w'
theorem Tri.start (w : World) (d e f : DT) : Tri w (((w.alloc (.cells #[.int .i64 d.num, .slice d.set.p d.set.n d.set.c, .slice d.gone.p d.gone.n d.gone.c] 30)).alloc (.cells #[.int .i64 e.num, .slice e.set.p e.set.n e.set.c, .slice e.gone.p e.gone.n e.gone.c] 30)).alloc (.cells #[.int .i64 f.num, .slice f.set.p f.set.n f.set.c, .slice f.gone.p f.gone.n f.gone.c] 30)) d e f := by
  refine ⟨((Box.new w _ _).below ((Below.refl _ _).alloc (Nat.le_refl _) _)).below ((Below.refl _ _).alloc (Nat.le_refl _) _), ?_, ?_, (((Below.refl _ _).alloc (Nat.le_refl _) _).alloc (by simp) _).alloc (by simp; omega) _⟩
  · have h := Box.new (w.alloc (.cells #[.int .i64 d.num, .slice d.set.p d.set.n d.set.c, .slice d.gone.p d.gone.n d.gone.c] 30)) #[.int .i64 e.num, .slice e.set.p e.set.n e.set.c, .slice e.gone.p e.gone.n e.gone.c] 30
    rw [show (w.alloc (.cells #[.int .i64 d.num, .slice d.set.p d.set.n d.set.c, .slice d.gone.p d.gone.n d.gone.c] 30)).heap.size = w.heap.size + 1 by simp] at h
    exact h.below ((Below.refl _ _).alloc (Nat.le_refl _) _)
  · have h := Box.new ((w.alloc (.cells #[.int .i64 d.num, .slice d.set.p d.set.n d.set.c, .slice d.gone.p d.gone.n d.gone.c] 30)).alloc (.cells #[.int .i64 e.num, .slice e.set.p e.set.n e.set.c, .slice e.gone.p e.gone.n e.gone.c] 30)) #[.int .i64 f.num, .slice f.set.p f.set.n f.set.c, .slice f.gone.p f.gone.n f.gone.c] 30
    rw [show ((w.alloc (.cells #[.int .i64 d.num, .slice d.set.p d.set.n d.set.c, .slice d.gone.p d.gone.n d.gone.c] 30)).alloc (.cells #[.int .i64 e.num, .slice e.set.p e.set.n e.set.c, .slice e.gone.p e.gone.n e.gone.c] 30)).heap.size = w.heap.size + 2 by simp] at h
    exact h
theorem Tri.below {w w1 w2 : World} {d e f : DT} (h : Tri w w1 d e f) (hb : Below w1.heap.size w1 w2) : Tri w w2 d e f := ⟨h.b0.below hb, h.b1.below hb, h.b2.below hb, h.bel.trans (hb.mono h.bel.size)⟩
set_option maxHeartbeats 4000000 in
theorem assoc_any (d e f : DT) (w : World) (S : Nat → Prop) (hd : DT.In w S d) (he : DT.In w S e) (hf : DT.In w S f) (hS : ∀ k, S k → k < w.heap.size) (sd : DSz d) (se : DSz e) (sf : DSz f) :
    Calls Try.prog 21 #[.agg #[.int .i64 d.num, .slice d.set.p d.set.n d.set.c, .slice d.gone.p d.gone.n d.gone.c], .agg #[.int .i64 e.num, .slice e.set.p e.set.n e.set.c, .slice e.gone.p e.gone.n e.gone.c], .agg #[.int .i64 f.num, .slice f.set.p f.set.n f.set.c, .slice f.gone.p f.gone.n f.gone.c]] w fun r w' => r = .returned (.bool true) ∧ Below w.heap.size w w' := by
  obtain ⟨W, hW⟩ : ∃ V, V = ((w.alloc (.cells #[.int .i64 d.num, .slice d.set.p d.set.n d.set.c, .slice d.gone.p d.gone.n d.gone.c] 30)).alloc (.cells #[.int .i64 e.num, .slice e.set.p e.set.n e.set.c, .slice e.gone.p e.gone.n e.gone.c] 30)).alloc (.cells #[.int .i64 f.num, .slice f.set.p f.set.n f.set.c, .slice f.gone.p f.gone.n f.gone.c] 30) := ⟨_, rfl⟩
  have HT : Hid (Tri w W d e f) := by rw [hW]; exact Tri.start w d e f
  have HW := hid hW
  have HJ : Hid (∀ (a b : DT) (V : World) (Q : Nat → Prop), DT.In V Q a → DT.In V Q b → (∀ k, Q k → k < V.heap.size) → DSz a → DSz b → Calls Try.prog 19 #[.agg #[.int .i64 a.num, .slice a.set.p a.set.n a.set.c, .slice a.gone.p a.gone.n a.gone.c], .agg #[.int .i64 b.num, .slice b.set.p b.set.n b.set.c, .slice b.gone.p b.gone.n b.gone.c]] V fun r w' => Below V.heap.size V w' ∧ ∃ (u : DT) (c : Int), r = .returned (.tuple #[.agg #[.int .i64 u.num, .slice u.set.p u.set.n u.set.c, .slice u.gone.p u.gone.n u.gone.c], .int .i64 c]) ∧ DT.In w' (fun k => V.heap.size ≤ k) u ∧ (c = 0 → joinE a b = 0 ∧ Jnd a b u ∧ DSz u)) := by
    intro a b V Q ha hb hQ sa sb
    refine (join_any a b V Q ha hb hQ ⟨sa.set, sa.gone, sb.set, sb.gone⟩ ⟨sa.item, sb.item⟩).mono ?_
    rintro r w' ⟨h1, h2, h3⟩
    refine ⟨h1, ?_⟩
    by_cases h0 : joinE a b = 0
    · obtain ⟨u, e1, e2, e3⟩ := h3 h0
      exact ⟨u, 0, e1, e3, fun _ => ⟨h0, Jnd.of e2 e3, sa.join sb h0 e2⟩⟩
    · exact ⟨⟨0, ⟨none, 0, 0, fun _ => zC⟩, ⟨none, 0, 0, fun _ => ⟨#[]⟩⟩⟩, (joinE a b : Int), h2 h0, ⟨LT.In.none_ _ _ _ none 0 _ (Nat.zero_le _) (fun _ => rfl), LT.In.none_ _ _ _ none 0 _ (Nat.zero_le _) (fun _ => rfl), by show (-9223372036854775808 : Int) ≤ 0; omega, by show (0 : Int) ≤ 9223372036854775807; omega⟩, fun h => (h0 (by omega)).elim⟩
  have HD := hid hd
  have HE := hid he
  have HF := hid hf
  have HSS := hid hS
  have HZ := hid (And.intro sd (And.intro se sf))
  have x0 := HT.out.b0.cell 0
  have x1 := HT.out.b0.cell 1
  have x2 := HT.out.b0.cell 2
  have y0 := HT.out.b1.cell 0
  have y1 := HT.out.b1.cell 1
  have y2 := HT.out.b1.cell 2
  have xl := HT.out.b0.lt
  have yl := HT.out.b1.lt
  simp at x0 x1 x2 y0 y1 y2
  clear hd he hf hS sd se sf hW
  go_enter Try.func21, Try.ntmps21
  go_upto_region 1 with fail
  rw [← HW.out]
  go_wp2_with fail
  refine (HJ.out d e W S (HD.out.below HT.out.bel) (HE.out.below HT.out.bel) (fun k hk => Nat.lt_of_lt_of_le (HSS.out k hk) HT.out.bel.size) HZ.out.1 HZ.out.2.1).mono ?_
  rintro r w1 ⟨hb1, a, m, rfl, ha, hja⟩
  obtain ⟨V1, hV1⟩ : ∃ V, V = w1.alloc (.cells #[.int .i64 a.num, .slice a.set.p a.set.n a.set.c, .slice a.gone.p a.gone.n a.gone.c] 30) := ⟨_, rfl⟩
  have hB1 : Below w1.heap.size w1 V1 := by rw [hV1]; exact (Below.refl _ _).alloc (Nat.le_refl _) _
  have HT1 := hid ((HT.out.below hb1).below hB1)
  have HA := hid ((ha.below hB1).mono (S' := fun k => w.heap.size ≤ k) fun b hb _ => Nat.le_trans HT.out.bel.size hb)
  have HJA := hid hja
  have HXA : Hid (Box V1 w1.heap.size #[.int .i64 a.num, .slice a.set.p a.set.n a.set.c, .slice a.gone.p a.gone.n a.gone.c] 30) := by rw [hV1]; exact Box.new _ _ _
  have HV1 := hid hV1
  clear x0 x1 x2 y0 y1 y2 xl yl ha hja hb1 hB1 hV1
  have y0 := HT1.out.b1.cell 0
  have y1 := HT1.out.b1.cell 1
  have y2 := HT1.out.b1.cell 2
  have yl := HT1.out.b1.lt
  simp at y0 y1 y2
  have z0 := HT1.out.b2.cell 0
  have z1 := HT1.out.b2.cell 1
  have z2 := HT1.out.b2.cell 2
  have zl := HT1.out.b2.lt
  simp at z0 z1 z2
  go_upto_region 2 with fail
  rw [← HV1.out]
  go_wp2_with fail
  refine (HJ.out e f V1 S (HE.out.below HT1.out.bel) (HF.out.below HT1.out.bel) (fun k hk => Nat.lt_of_lt_of_le (HSS.out k hk) HT1.out.bel.size) HZ.out.2.1 HZ.out.2.2).mono ?_
  rintro r w2 ⟨hb2, b, n, rfl, hb, hjb⟩
  obtain ⟨V2, hV2⟩ : ∃ V, V = w2.alloc (.cells #[.int .i64 b.num, .slice b.set.p b.set.n b.set.c, .slice b.gone.p b.gone.n b.gone.c] 30) := ⟨_, rfl⟩
  have hB2 : Below w2.heap.size w2 V2 := by rw [hV2]; exact (Below.refl _ _).alloc (Nat.le_refl _) _
  have hB12 : Below V1.heap.size V1 V2 := hb2.trans (hB2.mono hb2.size)
  have HT2 := hid (HT1.out.below hB12)
  have HB := hid ((hb.below hB2).mono (S' := fun k => w.heap.size ≤ k) fun b hb _ => Nat.le_trans HT1.out.bel.size hb)
  have HA2 := hid (HA.out.below hB12)
  have HJB := hid hjb
  have HXA2 := hid (HXA.out.below hB12)
  have HXB : Hid (Box V2 w2.heap.size #[.int .i64 b.num, .slice b.set.p b.set.n b.set.c, .slice b.gone.p b.gone.n b.gone.c] 30) := by rw [hV2]; exact Box.new _ _ _
  have HV2 := hid hV2
  clear y0 y1 y2 z0 z1 z2 yl zl hb hjb hb2 hB2 hB12 hV2 HA HXA HV1 HT1 HT
  go_upto_region 3 with fail
  rw [← HV2.out]
  by_cases hm : m = 0
  case neg =>
    have hm' : (m != 0) = true := by simp [hm]
    go_wp2
    exact bodyPost_ret (v := .bool true) (by simp [results, Try.results21, go_sem]) rfl ⟨rfl, HT2.out.bel⟩
  by_cases hn : n = 0
  case neg =>
    have hn' : (n != 0) = true := by simp [hn]
    subst hm
    go_wp2
    exact bodyPost_ret (v := .bool true) (by simp [results, Try.results21, go_sem]) rfl ⟨rfl, HT2.out.bel⟩
  subst hm hn
  have HJA2 := hid (HJA.out rfl)
  have HJB2 := hid (HJB.out rfl)
  clear HJA HJB
  go_upto_region 5 with fail
  have u0 := HXA2.out.cell 0
  have u1 := HXA2.out.cell 1
  have u2 := HXA2.out.cell 2
  have ul := HXA2.out.lt
  simp at u0 u1 u2
  have z0 := HT2.out.b2.cell 0
  have z1 := HT2.out.b2.cell 1
  have z2 := HT2.out.b2.cell 2
  have zl := HT2.out.b2.lt
  simp at z0 z1 z2
  go_wp2_with fail
  refine (HJ.out a f V2 (fun k => k < V2.heap.size) (HA2.out.mono fun b _ h => h) ((HF.out.below HT2.out.bel).mono fun b _ h => h) (fun k hk => hk) HJA2.out.2.2 HZ.out.2.2).mono ?_
  rintro r w3 ⟨hb3, x, k, rfl, hx, hjx⟩
  obtain ⟨V3, hV3⟩ : ∃ V, V = w3.alloc (.cells #[.int .i64 x.num, .slice x.set.p x.set.n x.set.c, .slice x.gone.p x.gone.n x.gone.c] 30) := ⟨_, rfl⟩
  have hB3 : Below w3.heap.size w3 V3 := by rw [hV3]; exact (Below.refl _ _).alloc (Nat.le_refl _) _
  have hB23 : Below V2.heap.size V2 V3 := hb3.trans (hB3.mono hb3.size)
  have HT3 := hid (HT2.out.below hB23)
  have HX := hid ((hx.below hB3).mono (S' := fun k => w.heap.size ≤ k) fun b hb _ => Nat.le_trans HT2.out.bel.size hb)
  have HB3 := hid (HB.out.below hB23)
  have HJX := hid hjx
  have HXB3 := hid (HXB.out.below hB23)
  have HXX : Hid (Box V3 w3.heap.size #[.int .i64 x.num, .slice x.set.p x.set.n x.set.c, .slice x.gone.p x.gone.n x.gone.c] 30) := by rw [hV3]; exact Box.new _ _ _
  have HV3 := hid hV3
  clear u0 u1 u2 z0 z1 z2 ul zl hx hjx hb3 hB3 hB23 hV3 HB HXB HV2 HT2 HA2 HXA2
  go_upto_region 6 with fail
  rw [← HV3.out]
  have v0 := HXB3.out.cell 0
  have v1 := HXB3.out.cell 1
  have v2 := HXB3.out.cell 2
  have vl := HXB3.out.lt
  simp at v0 v1 v2
  have x0 := HT3.out.b0.cell 0
  have x1 := HT3.out.b0.cell 1
  have x2 := HT3.out.b0.cell 2
  have xl := HT3.out.b0.lt
  simp at x0 x1 x2
  go_wp2_with fail
  refine (HJ.out d b V3 (fun k => k < V3.heap.size) ((HD.out.below HT3.out.bel).mono fun b _ h => h) (HB3.out.mono fun b _ h => h) (fun k hk => hk) HZ.out.1 HJB2.out.2.2).mono ?_
  rintro r w4 ⟨hb4, y, l, rfl, hy, hjy⟩
  obtain ⟨V4, hV4⟩ : ∃ V, V = w4.alloc (.cells #[.int .i64 y.num, .slice y.set.p y.set.n y.set.c, .slice y.gone.p y.gone.n y.gone.c] 30) := ⟨_, rfl⟩
  have hB4 : Below w4.heap.size w4 V4 := by rw [hV4]; exact (Below.refl _ _).alloc (Nat.le_refl _) _
  have hB34 : Below V3.heap.size V3 V4 := hb4.trans (hB4.mono hb4.size)
  have HT4 := hid (HT3.out.below hB34)
  have HY := hid ((hy.below hB4).mono (S' := fun k => w.heap.size ≤ k) fun b hb _ => Nat.le_trans HT3.out.bel.size hb)
  have HX4 := hid (HX.out.below hB34)
  have HJY := hid hjy
  have HXX4 := hid (HXX.out.below hB34)
  have HXY : Hid (Box V4 w4.heap.size #[.int .i64 y.num, .slice y.set.p y.set.n y.set.c, .slice y.gone.p y.gone.n y.gone.c] 30) := by rw [hV4]; exact Box.new _ _ _
  have HV4 := hid hV4
  clear v0 v1 v2 x0 x1 x2 vl xl hy hjy hb4 hB4 hB34 hV4 HB3 HXB3 HV3 HT3 HX HXX
  go_upto_region 7 with fail
  rw [← HV4.out]
  by_cases hk : k = 0
  case neg =>
    have hk' : (k != 0) = true := by simp [hk]
    go_wp2
    exact bodyPost_ret (v := .bool true) (by simp [results, Try.results21, go_sem]) rfl ⟨rfl, HT4.out.bel⟩
  by_cases hl : l = 0
  case neg =>
    have hl' : (l != 0) = true := by simp [hl]
    subst hk
    go_wp2
    exact bodyPost_ret (v := .bool true) (by simp [results, Try.results21, go_sem]) rfl ⟨rfl, HT4.out.bel⟩
  subst hk hl
  have HJX2 := hid (HJX.out rfl)
  have HJY2 := hid (HJY.out rfl)
  clear HJX HJY
  have u0 := HXX4.out.cell 0
  have u1 := HXX4.out.cell 1
  have u2 := HXX4.out.cell 2
  have ul := HXX4.out.lt
  simp at u0 u1 u2
  have v0 := HXY.out.cell 0
  have v1 := HXY.out.cell 1
  have v2 := HXY.out.cell 2
  have vl := HXY.out.lt
  simp at v0 v1 v2
  go_wp2_with fail
  refine (yDelta x y V4 _ _ HX4.out HY.out).mono ?_
  rintro r w5 ⟨q, rfl, hq, hb5⟩
  have hd := chkD_ok (joinE_ok HJA2.out.1).1
  have he := chkD_ok (joinE_ok HJA2.out.1).2.1
  have hf := chkD_ok (joinE_ok HJB2.out.1).2.1
  obtain rfl : q = true := hq.2 (Jnd.assoc hd he hf HJA2.out.2.1 HJB2.out.2.1 HJX2.out.2.1 HJY2.out.2.1)
  have HB5 := hid (HT4.out.bel.trans (hb5.mono HT4.out.bel.size))
  clear hd he hf hq hb5
  go_wp2
  exact bodyPost_ret (v := .bool true) (by simp [results, Try.results21, go_sem]) rfl ⟨rfl, HB5.out⟩
end Go.Proofs.Ytckopbkhpbhljaa
