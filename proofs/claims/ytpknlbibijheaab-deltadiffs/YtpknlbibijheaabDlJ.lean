import Derived.Test.YtpknlbibijheaabPack11
namespace Go.Proofs.Ytpknlbibijheaab
open Go.RowKit
set_option maxRecDepth 8000
set_option maxHeartbeats 2000000 in
theorem first_St (a b : ST) (w : World) (S : Nat → Prop) (ha : ST.In w S a) (hb : ST.In w S b) (hS : ∀ k, S k → k < w.heap.size) (res : Nat) (hres : res = if chkState a ≠ 0 then chkState a else chkState b) :
    Calls Try.prog 14 #[.func (.func 15) #[] #[], .agg #[.int .i64 a.num, .slice a.p a.n a.c], .agg #[.int .i64 b.num, .slice b.p b.n b.c]] w fun e w' => e = .returned (.int .i64 (res : Int)) ∧ Below w.heap.size w w' := by
  obtain ⟨W, hW⟩ : ∃ V, V = (w.alloc (.cells #[.int .i64 a.num, .slice a.p a.n a.c] 24)).alloc (.cells #[.int .i64 b.num, .slice b.p b.n b.c] 24) := ⟨_, rfl⟩
  have hB : Below w.heap.size w W := by rw [hW]; exact ((Below.refl _ _).alloc (Nat.le_refl _) _).alloc (by simp) _
  have hx0 : Box W w.heap.size #[.int .i64 a.num, .slice a.p a.n a.c] 24 := by rw [hW]; exact (Box.new w _ _).below ((Below.refl _ _).alloc (Nat.le_refl _) _)
  have hx1 : Box W (w.heap.size + 1) #[.int .i64 b.num, .slice b.p b.n b.c] 24 := by
    have h := Box.new (w.alloc (.cells #[.int .i64 a.num, .slice a.p a.n a.c] 24)) #[.int .i64 b.num, .slice b.p b.n b.c] 24
    rw [show (w.alloc (.cells #[.int .i64 a.num, .slice a.p a.n a.c] 24)).heap.size = w.heap.size + 1 by simp] at h
    rw [hW]; exact h
  obtain ⟨ca, hca⟩ : ∃ c, c = chkState a := ⟨_, rfl⟩
  obtain ⟨cb, hcb⟩ : ∃ c, c = chkState b := ⟨_, rfl⟩
  have HC1 : Hid (Calls Try.prog 15 #[.agg #[.int .i64 a.num, .slice a.p a.n a.c]] W fun e w' => e = .returned (.int .i64 (ca : Int)) ∧ Below W.heap.size W w') := by rw [hca]; exact checkState_any a W S (ha.below hB) (fun k hk => Nat.lt_of_lt_of_le (hS k hk) hB.size)
  have HC2 : Hid (∀ V, Below W.heap.size W V → Calls Try.prog 15 #[.agg #[.int .i64 b.num, .slice b.p b.n b.c]] V fun e w' => e = .returned (.int .i64 (cb : Int)) ∧ Below V.heap.size V w') := fun V hV => by rw [hcb]; exact checkState_any b V S ((hb.below hB).below hV) (fun k hk => Nat.lt_of_lt_of_le (hS k hk) (Nat.le_trans hB.size hV.size))
  have HRes : Hid (res = if ca ≠ 0 then ca else cb) := by show _ = _; rw [hres, hca, hcb]
  have HB := hid hB
  have HW := hid hW
  have HX1 := hid hx1
  have x0 := hx0.cell 0
  have x1 := hx0.cell 1
  have xl := hx0.lt
  simp at x0 x1
  clear ha hb hS hB hW hx0 hx1 hres hca hcb
  go_enter Try.func14, Try.ntmps14
  go_upto_region 1 with fail
  rw [← HW.out]
  go_wp2_with fail
  refine HC1.out.mono ?_
  rintro e w1 ⟨rfl, hb1⟩
  have HB1 := hid hb1
  have hx1 := HX1.out.below hb1
  have y0 := hx1.cell 0
  have y1 := hx1.cell 1
  have yl := hx1.lt
  simp at y0 y1
  have HBa : Hid (Below w.heap.size w w1) := HB.out.trans (hb1.mono HB.out.size)
  clear hb1 hx1 HC1 xl x0 x1
  by_cases hc : ca = 0
  · have hc1 : ((ca : Int) != 0) = false := by simp [hc]
    have HR2 : Hid (res = cb) := by show _ = _; rw [HRes.out, if_neg (by simp [hc])]
    clear hc
    go_wp2_with fail
    refine (HC2.out _ HB1.out).mono ?_
    rintro e w2 ⟨rfl, hb2⟩
    have HBz : Hid (Below w.heap.size w w2) := HBa.out.trans (hb2.mono HBa.out.size)
    clear hb2
    go_wp2
    exact bodyPost_ret (v := .int .i64 (cb : Int)) (by simp [results, Try.results14, go_sem]) rfl ⟨by rw [HR2.out], HBz.out⟩
  · have hc1 : ((ca : Int) != 0) = true := by simp; omega
    have HR2 : Hid (res = ca) := by show _ = _; rw [HRes.out, if_pos hc]
    clear hc
    go_wp2
    exact bodyPost_ret (v := .int .i64 (ca : Int)) (by simp [results, Try.results14, go_sem]) rfl ⟨by rw [HR2.out], HBa.out⟩
/-- two deltas alike -/
structure DT.Alike (d e : DT) : Prop where
  num : e.num = d.num
  sn : e.set.n = d.set.n
  set : ∀ j, j < d.set.n → VT.Alike (d.set.item j) (e.set.item j)
  gn : e.gone.n = d.gone.n
  gone : ∀ j, j < d.gone.n → e.gone.item j = d.gone.item j
set_option maxHeartbeats 2000000 in
/-- fresh.Delta -/
theorem freshD (d : DT) (w : World) (S : Nat → Prop) (hin : DT.In w S d) (hn : d.set.n ≤ 10000) (hg : d.gone.n ≤ 10000) (ht : ∀ j, j < d.set.n → (d.set.item j).total ≤ 10000) :
    Calls Try.prog 19 #[.agg #[.int .i64 d.num, .slice d.set.p d.set.n d.set.c, .slice d.gone.p d.gone.n d.gone.c]] w fun e w' => ∃ u : DT, e = .returned (.agg #[.int .i64 u.num, .slice u.set.p u.set.n u.set.c, .slice u.gone.p u.gone.n u.gone.c]) ∧ DT.Alike d u ∧ DT.In w' (fun b => w.heap.size ≤ b) u ∧ Below w.heap.size w w' := by
  have HL : Hid (∀ W, Below w.heap.size w W → Calls Try.prog 37 #[.slice d.set.p d.set.n d.set.c, .func (.func 38) #[] #[]] W fun e w' => ∃ u : LT VT, e = .returned (.slice u.p u.n u.c) ∧ u.n = d.set.n ∧ (∀ j, j < d.set.n → VT.Alike (d.set.item j) (u.item j)) ∧ LT.In elCell w' (fun b => W.heap.size ≤ b) u ∧ Below W.heap.size W w') := fun W hW =>
    flC VT.Alike d.set W (fun b => S b ∧ b < w.heap.size) ((hin.set.mono fun b hb hl => ⟨hb, hl⟩).kept hW.size (fun b hb _ => hW.block b hb.2)) hn
      (fun j hj W2 hW2 => freshC (d.set.item j) W2 (fun b => S b ∧ b < w.heap.size) (VT.In.kept ((hin.set.each j hj).mono fun b hb hl => ⟨hb, hl⟩) (Nat.le_trans hW.size hW2.size) (fun b hb _ => (hW2.block b (by have := hW.size; omega)).trans (hW.block b hb.2))) (ht j hj))
  have HG : Hid (∀ W, Below w.heap.size w W → Calls Try.prog 39 #[.slice d.gone.p d.gone.n d.gone.c, .func (.func 40) #[] #[]] W fun e w' => ∃ u : LT ByteArray, e = .returned (.slice u.p u.n u.c) ∧ u.n = d.gone.n ∧ (∀ j, j < d.gone.n → u.item j = d.gone.item j) ∧ LT.In elStr w' (fun b => W.heap.size ≤ b) u ∧ Below W.heap.size W w') := fun W hW => by
    have h := flS (fun x y => y = x) d.gone W (fun b => S b ∧ b < w.heap.size) ((hin.gone.mono fun b hb hl => ⟨hb, hl⟩).kept hW.size (fun b hb _ => hW.block b hb.2)) hg
      (fun j hj W2 hW2 => (clone_any (d.gone.item j) W2 (hin.gone.each j hj)).mono fun e w' h => ⟨d.gone.item j, h.1, rfl, hin.gone.each j hj, h.2⟩)
    exact h
  have HT := hid (TwoK.start w #[.int .i64 d.num, .slice d.set.p d.set.n d.set.c, .slice d.gone.p d.gone.n d.gone.c] #[.int .i64 0, .slice none 0 0, .slice none 0 0] 29)
  have HN := hid (And.intro hin.n0 hin.n1)
  clear hin ht
  go_enter Try.func19, Try.ntmps19
  go_wp2_with fail
  refine (HL.out _ HT.out.bel).mono ?_
  rintro e w2 ⟨u, rfl, hn2, hal, hin2, hb2⟩
  have HT3 := hid (HT.out.below hb2)
  have HU := hid (And.intro hn2 (And.intro hal hin2))
  have m0 := HT3.out.ba.lt
  have y0 := HT3.out.ba.cell 0
  have y1 := HT3.out.ba.cell 1
  have y2 := HT3.out.ba.cell 2
  have g1 := HT3.out.ba.frozen 1
  simp at y0 y1 y2
  have hsz := hb2.size
  simp at hsz
  clear hal hin2 hb2 HT HL hn2
  obtain ⟨V2, hV2⟩ : ∃ V, V = w2.setCell ⟨w.heap.size, 1, none⟩ (.slice u.p u.n u.c) := ⟨_, rfl⟩
  have hT4 := HT3.out.setA 1 (.slice u.p u.n u.c)
  rw [← hV2] at hT4
  simp only [List.setIfInBounds_toArray, List.set_cons_zero, List.set_cons_succ] at hT4
  have HT4 := hid hT4
  have hbV : But (fun x => x = w.heap.size) w2 V2 := by rw [hV2]; exact (But.one w2 w.heap.size).setAt 1 _
  have HBV := hid hbV
  have HV2 := hid hV2
  clear hT4 hbV hV2
  go_upto_region 2 with fail
  rw [← HV2.out]
  have n0 := HT4.out.ba.cell 0
  have n1 := HT4.out.ba.cell 1
  have n2 := HT4.out.ba.cell 2
  have nl := HT4.out.ba.lt
  simp at n0 n1 n2
  clear y0 y1 y2 g1 m0
  go_wp2_with fail
  refine (HG.out _ HT4.out.bel).mono ?_
  rintro e w3 ⟨v, rfl, hn3, hal3, hin3, hb3⟩
  have HT5 := hid (HT4.out.below hb3)
  have HV := hid (And.intro hn3 (And.intro hal3 (And.intro hin3 hb3)))
  have y0 := HT5.out.ba.cell 0
  have y1 := HT5.out.ba.cell 1
  have y2 := HT5.out.ba.cell 2
  have g2 := HT5.out.ba.frozen 2
  have z0 := HT5.out.bb.cell 0
  have z1 := HT5.out.bb.cell 1
  have z2 := HT5.out.bb.cell 2
  have k0 := HT5.out.bb.frozen 0
  have k1 := HT5.out.bb.frozen 1
  have k2 := HT5.out.bb.frozen 2
  have m0 := HT5.out.ba.lt
  have m1 := HT5.out.bb.lt
  simp at y0 y1 y2 z0 z1 z2
  have hsz3 := hb3.size
  have hszV := HBV.out.size
  clear hn3 hal3 hin3 hb3 HG n0 n1 n2 nl
  go_wp2
  have HT6 := (((HT5.out.setA 2 (.slice v.p v.n v.c)).setB 0 (.int .i64 d.num)).setB 1 (.slice u.p u.n u.c)).setB 2 (.slice v.p v.n v.c)
  have hbt : But (fun x => x = w.heap.size ∨ x = w.heap.size + 1) w3 ((((w3.setCell ⟨w.heap.size, 2, none⟩ (.slice v.p v.n v.c)).setCell ⟨w.heap.size + 1, 0, none⟩ (.int .i64 d.num)).setCell ⟨w.heap.size + 1, 1, none⟩ (.slice u.p u.n u.c)).setCell ⟨w.heap.size + 1, 2, none⟩ (.slice v.p v.n v.c)) :=
    ((((But.refl _ w3).setCell (fun _ => Or.inl rfl) _).setCell (fun _ => Or.inr rfl) _).setCell (fun _ => Or.inr rfl) _).setCell (fun _ => Or.inr rfl) _
  obtain ⟨hn2, hal, hin2⟩ := HU.out
  obtain ⟨hn3, hal3, hin3, hb3⟩ := HV.out
  refine bodyPost_ret (v := .agg #[.int .i64 d.num, .slice u.p u.n u.c, .slice v.p v.n v.c]) (by simp [results, Try.results19, go_sem, z0, z1, z2]) rfl ⟨⟨d.num, u, v⟩, rfl, ⟨rfl, hn2, hal, hn3, hal3⟩, ⟨?_, ?_, HN.out.1, HN.out.2⟩, HT6.bel⟩
  · have h1 : LT.In elCell V2 (fun b => w.heap.size + 2 ≤ b) u := (hin2.mono (S' := fun b => w.heap.size + 2 ≤ b) (fun b hb _ => by simpa using hb)).kept HBV.out.size (fun b hb hl => HBV.out.block b hl (by omega))
    exact ((h1.below hb3).kept hbt.size (fun b hb hl => hbt.block b hl (by omega))).mono (S' := fun b => w.heap.size ≤ b) (fun b hb _ => by omega)
  · have h1 : LT.In elStr w3 (fun b => w.heap.size + 2 ≤ b) v := hin3.mono (S' := fun b => w.heap.size + 2 ≤ b) (fun b hb _ => by omega)
    exact (h1.kept hbt.size (fun b hb hl => hbt.block b hl (by omega))).mono (S' := fun b => w.heap.size ≤ b) (fun b hb _ => by omega)
end Go.Proofs.Ytpknlbibijheaab
