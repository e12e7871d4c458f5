import Derived.Test.YtpknlbibijheaabPack30
import Derived.Test.YtpknlbibijheaabDnL
import Derived.Test.YtpknlbibijheaabPack42
namespace Go.Proofs.Ytpknlbibijheaab
open Go.RowKit
set_option maxRecDepth 8000
/-- what Diff has to do with a key -/
structure DfK (w : World) (S : Nat → Prop) (a b : LT VT) (K : List ByteArray) : Prop where
  ha : SOk w S a
  hb : SOk w S b
  rK : Rise id K
  mK : ∀ k, k ∈ K ↔ keyIn a.toL k ∨ keyIn b.toL k
theorem DfK.rR {w : World} {S : Nat → Prop} {a b : LT VT} {K : List ByteArray} (h : DfK w S a b K) : Rise VT.text ((dSet (dEv a b)).map VT.norm) := rise_norm (dSet_rise h.ha h.hb)
theorem DfK.rG {w : World} {S : Nat → Prop} {a b : LT VT} {K : List ByteArray} (h : DfK w S a b K) : Rise id (dGone (dEv a b)) := dGone_rise h.ha h.hb
theorem DfK.inS {w : World} {S : Nat → Prop} {a b : LT VT} {K : List ByteArray} (h : DfK w S a b K) : ∀ c ∈ (dSet (dEv a b)).map VT.norm, c.text ∈ K := by
  intro c hc
  obtain ⟨c0, h0, rfl⟩ := List.mem_map.1 hc
  rw [h.mK, norm_text]
  exact .inr ⟨c0, ((dSet_mem h.ha h.hb c0).1 h0).1, rfl⟩
theorem DfK.inG {w : World} {S : Nat → Prop} {a b : LT VT} {K : List ByteArray} (h : DfK w S a b K) : ∀ k ∈ dGone (dEv a b), id k ∈ K := by
  intro k hk
  show k ∈ K
  rw [h.mK]
  exact .inl ((dGone_mem h.ha h.hb k).1 hk).1
theorem nl_has {l : LT VT} {u : VT} (h : u.norm ∈ l.nl) : ∃ c ∈ l.toL, VT.Alike c u ∧ VT.Alike u c ∧ c.norm = u.norm := by
  obtain ⟨c, hc, e⟩ := List.mem_map.1 h
  exact ⟨c, hc, norm_to e, norm_to e.symm, e⟩
/-- copies of two cells are the same just where the cells are alike -/
theorem sm_iff {W : World} {T : Nat → Prop} {c u x y : VT} (kc : COk c) (ku : COk u) (hx : VT.In W T x) (hy : VT.In W T y) (cx : VT.Alike c x) (xc : VT.Alike x c) (uy : VT.Alike u y) (yu : VT.Alike y u) (ht : c.text = u.text) : SmC x y ↔ CAlk c u := by
  have kx := kc.alike cx
  have ky := ku.alike uy
  constructor
  · rintro ⟨h1, h2, h3⟩
    have hn : u.n = c.n := by rw [← uy.n, ← cx.n]; exact h2
    refine ⟨ht.symm, hn, fun j hj => ?_⟩
    have hjx : j < x.n := by rw [cx.n]; exact hj
    have e := (eq0_iff (hx.sub hjx) (hy.sub (by rw [h2]; exact hjx)) (chkVals_item kx.vals j hjx) (chkVals_item ky.vals j (by rw [h2]; exact hjx))).1 (h3 j hjx)
    exact ((cx.item hj).trans e).trans (yu.item (by rw [h2]; exact hjx))
  · rintro ⟨_, h2, h3⟩
    have hn : y.n = x.n := by rw [uy.n, cx.n, h2]
    refine ⟨by rw [uy.text, cx.text, ht], hn, fun j hj => ?_⟩
    have hjc : j < c.n := by rw [← cx.n]; exact hj
    exact (eq0_iff (hx.sub hj) (hy.sub (by omega)) (chkVals_item kx.vals j hj) (chkVals_item ky.vals j (by omega))).2 (((xc.item hj).trans (h3 j hjc)).trans (uy.item (by rw [h2]; exact hjc)))
theorem mem_no {w : World} {S : Nat → Prop} {a b : LT VT} {K : List ByteArray} {R : List VT} {y : VT} {key : ByteArray} {W : World} {T : Nat → Prop} (h : DfK w S a b K) (hR : R = (dSet (dEv a b)).map VT.norm) (hy : y.text = key ∧ y.norm ∈ b.nl ∧ VT.In W T y) (hn : ¬ keyIn a.toL key) : y.norm ∈ R := by
  obtain ⟨c0, hc0, c1, _, e0⟩ := nl_has hy.2.1
  rw [hR, ← e0]
  refine List.mem_map.2 ⟨c0, (dSet_mem h.ha h.hb c0).2 ⟨hc0, fun x hx e => (hn ⟨x, hx, ?_⟩).elim⟩, rfl⟩
  rw [e, ← c1.text]
  exact hy.1
theorem mem_ne {w : World} {S : Nat → Prop} {a b : LT VT} {K : List ByteArray} {R : List VT} {x y : VT} {key : ByteArray} {W : World} {T T' : Nat → Prop} (h : DfK w S a b K) (hR : R = (dSet (dEv a b)).map VT.norm) (hx : x.text = key ∧ x.norm ∈ a.nl ∧ VT.In W T x) (hy : y.text = key ∧ y.norm ∈ b.nl ∧ VT.In W T' y) (hn : ¬ SmC x y) : y.norm ∈ R := by
  obtain ⟨c0, hc0, c1, c2, e0⟩ := nl_has hy.2.1
  obtain ⟨x0, hx0, x1, x2, e1⟩ := nl_has hx.2.1
  rw [hR, ← e0]
  refine List.mem_map.2 ⟨c0, (dSet_mem h.ha h.hb c0).2 ⟨hc0, fun z hz e hal => hn ?_⟩, rfl⟩
  have ez : z = x0 := h.ha.rise.uniq hz hx0 (by rw [e, ← c1.text, hy.1, ← hx.1, x1.text])
  subst ez
  exact (sm_iff (T := fun _ => True) (h.ha.cells _ hz) (h.hb.cells _ hc0) (hx.2.2.mono fun _ _ _ => trivial) (hy.2.2.mono fun _ _ _ => trivial) x1 x2 c1 c2 e).2 hal
theorem skip_eq {w : World} {S : Nat → Prop} {a b : LT VT} {K : List ByteArray} {R : List VT} {x y : VT} {key : ByteArray} {W : World} {T T' : Nat → Prop} (h : DfK w S a b K) (hR : R = (dSet (dEv a b)).map VT.norm) (hx : x.text = key ∧ x.norm ∈ a.nl ∧ VT.In W T x) (hy : y.text = key ∧ y.norm ∈ b.nl ∧ VT.In W T' y) (hs : SmC x y) : ∀ c ∈ R, c.text ≠ key := by
  intro c hc e
  rw [hR] at hc
  obtain ⟨d0, hd0, rfl⟩ := List.mem_map.1 hc
  rw [norm_text] at e
  obtain ⟨hdb, hdn⟩ := (dSet_mem h.ha h.hb d0).1 hd0
  obtain ⟨c0, hc0, c1, c2, e0⟩ := nl_has hy.2.1
  obtain ⟨x0, hx0, x1, x2, e1⟩ := nl_has hx.2.1
  have ed : d0 = c0 := h.hb.rise.uniq hdb hc0 (by rw [e, ← c1.text, hy.1])
  subst ed
  have et : x0.text = d0.text := by rw [e, ← x1.text, hx.1]
  exact hdn x0 hx0 et ((sm_iff (T := fun _ => True) (h.ha.cells _ hx0) (h.hb.cells _ hc0) (hx.2.2.mono fun _ _ _ => trivial) (hy.2.2.mono fun _ _ _ => trivial) x1 x2 c1 c2 et).1 hs)
set_option maxHeartbeats 16000000 in
theorem rdiff_any (an : Int) (a : LT VT) (bn : Int) (b : LT VT) (w : World) (S : Nat → Prop) (ha : LT.In elCell w S a) (ha0 : -9223372036854775808 ≤ an) (ha1 : an ≤ 9223372036854775807) (hb : LT.In elCell w S b) (hb0 : -9223372036854775808 ≤ bn) (hb1 : bn ≤ 9223372036854775807) (hS : ∀ k, S k → k < w.heap.size) (za : CSz a) (zb : CSz b) :
    Calls Try.prog 7 #[.agg #[.int .i64 an, .slice a.p a.n a.c], .agg #[.int .i64 bn, .slice b.p b.n b.c]] w fun e w' => ∃ u : DT, e = .returned (.tuple #[.agg #[.int .i64 u.num, .slice u.set.p u.set.n u.set.c, .slice u.gone.p u.gone.n u.gone.c], .int .i64 (diffE an a bn b : Int)]) ∧ DT.In w' (fun k => w.heap.size ≤ k) u ∧ (diffE an a bn b = 0 → u.num = bn ∧ u.nS = (dSet (dEv a b)).map VT.norm ∧ u.gone.toL = dGone (dEv a b)) ∧ (diffE an a bn b ≠ 0 → u = zD) ∧ Below w.heap.size w w' := by
  obtain ⟨i0, Kd⟩ := kindCs
  have HKd := hid Kd
  obtain ⟨i1, Ks⟩ := kindS
  have HKs := hid Ks
  clear Kd Ks
  obtain ⟨W0, hW0⟩ : ∃ X, X = ((w.alloc (.cells #[.int .i64 an, .slice a.p a.n a.c] 24)).alloc (.cells #[.int .i64 bn, .slice b.p b.n b.c] 24)).alloc (.cells #[.int .i64 0, .slice none 0 0, .slice none 0 0] 29) := ⟨_, rfl⟩
  have hB0 : Below w.heap.size w W0 := by rw [hW0]; exact (below2 _ _ _).alloc (by simp; omega) _
  have hs00 : W0.heap.size = w.heap.size + 3 := by rw [hW0]; simp
  have bS : Box W0 w.heap.size #[.int .i64 an, .slice a.p a.n a.c] 24 := by rw [hW0]; exact ((Box.new w _ _).below (below1 _ _)).below (below1 _ _)
  have bD : Box W0 (w.heap.size + 1) #[.int .i64 bn, .slice b.p b.n b.c] 24 := by
    have h1 := Box.new (w.alloc (.cells #[.int .i64 an, .slice a.p a.n a.c] 24)) #[.int .i64 bn, .slice b.p b.n b.c] 24
    rw [World.size_alloc] at h1
    rw [hW0]
    exact h1.below (below1 _ _)
  have bR : Box W0 (w.heap.size + 2) #[.int .i64 0, .slice none 0 0, .slice none 0 0] 29 := by
    have h1 := Box.new ((w.alloc (.cells #[.int .i64 an, .slice a.p a.n a.c] 24)).alloc (.cells #[.int .i64 bn, .slice b.p b.n b.c] 24)) #[.int .i64 0, .slice none 0 0, .slice none 0 0] 29
    rw [World.size_alloc, World.size_alloc] at h1
    rw [hW0]
    exact h1
  have haI := ha.below hB0
  have hbI := hb.below hB0
  have HSt := hid (refCheckState_any ⟨an, a.p, a.n, a.c, a.item⟩ W0 S (LT.toST haI ha0 ha1))
  have HNb := hid (And.intro hb0 hb1)
  have HW0 := hid hW0
  have HB0 := hid hB0
  have HS00 := hid hs00
  have HbS := hid bS
  have HbD := hid bD
  have HbR := hid bR
  have HaI := hid haI
  have HbI := hid hbI
  have HS := hid hS
  have HZa := hid za
  have HZb := hid zb
  have a0 := bS.cell 0
  have a1 := bS.cell 1
  have al := bS.lt
  simp at a0 a1
  clear hW0 hB0 hs00 bS bD bR haI hbI ha hb hS za zb ha0 ha1 hb0 hb1
  go_enter Try.func7, Try.ntmps7
  go_upto_region 1 with fail
  rw [← HW0.out]
  go_wp2_with fail
  refine HSt.out.mono ?_
  rintro e W1 ⟨rfl, hb1⟩
  have HB1 : Hid (Below w.heap.size w W1) := HB0.out.trans (hb1.mono HB0.out.size)
  replace HbS := hid (HbS.out.below hb1)
  replace HbD := hid (HbD.out.below hb1)
  replace HbR := hid (HbR.out.below hb1)
  replace HaI := hid (HaI.out.below hb1)
  replace HbI := hid (HbI.out.below hb1)
  have HZ1 : Hid (w.heap.size + 3 ≤ W1.heap.size) := by have := HS00.out; have := hb1.size; show _ ≤ _; omega
  obtain ⟨cs, hcs⟩ : ∃ x, x = chkState ⟨an, a.p, a.n, a.c, a.item⟩ := ⟨_, rfl⟩
  rw [← hcs]
  have HCs := hid hcs
  clear hb1 HSt hcs a0 a1 al
  by_cases h0 : cs = 0
  case neg =>
    have h0' : ((cs : Int) != 0) = true := by simp; omega
    have HR : Hid (diffE an a bn b = cs) := by show _ = _; unfold diffE; rw [← HCs.out, if_pos h0]
    have r0 := HbR.out.cell 0
    have rf0 := HbR.out.frozen 0
    have r1 := HbR.out.cell 1
    have rf1 := HbR.out.frozen 1
    have r2 := HbR.out.cell 2
    have rf2 := HbR.out.frozen 2
    have rl := HbR.out.lt
    simp at r0 r1 r2
    go_wp2
    have hbx : Box (((W1.setCell ⟨w.heap.size + 2, 0, none⟩ (.int .i64 0)).setCell ⟨w.heap.size + 2, 1, none⟩ (.slice none 0 0)).setCell ⟨w.heap.size + 2, 2, none⟩ (.slice none 0 0)) (w.heap.size + 2) #[.int .i64 0, .slice none 0 0, .slice none 0 0] 29 := by simpa using ((HbR.out.set 0 (.int .i64 0)).set 1 (.slice none 0 0)).set 2 (.slice none 0 0)
    have hbt : But (fun x => x = w.heap.size + 2) W1 (((W1.setCell ⟨w.heap.size + 2, 0, none⟩ (.int .i64 0)).setCell ⟨w.heap.size + 2, 1, none⟩ (.slice none 0 0)).setCell ⟨w.heap.size + 2, 2, none⟩ (.slice none 0 0)) := (((But.one _ _).setAt 0 _).setAt 1 _).setAt 2 _
    have g0 := hbx.cell 0
    have g1 := hbx.cell 1
    have g2 := hbx.cell 2
    simp at g0 g1 g2
    exact bodyPost_ret (v := .tuple #[.agg #[.int .i64 0, .slice none 0 0, .slice none 0 0], .int .i64 (cs : Int)]) (by simp [results, Try.results7, go_sem, g0, g1, g2]) rfl ⟨zD, by rw [HR.out]; try rfl, zD_in _ _, fun h => (by rw [HR.out] at h; exact (by omega : False).elim), fun _ => rfl, HB1.out.trans (hbt.below HB1.out.size (fun q hq => by omega))⟩
  case pos =>
    subst h0
    have HOkS : Hid (chkState ⟨an, a.p, a.n, a.c, a.item⟩ = 0) := HCs.out.symm
    clear HCs
    have b0 := HbD.out.cell 0
    have b1 := HbD.out.cell 1
    have bl := HbD.out.lt
    simp at b0 b1
    have HCk := hid (refCheckState_any ⟨bn, b.p, b.n, b.c, b.item⟩ W1 S (LT.toST HbI.out HNb.out.1 HNb.out.2))
    go_wp2_with fail
    refine HCk.out.mono ?_
    rintro e W2 ⟨rfl, hb2⟩
    have HB2 : Hid (Below w.heap.size w W2) := HB1.out.trans (hb2.mono HB1.out.size)
    replace HbS := hid (HbS.out.below hb2)
    replace HbD := hid (HbD.out.below hb2)
    replace HbR := hid (HbR.out.below hb2)
    replace HaI := hid (HaI.out.below hb2)
    replace HbI := hid (HbI.out.below hb2)
    have HZ2 : Hid (w.heap.size + 3 ≤ W2.heap.size) := by have := HZ1.out; have := hb2.size; show _ ≤ _; omega
    obtain ⟨cd, hcd⟩ : ∃ x, x = chkState ⟨bn, b.p, b.n, b.c, b.item⟩ := ⟨_, rfl⟩
    rw [← hcd]
    have HCd := hid hcd
    clear hb2 HCk hcd HB1 b0 b1 bl
    by_cases h0 : cd = 0
    case neg =>
      have h0' : ((cd : Int) != 0) = true := by simp; omega
      have HR : Hid (diffE an a bn b = cd) := by show _ = _; unfold diffE; rw [if_neg (by simpa using HOkS.out)]; exact HCd.out.symm
      have r0 := HbR.out.cell 0
      have rf0 := HbR.out.frozen 0
      have r1 := HbR.out.cell 1
      have rf1 := HbR.out.frozen 1
      have r2 := HbR.out.cell 2
      have rf2 := HbR.out.frozen 2
      have rl := HbR.out.lt
      simp at r0 r1 r2
      go_wp2
      have hbx : Box (((W2.setCell ⟨w.heap.size + 2, 0, none⟩ (.int .i64 0)).setCell ⟨w.heap.size + 2, 1, none⟩ (.slice none 0 0)).setCell ⟨w.heap.size + 2, 2, none⟩ (.slice none 0 0)) (w.heap.size + 2) #[.int .i64 0, .slice none 0 0, .slice none 0 0] 29 := by simpa using ((HbR.out.set 0 (.int .i64 0)).set 1 (.slice none 0 0)).set 2 (.slice none 0 0)
      have hbt : But (fun x => x = w.heap.size + 2) W2 (((W2.setCell ⟨w.heap.size + 2, 0, none⟩ (.int .i64 0)).setCell ⟨w.heap.size + 2, 1, none⟩ (.slice none 0 0)).setCell ⟨w.heap.size + 2, 2, none⟩ (.slice none 0 0)) := (((But.one _ _).setAt 0 _).setAt 1 _).setAt 2 _
      have g0 := hbx.cell 0
      have g1 := hbx.cell 1
      have g2 := hbx.cell 2
      simp at g0 g1 g2
      exact bodyPost_ret (v := .tuple #[.agg #[.int .i64 0, .slice none 0 0, .slice none 0 0], .int .i64 (cd : Int)]) (by simp [results, Try.results7, go_sem, g0, g1, g2]) rfl ⟨zD, by rw [HR.out]; try rfl, zD_in _ _, fun h => (by rw [HR.out] at h; exact (by omega : False).elim), fun _ => rfl, HB2.out.trans (hbt.below HB2.out.size (fun q hq => by omega))⟩
    case pos =>
      subst h0
      have HOkD : Hid (chkState ⟨bn, b.p, b.n, b.c, b.item⟩ = 0) := HCd.out.symm
      clear HCd
      have HR : Hid (diffE an a bn b = 0) := by show _ = _; unfold diffE; rw [if_neg (by simpa using HOkS.out)]; exact HOkD.out
      have han := (chkState_rise HOkS.out).2.1
      have hbn := (chkState_rise HOkD.out).2.1
      obtain ⟨V2, hV2⟩ : ∃ X, X = W2.alloc (.cells #[.int .i64 bn, .slice none 0 0, .slice none 0 0] 29) := ⟨_, rfl⟩
      have hbV : Below W2.heap.size W2 V2 := by rw [hV2]; exact below1 _ _
      have HbO : Hid (Box V2 W2.heap.size #[.int .i64 bn, .slice none 0 0, .slice none 0 0] 29) := by show Box _ _ _ _; rw [hV2]; exact Box.new _ _ _
      have HVs : Hid (V2.heap.size = W2.heap.size + 1) := by show _ = _; rw [hV2]; simp
      have HV2 := hid hV2
      have b0 := HbD.out.cell 0
      have b1 := HbD.out.cell 1
      have bl := HbD.out.lt
      simp at b0 b1
      go_upto_region 8 with fail
      rw [← HV2.out]
      clear b0 b1 bl
      replace HbS := hid (HbS.out.below hbV)
      replace HbD := hid (HbD.out.below hbV)
      replace HbR := hid (HbR.out.below hbV)
      replace HaI := hid (HaI.out.below hbV)
      replace HbI := hid (HbI.out.below hbV)
      have HBV : Hid (Below w.heap.size w V2) := HB2.out.trans (hbV.mono HB2.out.size)
      have HKy := hid (rkeys_any a b ⟨none, 0, 0, fun _ => ⟨#[]⟩⟩ ⟨none, 0, 0, fun _ => ⟨#[]⟩⟩ V2 S HaI.out HbI.out (LT.In.none_ _ _ _ none 0 _ (Nat.zero_le _) (fun _ => rfl)) (LT.In.none_ _ _ _ none 0 _ (Nat.zero_le _) (fun _ => rfl)) ⟨by omega, by omega, by show 0 ≤ 10000; omega, by show 0 ≤ 10000; omega⟩)
      dsimp only at HKy
      have a0 := HbS.out.cell 0
      have a1 := HbS.out.cell 1
      have al := HbS.out.lt
      simp at a0 a1
      have b0 := HbD.out.cell 0
      have b1 := HbD.out.cell 1
      have bl := HbD.out.lt
      simp at b0 b1
      clear hV2 hbV
      go_wp2_with fail
      refine HKy.out.mono ?_
      rintro e W3 ⟨vK, K, rfl, hK, hrow, hb3⟩
      replace HbS := hid (HbS.out.below hb3)
      replace HbD := hid (HbD.out.below hb3)
      replace HbR := hid (HbR.out.below hb3)
      replace HaI := hid (HaI.out.below hb3)
      replace HbI := hid (HbI.out.below hb3)
      replace HbO := hid (HbO.out.below hb3)
      have HB3 : Hid (Below w.heap.size w W3) := HBV.out.trans (hb3.mono HBV.out.size)
      have HJK : Hid (DfK W3 S a b K) := ⟨SOk.of HOkS.out HaI.out, SOk.of HOkD.out HbI.out, hK.rise, fun k => by rw [hK.mem, allK_mem]; simp [LT.toL]⟩
      have hKl : K.length ≤ 400 := by
        have h1 := nodup_len hK.rise.nodup (fun x hx => (hK.mem x).1 hx)
        have h2 : (allK a b ⟨none, 0, 0, fun _ => ⟨#[]⟩⟩ ⟨none, 0, 0, fun _ => ⟨#[]⟩⟩).length ≤ 400 := by simp [allK, LT.toL_len]; omega
        omega
      obtain ⟨pk, ck, hvk⟩ := ownsRow_slice hrow
      obtain ⟨LK, hLK⟩ : ∃ n, n = K.length := ⟨_, rfl⟩
      rw [← hLK] at hvk hKl
      subst hvk
      have HLK := hid hLK
      have HRow := hid hrow
      have HZ3 : Hid (V2.heap.size ≤ W3.heap.size) := hb3.size
      obtain ⟨O, hO⟩ : ∃ O, O = W2.heap.size := ⟨_, rfl⟩
      have HO : Hid (w.heap.size + 3 ≤ O ∧ O < W3.heap.size ∧ V2.heap.size = O + 1) := by have := HVs.out; have := HZ3.out; have := HZ2.out; show _ ∧ _; omega
      rw [← hO] at HbO
      rw [← hO]
      obtain ⟨R, hR⟩ : ∃ R, R = (dSet (dEv a b)).map VT.norm := ⟨_, rfl⟩
      have HRR := hid hR
      obtain ⟨G, hG⟩ : ∃ G, G = dGone (dEv a b) := ⟨_, rfl⟩
      have HGG := hid hG
      clear hK hrow hb3 hLK hO hR hG HKy HVs HZ3 HZ2 HV2 HW0 a0 a1 al b0 b1 bl
      go_wp2_with fail
      go_loopw [9] (fun x wr => ∃ (k : Nat) (vO vP : Value) (xs : List VT) (ps : List ByteArray), k ≤ LK ∧ x = .int .i64 (k : Int) ∧ JoI W3 wr O bn vO vP xs ps ∧ xs.length ≤ k ∧ ps.length ≤ k ∧ Gth VT.text K k R (xs.map VT.norm) ∧ Gth id K k G ps) (fun x _ => LK - (intOf x).toNat)
      case atStart => exact ⟨0, _, _, [], [], Nat.zero_le _, rfl, ⟨HbO.out, CRow.nil _ _, StRow.nil _ _, fun g h => (by cases h), fun j hj => absurd hj (by show ¬ j < 0; omega), But.refl _ _, HO.out.2.1⟩, Nat.le_refl _, Nat.le_refl _, Gth.start _ _ _, Gth.start _ _ _⟩
      case round =>
        obtain ⟨k, vO, vP, xs, ps, hk, rfl, hA, hxl, hpl, hG, hH⟩ := hrel
        obtain ⟨po, co, hvo⟩ := ownsRow_slice hA.own.own
        subst hvo
        obtain ⟨pp, cp, hvp⟩ := ownsRow_slice hA.row
        obtain ⟨LP, hLP⟩ : ∃ n, n = ps.length := ⟨_, rfl⟩
        rw [← hLP] at hvp hpl
        have HLP := hid hLP
        subst hvp
        have hO := HO.out
        have bSr := HbS.out.but hA.but (by omega)
        have bDr := HbD.out.but hA.but (by omega)
        have bRr := HbR.out.but hA.but (by omega)
        have HaR := hid (HaI.out.but hA.but (fun q hq _ e => by have := HS.out q hq; omega))
        have HbR2 := hid (HbI.out.but hA.but (fun q hq _ e => by have := HS.out q hq; omega))
        have HRowR : Hid (StRow V2.heap.size wr (.slice pk LK ck) K) := ownsRow_keep HRow.out fun q hq hl => hA.but.block q hl (by have := (HRow.out.lt q hq).1; omega)
        have HBr : Hid (Below w.heap.size w wr) := HB3.out.trans (hA.but.below HB3.out.size (fun q hq => by omega))
        have a0 := bSr.cell 0
        have a1 := bSr.cell 1
        have al := bSr.lt
        simp at a0 a1
        have b0 := bDr.cell 0
        have b1 := bDr.cell 1
        have bl := bDr.lt
        simp at b0 b1
        have HSr := hid bSr
        have HDr := hid bDr
        have HRr := hid bRr
        have HA := hid hA
        have HG := hid hG
        have HH := hid hH
        have HA0 : Hid (W3.heap.size ≤ wr.heap.size) := hA.but.size
        have HA00 : Hid (∀ b, (Value.slice po xs.length co).ownBlock = some b → b < wr.heap.size) := fun b hb => (hA.own.own.lt b hb).2
        have HA01 : Hid (∀ b, (Value.slice pp LP cp).ownBlock = some b → b < wr.heap.size) := fun b hb => (hA.row.lt b hb).2
        clear hA hG hH bSr bDr bRr hO hLP
        by_cases hlt : k < LK
        · have hlt' : (k : Int) < (LK : Int) := by omega
          obtain ⟨key, hkey⟩ : ∃ key, K[k]? = some key := ⟨_, List.getElem?_eq_getElem (by have := HLK.out; omega)⟩
          obtain ⟨gk, hpk, hgk, hck⟩ := HRowR.out.at_ (by have := HLK.out; omega)
          have k0 := hck k key hkey
          have HKey := hid hkey
          rw [hpk]
          clear hck hkey hpk
          have HAt : Hid (∀ X, Below wr.heap.size wr X → Calls Try.prog 22 #[.slice a.p a.n a.c, .string key] X fun e w' => ∃ (u : VT) (had : Bool), e = .returned (.tuple #[.agg #[.string u.text, .slice u.p u.n u.c], .bool had]) ∧ AtR a key had u w' (fun b => X.heap.size ≤ b) ∧ Below X.heap.size X w') := fun X hX => rat_one a key X S ((HaR.out).below hX) HZa.out
          go_upto_region 12 with fail
          go_cut [10, 11] (fun s10 s11 wx => ∃ (bz : Nat) (u : VT) (had : Bool), s10 = .pointer (some ⟨bz, 0, none⟩) ∧ s11 = .bool had ∧ wr.heap.size ≤ bz ∧ Box wx bz #[.string u.text, .slice u.p u.n u.c] 45 ∧ AtR a key had u wx (fun b => wr.heap.size ≤ b ∧ b ≠ bz) ∧ Below wr.heap.size wr wx)
          case first =>
            refine wp_region_calmE 30 (fun wx => Below wr.heap.size wr wx) [(0, true), (1, false), (2, true), (3, true), (4, true), (5, false)] (.two 6 true [(7, true), (8, true), (9, true)] (.one 10 true [] (.one 11 false [(12, true)] .done)) 10 true [] (.one 6 true [(7, true), (8, true), (9, true)] (.one 11 false [(12, true)] .done))) (by kernel_rfl) (by kernel_rfl) (Below.refl _ _).drew ?_
            refine wpPre_e rfl rfl (fun K1 hK1 => ?_)
            apply Exists.intro
            refine And.intro (fun wx hx => ?_) ?_
            · go_simp
              try rfl
            go_simp
            refine hK1 _ ?_
            clear hK1 K1
            refine wpPre_e rfl rfl (fun K1 hK1 => ?_)
            apply Exists.intro
            refine And.intro (fun wx hx => ?_) ?_
            · have e0 := below_fact hx rfl a0
              have e1 := below_fact hx rfl a1
              have e2 := below_fact hx rfl k0
              go_simp
              try rfl
            go_simp
            refine hK1 _ ?_
            clear hK1 K1
            refine wpPre_e rfl rfl (fun K1 hK1 => ?_)
            apply Exists.intro
            refine And.intro (fun wx hx => ?_) ?_
            · go_simp
              try rfl
            go_simp
            refine hK1 _ ?_
            clear hK1 K1
            refine wpPre_e rfl rfl (fun K1 hK1 => ?_)
            apply Exists.intro
            refine And.intro (fun wx hx => ?_) ?_
            · go_simp
              try rfl
            go_simp
            refine hK1 _ ?_
            clear hK1 K1
            refine wpPre_e rfl rfl (fun K1 hK1 => ?_)
            apply Exists.intro
            refine And.intro (fun wx hx => ?_) ?_
            · go_simp
              try rfl
            go_simp
            refine hK1 _ ?_
            clear hK1 K1
            refine wpPre_e rfl rfl (fun K1 hK1 => ?_)
            apply Exists.intro
            refine And.intro (fun wx hx => ?_) ?_
            · have e0 := below_fact hx rfl a0
              have e1 := below_fact hx rfl a1
              have e2 := below_fact hx rfl k0
              go_simp
              try rfl
            go_simp
            refine hK1 _ ?_
            clear hK1 K1
            refine wpPre_nil ?_
            refine wpTr_two rfl rfl (fun K1 hK1 => ?_) (fun K1 hK1 => ?_)
            · refine step_call rfl 22 #[.tmp 42, .tmp 46] _ rfl Try.f22 Try.func22 (by kernel_rfl) rfl #[.slice a.p a.n a.c, .string key] rfl _ (HAt.out _ (Below.refl wr.heap.size wr).drew) (fun e w1 h1 => ?_)
              obtain ⟨u, had, rfl, hat, hb1⟩ := h1
              have HB1 : Hid (Below wr.heap.size wr w1) := (Below.refl wr.heap.size wr).drew.trans hb1
              have HA1 := hid hat
              clear hb1 hat
              refine ⟨_, rfl, ?_⟩
              go_simp
              refine hK1 _ _ (fun _ => HB1.out) ?_
              clear hK1 K1
              refine wpPre_e rfl rfl (fun K1 hK1 => ?_)
              apply Exists.intro
              refine And.intro (fun wx hx => ?_) ?_
              · go_simp
                try rfl
              go_simp
              refine hK1 _ ?_
              clear hK1 K1
              refine wpPre_e rfl rfl (fun K1 hK1 => ?_)
              apply Exists.intro
              refine And.intro (fun wx hx => ?_) ?_
              · go_simp
                try rfl
              go_simp
              refine hK1 _ ?_
              clear hK1 K1
              refine wpPre_e rfl rfl (fun K1 hK1 => ?_)
              apply Exists.intro
              refine And.intro (fun wx hx => ?_) ?_
              · go_simp
                try rfl
              go_simp
              refine hK1 _ ?_
              clear hK1 K1
              refine wpPre_nil ?_
              refine wpTr_e rfl (fun K1 hK1 => ?_)
              go_simp
              refine hK1 _ _ (fun _ => HB1.out.trans ((below1 w1 _).mono HB1.out.size)) ?_
              clear hK1 K1
              refine wpPre_nil ?_
              refine wpTr_e rfl (fun K1 hK1 => ?_)
              go_simp
              refine hK1 _ _ (fun h => by cases h) ?_
              clear hK1 K1
              refine wpPre_e rfl rfl (fun K1 hK1 => ?_)
              apply Exists.intro
              refine And.intro (fun wx hx => ?_) ?_
              · go_simp
                try rfl
              go_simp
              refine hK1 _ ?_
              clear hK1 K1
              refine wpPre_nil ?_
              refine wpTr_done ?_
              go_wp2_with fail
              go_meet
              exact ⟨w1.heap.size, u, had, rfl, rfl, HB1.out.size, Box.new _ _ _, HA1.out.keep (by simp) (fun b _ hl => Below.heap_alloc _ _ _ hl) (fun b hb hl => ⟨hb, by omega⟩), HB1.out.trans ((below1 w1 _).mono HB1.out.size)⟩
            · go_simp
              obtain ⟨V, hV⟩ : ∃ V, V = (wr.alloc (.cells #[.string ⟨#[]⟩, .slice none 0 0] 45)).drew := ⟨_, rfl⟩
              have HBV : Hid (Below wr.heap.size wr V) := by show Below _ _ _; rw [hV]; exact (below1 wr _).drew
              have HBx : Hid (Box V wr.heap.size #[.string ⟨#[]⟩, .slice none 0 0] 45) := by show Box _ _ _ _; rw [hV]; exact Box.new wr _ _
              have HVs : Hid (V.heap.size = wr.heap.size + 1) := by show _ = _; rw [hV]; simp
              rw [← hV]
              clear hV
              refine hK1 _ _ (fun _ => HBV.out) ?_
              clear hK1 K1
              refine wpPre_nil ?_
              refine wpTr_e rfl (fun K1 hK1 => ?_)
              refine step_call rfl 22 #[.tmp 42, .tmp 46] _ rfl Try.f22 Try.func22 (by kernel_rfl) rfl #[.slice a.p a.n a.c, .string key] rfl _ (HAt.out _ HBV.out) (fun e w1 h1 => ?_)
              obtain ⟨u, had, rfl, hat, hb1⟩ := h1
              have HB1 : Hid (Below wr.heap.size wr w1) := HBV.out.trans (hb1.mono HBV.out.size)
              have HA1 := hid hat
              have bx := HBx.out.below hb1
              have q0 := bx.cell 0
              have q1 := bx.cell 1
              have g0 := bx.frozen 0
              have g1 := bx.frozen 1
              have ql := bx.lt
              simp at q0 q1
              have HX1 := hid bx
              clear hb1 hat bx
              refine ⟨_, rfl, ?_⟩
              go_simp
              refine hK1 _ _ (fun _ => HB1.out) ?_
              clear hK1 K1
              refine wpPre_e rfl rfl (fun K1 hK1 => ?_)
              apply Exists.intro
              refine And.intro (fun wx hx => ?_) ?_
              · go_simp
                try rfl
              go_simp
              refine hK1 _ ?_
              clear hK1 K1
              refine wpPre_e rfl rfl (fun K1 hK1 => ?_)
              apply Exists.intro
              refine And.intro (fun wx hx => ?_) ?_
              · go_simp
                try rfl
              go_simp
              refine hK1 _ ?_
              clear hK1 K1
              refine wpPre_e rfl rfl (fun K1 hK1 => ?_)
              apply Exists.intro
              refine And.intro (fun wx hx => ?_) ?_
              · go_simp
                try rfl
              go_simp
              refine hK1 _ ?_
              clear hK1 K1
              refine wpPre_nil ?_
              refine wpTr_e rfl (fun K1 hK1 => ?_)
              go_simp
              refine hK1 _ _ (fun h => by cases h) ?_
              clear hK1 K1
              refine wpPre_e rfl rfl (fun K1 hK1 => ?_)
              apply Exists.intro
              refine And.intro (fun wx hx => ?_) ?_
              · go_simp
                try rfl
              go_simp
              refine hK1 _ ?_
              clear hK1 K1
              refine wpPre_nil ?_
              refine wpTr_done ?_
              go_wp2_with fail
              go_meet
              have hvs := HVs.out
              have hbt : But (fun x => x = wr.heap.size) w1 ((w1.setCell ⟨wr.heap.size, 0, none⟩ (.string u.text)).setCell ⟨wr.heap.size, 1, none⟩ (.slice u.p u.n u.c)) := ((But.one _ _).setAt 0 _).setAt 1 _
              exact ⟨wr.heap.size, u, had, rfl, rfl, Nat.le_refl _, by simpa using (HX1.out.set 0 (.string u.text)).set 1 (.slice u.p u.n u.c), HA1.out.keep hbt.size (fun b hb hl => hbt.block b hl (by omega)) (fun b hb hl => ⟨by omega, by omega⟩), HB1.out.trans (hbt.below HB1.out.size (fun q hq => by omega))⟩
          case rest =>
            obtain ⟨bx, x, had, rfl, rfl, hbx0, hbxB, hatx, hbel⟩ := hcut
            obtain ⟨X1, hX1⟩ : ∃ X, X = wc := ⟨_, rfl⟩
            subst hX1
            have HAx := hid hatx
            have HBx := hid hbxB
            have k1 : X1.cell? ⟨gk, k, none⟩ = some (.string key) := (World.cell?_of_block (a := ⟨gk, k, none⟩) (hbel.block gk hgk)).trans k0
            have hgk1 : gk < X1.heap.size := Nat.lt_of_lt_of_le hgk hbel.size
            replace HSr := hid (HSr.out.below hbel)
            replace HDr := hid (HDr.out.below hbel)
            replace HRr := hid (HRr.out.below hbel)
            replace HaR := hid (HaR.out.below hbel)
            replace HbR2 := hid (HbR2.out.below hbel)
            replace HA := hid (HA.out.below hbel)
            replace HBr := hid (HBr.out.trans (hbel.mono HBr.out.size))
            have HW1 := hid hbel
            clear hbx0 hbxB hatx hbel HAt k0 hgk a0 a1 al b0 b1 bl
            have b0 := HDr.out.cell 0
            have b1 := HDr.out.cell 1
            have bl := HDr.out.lt
            simp at b0 b1
            have HAt : Hid (∀ X, Below X1.heap.size X1 X → Calls Try.prog 22 #[.slice b.p b.n b.c, .string key] X fun e w' => ∃ (u : VT) (had : Bool), e = .returned (.tuple #[.agg #[.string u.text, .slice u.p u.n u.c], .bool had]) ∧ AtR b key had u w' (fun b => X.heap.size ≤ b) ∧ Below X.heap.size X w') := fun X hX => rat_one b key X S ((HbR2.out).below hX) HZb.out
            go_upto_region 13 with fail
            go_cut [12, 13] (fun s12 s13 wx => ∃ (bz : Nat) (u : VT) (had : Bool), s12 = .pointer (some ⟨bz, 0, none⟩) ∧ s13 = .bool had ∧ X1.heap.size ≤ bz ∧ Box wx bz #[.string u.text, .slice u.p u.n u.c] 45 ∧ AtR b key had u wx (fun b => X1.heap.size ≤ b ∧ b ≠ bz) ∧ Below X1.heap.size X1 wx)
            case first =>
              refine wp_region_calmE 30 (fun wx => Below X1.heap.size X1 wx) [(0, true), (1, false), (2, true), (3, true), (4, true), (5, false)] (.two 6 true [(7, true), (8, true), (9, true)] (.one 10 true [] (.one 11 false [(12, true)] .done)) 10 true [] (.one 6 true [(7, true), (8, true), (9, true)] (.one 11 false [(12, true)] .done))) (by kernel_rfl) (by kernel_rfl) (Below.refl _ _).drew ?_
              refine wpPre_e rfl rfl (fun K1 hK1 => ?_)
              apply Exists.intro
              refine And.intro (fun wx hx => ?_) ?_
              · go_simp
                try rfl
              go_simp
              refine hK1 _ ?_
              clear hK1 K1
              refine wpPre_e rfl rfl (fun K1 hK1 => ?_)
              apply Exists.intro
              refine And.intro (fun wx hx => ?_) ?_
              · have e0 := below_fact hx rfl b0
                have e1 := below_fact hx rfl b1
                have e2 := below_fact hx rfl k1
                go_simp
                try rfl
              go_simp
              refine hK1 _ ?_
              clear hK1 K1
              refine wpPre_e rfl rfl (fun K1 hK1 => ?_)
              apply Exists.intro
              refine And.intro (fun wx hx => ?_) ?_
              · go_simp
                try rfl
              go_simp
              refine hK1 _ ?_
              clear hK1 K1
              refine wpPre_e rfl rfl (fun K1 hK1 => ?_)
              apply Exists.intro
              refine And.intro (fun wx hx => ?_) ?_
              · go_simp
                try rfl
              go_simp
              refine hK1 _ ?_
              clear hK1 K1
              refine wpPre_e rfl rfl (fun K1 hK1 => ?_)
              apply Exists.intro
              refine And.intro (fun wx hx => ?_) ?_
              · go_simp
                try rfl
              go_simp
              refine hK1 _ ?_
              clear hK1 K1
              refine wpPre_e rfl rfl (fun K1 hK1 => ?_)
              apply Exists.intro
              refine And.intro (fun wx hx => ?_) ?_
              · have e0 := below_fact hx rfl b0
                have e1 := below_fact hx rfl b1
                have e2 := below_fact hx rfl k1
                go_simp
                try rfl
              go_simp
              refine hK1 _ ?_
              clear hK1 K1
              refine wpPre_nil ?_
              refine wpTr_two rfl rfl (fun K1 hK1 => ?_) (fun K1 hK1 => ?_)
              · refine step_call rfl 22 #[.tmp 52, .tmp 56] _ rfl Try.f22 Try.func22 (by kernel_rfl) rfl #[.slice b.p b.n b.c, .string key] rfl _ (HAt.out _ (Below.refl X1.heap.size X1).drew) (fun e w1 h1 => ?_)
                obtain ⟨u, had, rfl, hat, hb1⟩ := h1
                have HB1 : Hid (Below X1.heap.size X1 w1) := (Below.refl X1.heap.size X1).drew.trans hb1
                have HA1 := hid hat
                clear hb1 hat
                refine ⟨_, rfl, ?_⟩
                go_simp
                refine hK1 _ _ (fun _ => HB1.out) ?_
                clear hK1 K1
                refine wpPre_e rfl rfl (fun K1 hK1 => ?_)
                apply Exists.intro
                refine And.intro (fun wx hx => ?_) ?_
                · go_simp
                  try rfl
                go_simp
                refine hK1 _ ?_
                clear hK1 K1
                refine wpPre_e rfl rfl (fun K1 hK1 => ?_)
                apply Exists.intro
                refine And.intro (fun wx hx => ?_) ?_
                · go_simp
                  try rfl
                go_simp
                refine hK1 _ ?_
                clear hK1 K1
                refine wpPre_e rfl rfl (fun K1 hK1 => ?_)
                apply Exists.intro
                refine And.intro (fun wx hx => ?_) ?_
                · go_simp
                  try rfl
                go_simp
                refine hK1 _ ?_
                clear hK1 K1
                refine wpPre_nil ?_
                refine wpTr_e rfl (fun K1 hK1 => ?_)
                go_simp
                refine hK1 _ _ (fun _ => HB1.out.trans ((below1 w1 _).mono HB1.out.size)) ?_
                clear hK1 K1
                refine wpPre_nil ?_
                refine wpTr_e rfl (fun K1 hK1 => ?_)
                go_simp
                refine hK1 _ _ (fun h => by cases h) ?_
                clear hK1 K1
                refine wpPre_e rfl rfl (fun K1 hK1 => ?_)
                apply Exists.intro
                refine And.intro (fun wx hx => ?_) ?_
                · go_simp
                  try rfl
                go_simp
                refine hK1 _ ?_
                clear hK1 K1
                refine wpPre_nil ?_
                refine wpTr_done ?_
                go_wp2_with fail
                go_meet
                exact ⟨w1.heap.size, u, had, rfl, rfl, HB1.out.size, Box.new _ _ _, HA1.out.keep (by simp) (fun b _ hl => Below.heap_alloc _ _ _ hl) (fun b hb hl => ⟨hb, by omega⟩), HB1.out.trans ((below1 w1 _).mono HB1.out.size)⟩
              · go_simp
                obtain ⟨V, hV⟩ : ∃ V, V = (X1.alloc (.cells #[.string ⟨#[]⟩, .slice none 0 0] 45)).drew := ⟨_, rfl⟩
                have HBV : Hid (Below X1.heap.size X1 V) := by show Below _ _ _; rw [hV]; exact (below1 X1 _).drew
                have HBx : Hid (Box V X1.heap.size #[.string ⟨#[]⟩, .slice none 0 0] 45) := by show Box _ _ _ _; rw [hV]; exact Box.new X1 _ _
                have HVs : Hid (V.heap.size = X1.heap.size + 1) := by show _ = _; rw [hV]; simp
                rw [← hV]
                clear hV
                refine hK1 _ _ (fun _ => HBV.out) ?_
                clear hK1 K1
                refine wpPre_nil ?_
                refine wpTr_e rfl (fun K1 hK1 => ?_)
                refine step_call rfl 22 #[.tmp 52, .tmp 56] _ rfl Try.f22 Try.func22 (by kernel_rfl) rfl #[.slice b.p b.n b.c, .string key] rfl _ (HAt.out _ HBV.out) (fun e w1 h1 => ?_)
                obtain ⟨u, had, rfl, hat, hb1⟩ := h1
                have HB1 : Hid (Below X1.heap.size X1 w1) := HBV.out.trans (hb1.mono HBV.out.size)
                have HA1 := hid hat
                have bx := HBx.out.below hb1
                have q0 := bx.cell 0
                have q1 := bx.cell 1
                have g0 := bx.frozen 0
                have g1 := bx.frozen 1
                have ql := bx.lt
                simp at q0 q1
                have HX1 := hid bx
                clear hb1 hat bx
                refine ⟨_, rfl, ?_⟩
                go_simp
                refine hK1 _ _ (fun _ => HB1.out) ?_
                clear hK1 K1
                refine wpPre_e rfl rfl (fun K1 hK1 => ?_)
                apply Exists.intro
                refine And.intro (fun wx hx => ?_) ?_
                · go_simp
                  try rfl
                go_simp
                refine hK1 _ ?_
                clear hK1 K1
                refine wpPre_e rfl rfl (fun K1 hK1 => ?_)
                apply Exists.intro
                refine And.intro (fun wx hx => ?_) ?_
                · go_simp
                  try rfl
                go_simp
                refine hK1 _ ?_
                clear hK1 K1
                refine wpPre_e rfl rfl (fun K1 hK1 => ?_)
                apply Exists.intro
                refine And.intro (fun wx hx => ?_) ?_
                · go_simp
                  try rfl
                go_simp
                refine hK1 _ ?_
                clear hK1 K1
                refine wpPre_nil ?_
                refine wpTr_e rfl (fun K1 hK1 => ?_)
                go_simp
                refine hK1 _ _ (fun h => by cases h) ?_
                clear hK1 K1
                refine wpPre_e rfl rfl (fun K1 hK1 => ?_)
                apply Exists.intro
                refine And.intro (fun wx hx => ?_) ?_
                · go_simp
                  try rfl
                go_simp
                refine hK1 _ ?_
                clear hK1 K1
                refine wpPre_nil ?_
                refine wpTr_done ?_
                go_wp2_with fail
                go_meet
                have hvs := HVs.out
                have hbt : But (fun x => x = X1.heap.size) w1 ((w1.setCell ⟨X1.heap.size, 0, none⟩ (.string u.text)).setCell ⟨X1.heap.size, 1, none⟩ (.slice u.p u.n u.c)) := ((But.one _ _).setAt 0 _).setAt 1 _
                exact ⟨X1.heap.size, u, had, rfl, rfl, Nat.le_refl _, by simpa using (HX1.out.set 0 (.string u.text)).set 1 (.slice u.p u.n u.c), HA1.out.keep hbt.size (fun b hb hl => hbt.block b hl (by omega)) (fun b hb hl => ⟨by omega, by omega⟩), HB1.out.trans (hbt.below HB1.out.size (fun q hq => by omega))⟩
            case rest =>
              obtain ⟨bY, y, set_, rfl, rfl, hbx0, hbxB, hatx, hbel⟩ := hcut
              obtain ⟨X2, hX2⟩ : ∃ X, X = wc := ⟨_, rfl⟩
              subst hX2
              have HAy := hid hatx
              have HBy := hid hbxB
              have k2 : X2.cell? ⟨gk, k, none⟩ = some (.string key) := (World.cell?_of_block (a := ⟨gk, k, none⟩) (hbel.block gk hgk1)).trans k1
              have hgk2 : gk < X2.heap.size := Nat.lt_of_lt_of_le hgk1 hbel.size
              replace HSr := hid (HSr.out.below hbel)
              replace HDr := hid (HDr.out.below hbel)
              replace HRr := hid (HRr.out.below hbel)
              replace HaR := hid (HaR.out.below hbel)
              replace HbR2 := hid (HbR2.out.below hbel)
              replace HA := hid (HA.out.below hbel)
              replace HBx := hid (HBx.out.below hbel)
              replace HAx := hid (HAx.out.keep hbel.size (fun b _ hl => hbel.block b hl) (fun b hb _ => hb))
              replace HBr := hid (HBr.out.trans (hbel.mono HBr.out.size))
              have HW2 := hid hbel
              clear hbx0 hbxB hatx hbel HAt k1 hgk1 b0 b1 bl
              have HKx := hid HAx.out.key
              have HKyy := hid HAy.out.key
              cases set_ with
              | false =>
                have bo := HA.out.box
                have o0 := bo.cell 0
                have o1 := bo.cell 1
                have o2 := bo.cell 2
                have ol := bo.lt
                simp at o0 o1 o2
                clear bo
                have HG5 : Hid (Gth VT.text K (k + 1) R (xs.map VT.norm)) := HG.out.skip HKey.out (fun c hc e => by
                  rw [HRR.out] at hc
                  obtain ⟨c0, hc0, rfl⟩ := List.mem_map.1 hc
                  rw [norm_text] at e
                  exact HAy.out.no rfl ⟨c0, ((dSet_mem HJK.out.ha HJK.out.hb c0).1 hc0).1, e⟩)
                have HH5 : Hid (Gth id K (k + 1) G (ps ++ [key])) := HH.out.add HJK.out.rK (by rw [HGG.out]; exact HJK.out.rG) HKey.out (by rw [HGG.out]; exact (dGone_mem HJK.out.ha HJK.out.hb _).2 (⟨((HJK.out.mK key).1 (List.mem_of_getElem? HKey.out)).resolve_right (HAy.out.no rfl), HAy.out.no rfl⟩)) rfl
                have HOl : Hid (World.ownsRow X2 W3.heap.size 9 1 (.slice pp LP cp) LP (ps.map Value.string)) := by have h := HA.out.row; unfold StRow at h; rw [← HLP.out] at h; exact h
                have hs4 : W3.heap.size ≤ X2.heap.size := HA.out.but.size
                go_upto_region 15 with fail
                refine wp_region_calmE 30 (fun wx => Below X2.heap.size X2 wx) [(0, true), (1, false), (2, true), (3, true), (4, true), (5, false)] (.one 6 true [] (.one 7 false [(8, true)] (.one 9 false [] .done))) (by kernel_rfl) (by kernel_rfl) (Below.refl _ _).drew ?_
                refine wpPre_e rfl rfl (fun K1 hK1 => ?_)
                apply Exists.intro
                refine And.intro (fun wx hx => ?_) ?_
                · go_simp
                  try rfl
                go_simp
                refine hK1 _ ?_
                clear hK1 K1
                refine wpPre_e rfl rfl (fun K1 hK1 => ?_)
                apply Exists.intro
                refine And.intro (fun wx hx => ?_) ?_
                · have e0 := below_fact hx rfl o0
                  have e1 := below_fact hx rfl o1
                  have e2 := below_fact hx rfl o2
                  have e3 := below_fact hx rfl k2
                  go_simp
                  try rfl
                go_simp
                refine hK1 _ ?_
                clear hK1 K1
                refine wpPre_e rfl rfl (fun K1 hK1 => ?_)
                apply Exists.intro
                refine And.intro (fun wx hx => ?_) ?_
                · go_simp
                  try rfl
                go_simp
                refine hK1 _ ?_
                clear hK1 K1
                refine wpPre_e rfl rfl (fun K1 hK1 => ?_)
                apply Exists.intro
                refine And.intro (fun wx hx => ?_) ?_
                · go_simp
                  try rfl
                go_simp
                refine hK1 _ ?_
                clear hK1 K1
                refine wpPre_e rfl rfl (fun K1 hK1 => ?_)
                apply Exists.intro
                refine And.intro (fun wx hx => ?_) ?_
                · go_simp
                  try rfl
                go_simp
                refine hK1 _ ?_
                clear hK1 K1
                refine wpPre_e rfl rfl (fun K1 hK1 => ?_)
                apply Exists.intro
                refine And.intro (fun wx hx => ?_) ?_
                · have e0 := below_fact hx rfl o0
                  have e1 := below_fact hx rfl o1
                  have e2 := below_fact hx rfl o2
                  have e3 := below_fact hx rfl k2
                  go_simp
                  try rfl
                go_simp
                refine hK1 _ ?_
                clear hK1 K1
                refine wpPre_nil ?_
                refine wpTr_e rfl (fun K1 hK1 => ?_)
                go_simp
                refine hK1 _ _ (fun _ => ((below1 X2 _).drew)) ?_
                clear hK1 K1
                refine wpPre_nil ?_
                refine wpTr_e rfl (fun K1 hK1 => ?_)
                refine step_app rfl (.tmp 64) (.tmp 69) 27 9 i1 _ 1 16 HKs.out rfl W3.heap.size (.slice pp LP cp) LP _ rfl (World.ownsRow.alloc HOl.out _) ⟨X2.heap.size, 0, none⟩ 1 1 [.string key] rfl rfl (newsS1 X2 _) (by simp [Value.oneCell']) (by omega) (by omega) (by simp; omega) ?_
                intro v5 w5 ho5 hg5 hn5
                obtain ⟨p5, c5, rfl⟩ := ownsRow_slice ho5
                have hg6 : (X2.alloc (.cells #[.string key] 9)).grownBy w5 (Value.slice pp LP cp).ownBlock := ⟨hg5.os, hg5.tape, hg5.output, hg5.size, hg5.block⟩
                have hn6 : Near (X2.alloc (.cells #[.string key] 9)) (.slice pp LP cp) (.slice p5 (LP + 1) c5) := hn5.imp id (fun h g hg => h g hg)
                have HA5 : Hid (JoI W3 (w5.setCell ⟨O, 2, none⟩ (.slice p5 (LP + 1) c5)) O bn (.slice po xs.length co) (.slice p5 (LP + 1) c5) xs (ps ++ [key])) := HA.out.stepP (StRow.push (by rw [← HLP.out]; exact ho5)) hg6 hn6
                have bm := HA.out.midP hg6
                have m0 := bm.cell 0
                have m1 := bm.cell 1
                have m2 := bm.cell 2
                have mf2 := bm.frozen 2
                have ml := bm.lt
                simp at m0 m1 m2
                clear ho5 hg5 hn5 hg6 hn6 bm
                go_simp
                refine hK1 _ _ (fun h => by cases h) ?_
                clear hK1 K1
                refine wpPre_e rfl rfl (fun K1 hK1 => ?_)
                apply Exists.intro
                refine And.intro (fun wx hx => ?_) ?_
                · go_simp
                  try rfl
                go_simp
                refine hK1 _ ?_
                clear hK1 K1
                refine wpPre_nil ?_
                refine wpTr_e rfl (fun K1 hK1 => ?_)
                go_simp
                refine hK1 _ _ (fun h => by cases h) ?_
                clear hK1 K1
                refine wpPre_nil ?_
                refine wpTr_done ?_
                go_wp2
                go_roundw
                case rel => exact ⟨k + 1, _, _, _, _, by omega, by go_num, HA5.out, by omega, by rw [List.length_append, List.length_singleton, ← HLP.out]; omega, HG5.out, HH5.out⟩
                case measure => simp [intOf]; omega
              | true =>
                cases had with
                | false =>
                  have bo := HA.out.box
                  have o0 := bo.cell 0
                  have o1 := bo.cell 1
                  have o2 := bo.cell 2
                  have ol := bo.lt
                  simp at o0 o1 o2
                  clear bo
                  have bu := HBy.out
                  have u0 := bu.cell 0
                  have u1 := bu.cell 1
                  have ul := bu.lt
                  simp at u0 u1
                  clear bu
                  have HUi := hid (HAy.out.yes rfl)
                  have HH5 : Hid (Gth id K (k + 1) G ps) := HH.out.skip HKey.out (fun c hc e => by
                    rw [HGG.out] at hc
                    have e2 : c = key := e
                    subst e2
                    exact ((dGone_mem HJK.out.ha HJK.out.hb _).1 hc).2 (HKyy.out.1 (by first | rfl | trivial)))
                  go_wp2_with (at_builtin; refine wpList_app rfl (.tmp 82) (.tmp 84) 22 45 i0 _ 2 40 HKd.out rfl W3.heap.size (.slice po xs.length co) xs.length _ rfl (World.ownsRow.alloc HA.out.own.own _) ⟨X2.heap.size, 0, none⟩ 1 1 [.string y.text, .slice y.p y.n y.c] rfl rfl (newsC X2 _ _) (oneC _ _ _ _) (by omega) (by omega) (by have := HA.out.but.size; simp; omega) ?_)
                  intro v5 w5 ho5 hg5 hn5
                  obtain ⟨p5, c5, rfl⟩ := ownsRow_slice ho5
                  have HA5 : Hid (JoI W3 (w5.setCell ⟨O, 1, none⟩ (.slice p5 (xs.length + 1) c5)) O bn (.slice p5 (xs.length + 1) c5) (.slice pp LP cp) (xs ++ [y]) ps) := HA.out.stepO (HUi.out.2.2.mono fun b hb hl => ⟨by have := HA0.out; have := hb.1; have := HW1.out.size; omega, fun e => by have := HA00.out b e; have := hb.1; have := HW1.out.size; omega, fun e => by have := HA01.out b e; have := hb.1; have := HW1.out.size; omega⟩) ho5 hg5 hn5
                  have bm := HA.out.midO hg5
                  have m0 := bm.cell 0
                  have m1 := bm.cell 1
                  have m2 := bm.cell 2
                  have mf1 := bm.frozen 1
                  have ml := bm.lt
                  simp at m0 m1 m2
                  have HG5 : Hid (Gth VT.text K (k + 1) R ((xs ++ [y]).map VT.norm)) := by
                    show Gth _ _ _ _ _
                    rw [List.map_append, List.map_singleton]
                    exact HG.out.add HJK.out.rK (by rw [HRR.out]; exact HJK.out.rR) HKey.out (mem_no HJK.out HRR.out HUi.out (HAx.out.no rfl)) (by rw [norm_text]; exact HUi.out.1)
                  clear ho5 hg5 hn5 bm
                  go_wp2
                  go_roundw
                  case rel => exact ⟨k + 1, _, _, _, _, by omega, by go_num, HA5.out, by rw [List.length_append, List.length_singleton]; omega, by rw [← HLP.out]; omega, HG5.out, HH5.out⟩
                  case measure => simp [intOf]; omega
                | true =>
                  have HXi := hid (HAx.out.yes rfl)
                  have HYi := hid (HAy.out.yes rfl)
                  have bu := HBx.out
                  have s0 := bu.cell 0
                  have s1 := bu.cell 1
                  have sl := bu.lt
                  simp at s0 s1
                  clear bu
                  have bu := HBy.out
                  have t0 := bu.cell 0
                  have t1 := bu.cell 1
                  have tl := bu.lt
                  simp at t0 t1
                  clear bu
                  have HSm := hid (rsame_any x y X2 (fun _ => True) (fun _ => True) (HXi.out.2.2.mono fun _ _ _ => trivial) (HYi.out.2.2.mono fun _ _ _ => trivial))
                  go_wp2_with fail
                  refine HSm.out.mono ?_
                  rintro e X3 ⟨r, rfl, hr, hb3⟩
                  replace HRr := hid (HRr.out.below hb3)
                  replace HA := hid (HA.out.below hb3)
                  replace HBx := hid (HBx.out.below hb3)
                  replace HBy := hid (HBy.out.below hb3)
                  replace HAx := hid (HAx.out.keep hb3.size (fun b _ hl => hb3.block b hl) (fun b hb _ => hb))
                  replace HAy := hid (HAy.out.keep hb3.size (fun b _ hl => hb3.block b hl) (fun b hb _ => hb))
                  replace HBr := hid (HBr.out.trans (hb3.mono HBr.out.size))
                  have HRs := hid hr
                  clear hb3 hr HSm s0 s1 sl t0 t1 tl
                  cases r with
                  | false =>
                    have bo := HA.out.box
                    have o0 := bo.cell 0
                    have o1 := bo.cell 1
                    have o2 := bo.cell 2
                    have ol := bo.lt
                    simp at o0 o1 o2
                    clear bo
                    have bu := HBy.out
                    have u0 := bu.cell 0
                    have u1 := bu.cell 1
                    have ul := bu.lt
                    simp at u0 u1
                    clear bu
                    have HUi := hid (HAy.out.yes rfl)
                    have HH5 : Hid (Gth id K (k + 1) G ps) := HH.out.skip HKey.out (fun c hc e => by
                      rw [HGG.out] at hc
                      have e2 : c = key := e
                      subst e2
                      exact ((dGone_mem HJK.out.ha HJK.out.hb _).1 hc).2 (HKyy.out.1 (by first | rfl | trivial)))
                    go_wp2_with (at_builtin; refine wpList_app rfl (.tmp 82) (.tmp 84) 22 45 i0 _ 2 40 HKd.out rfl W3.heap.size (.slice po xs.length co) xs.length _ rfl (World.ownsRow.alloc HA.out.own.own _) ⟨X3.heap.size, 0, none⟩ 1 1 [.string y.text, .slice y.p y.n y.c] rfl rfl (newsC X3 _ _) (oneC _ _ _ _) (by omega) (by omega) (by have := HA.out.but.size; simp; omega) ?_)
                    intro v5 w5 ho5 hg5 hn5
                    obtain ⟨p5, c5, rfl⟩ := ownsRow_slice ho5
                    have HA5 : Hid (JoI W3 (w5.setCell ⟨O, 1, none⟩ (.slice p5 (xs.length + 1) c5)) O bn (.slice p5 (xs.length + 1) c5) (.slice pp LP cp) (xs ++ [y]) ps) := HA.out.stepO (HUi.out.2.2.mono fun b hb hl => ⟨by have := HA0.out; have := hb.1; have := HW1.out.size; omega, fun e => by have := HA00.out b e; have := hb.1; have := HW1.out.size; omega, fun e => by have := HA01.out b e; have := hb.1; have := HW1.out.size; omega⟩) ho5 hg5 hn5
                    have bm := HA.out.midO hg5
                    have m0 := bm.cell 0
                    have m1 := bm.cell 1
                    have m2 := bm.cell 2
                    have mf1 := bm.frozen 1
                    have ml := bm.lt
                    simp at m0 m1 m2
                    have HG5 : Hid (Gth VT.text K (k + 1) R ((xs ++ [y]).map VT.norm)) := by
                      show Gth _ _ _ _ _
                      rw [List.map_append, List.map_singleton]
                      exact HG.out.add HJK.out.rK (by rw [HRR.out]; exact HJK.out.rR) HKey.out (mem_ne HJK.out HRR.out HXi.out HYi.out (fun h => by have := HRs.out.2 h; cases this)) (by rw [norm_text]; exact HUi.out.1)
                    clear ho5 hg5 hn5 bm
                    go_wp2
                    go_roundw
                    case rel => exact ⟨k + 1, _, _, _, _, by omega, by go_num, HA5.out, by rw [List.length_append, List.length_singleton]; omega, by rw [← HLP.out]; omega, HG5.out, HH5.out⟩
                    case measure => simp [intOf]; omega
                  | true =>
                    have HG5 : Hid (Gth VT.text K (k + 1) R (xs.map VT.norm)) := HG.out.skip HKey.out (skip_eq HJK.out HRR.out HXi.out HYi.out (HRs.out.1 rfl))
                    have HH5 : Hid (Gth id K (k + 1) G ps) := HH.out.skip HKey.out (fun c hc e => by
                      rw [HGG.out] at hc
                      have e2 : c = key := e
                      subst e2
                      exact ((dGone_mem HJK.out.ha HJK.out.hb _).1 hc).2 (HKyy.out.1 (by first | rfl | trivial)))
                    go_wp2
                    go_roundw
                    case rel => exact ⟨k + 1, _, _, _, _, by omega, by go_num, HA.out, by omega, by rw [← HLP.out]; omega, HG5.out, HH5.out⟩
                    case measure => simp [intOf]; omega
        · obtain rfl : LK = k := by omega
          have HEq : Hid (xs.map VT.norm = R) := by
            have h := HG.out
            rw [HLK.out] at h
            show _ = _
            rw [HRR.out] at h ⊢
            exact h.done HJK.out.rR HJK.out.inS
          have HEg : Hid (ps = G) := by
            have h := HH.out
            rw [HLK.out] at h
            show _ = _
            rw [HGG.out] at h ⊢
            exact h.done HJK.out.rG HJK.out.inG
          have bo := HA.out.box
          have o0 := bo.cell 0
          have o1 := bo.cell 1
          have o2 := bo.cell 2
          have ol := bo.lt
          simp at o0 o1 o2
          clear bo a0 a1 al b0 b1 bl
          have r0 := HRr.out.cell 0
          have rf0 := HRr.out.frozen 0
          have r1 := HRr.out.cell 1
          have rf1 := HRr.out.frozen 1
          have r2 := HRr.out.cell 2
          have rf2 := HRr.out.frozen 2
          have rl := HRr.out.lt
          simp at r0 r1 r2
          obtain ⟨pv, cv, ev, hvin⟩ := HA.out.own.in_ (by omega)
          cases ev
          have HVin := hid hvin
          have HPin := hid (HA.out.row.in_ (by rw [← HLP.out]; omega) (fun q hq => by
            rw [HEg.out, HGG.out] at hq
            obtain ⟨c0, hc0, e0⟩ := ((dGone_mem HJK.out.ha HJK.out.hb q).1 hq).1
            have := (HJK.out.ha.cells c0 hc0).key
            rw [e0] at this; omega))
          clear hvin
          go_wp2
          have hbx : Box (((wr.setCell ⟨w.heap.size + 2, 0, none⟩ (.int .i64 bn)).setCell ⟨w.heap.size + 2, 1, none⟩ (.slice po xs.length co)).setCell ⟨w.heap.size + 2, 2, none⟩ (.slice pp LP cp)) (w.heap.size + 2) #[.int .i64 bn, .slice po xs.length co, .slice pp LP cp] 29 := by simpa using ((HRr.out.set 0 (.int .i64 bn)).set 1 (.slice po xs.length co)).set 2 (.slice pp LP cp)
          have hbt : But (fun x => x = w.heap.size + 2) wr (((wr.setCell ⟨w.heap.size + 2, 0, none⟩ (.int .i64 bn)).setCell ⟨w.heap.size + 2, 1, none⟩ (.slice po xs.length co)).setCell ⟨w.heap.size + 2, 2, none⟩ (.slice pp LP cp)) := (((But.one _ _).setAt 0 _).setAt 1 _).setAt 2 _
          have g0 := hbx.cell 0
          have g1 := hbx.cell 1
          have g2 := hbx.cell 2
          simp at g0 g1 g2
          have hO := HO.out
          refine bodyPost_ret (v := .tuple #[.agg #[.int .i64 bn, .slice po xs.length co, .slice pp LP cp], .int .i64 0]) (by simp [results, Try.results7, go_sem, g0, g1, g2]) rfl ⟨⟨bn, ⟨po, xs.length, co, fun j => xs.getD j zC⟩, ⟨pp, LP, cp, fun j => ps.getD j ⟨#[]⟩⟩⟩, by rw [HR.out]; rfl, ⟨?_, ?_, HNb.out.1, HNb.out.2⟩, fun _ => ⟨rfl, ?_, ?_⟩, fun h => (h HR.out).elim, HBr.out.trans (hbt.below HBr.out.size (fun q hq => by omega))⟩
          · exact (HVin.out.but hbt (fun b hb _ e => by omega)).mono fun b hb _ => by omega
          · have h := (HPin.out.1.but hbt (fun b hb _ e => by omega)).mono (S' := fun k => w.heap.size ≤ k) fun b hb _ => by omega
            rw [← HLP.out] at h; exact h
          · show LT.nl _ = _
            rw [getD_nl, HEq.out, HRR.out]
          · show LT.toL _ = _
            rw [HLP.out, strs_toL, HEg.out, HGG.out]
end Go.Proofs.Ytpknlbibijheaab
