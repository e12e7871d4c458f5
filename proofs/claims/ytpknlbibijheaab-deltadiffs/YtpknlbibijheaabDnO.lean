import Derived.Test.YtpknlbibijheaabPack30
import Derived.Test.YtpknlbibijheaabDnM
import Derived.Test.YtpknlbibijheaabDmJ
namespace Go.Proofs.Ytpknlbibijheaab
open Go.RowKit
set_option maxRecDepth 8000
def twoS (k : Nat) (an : Int) (a : LT VT) (bn : Int) (b : LT VT) : LT (Int × LT VT) := ⟨some ⟨k, 0, none⟩, 2, 2, fun j => if j = 0 then (an, a) else (bn, b)⟩
theorem twoS_in {W : World} {k : Nat} {an : Int} {a : LT VT} {bn : Int} {b : LT VT} {S : Nat → Prop} (h : Box W k #[.int .i64 an, .slice a.p a.n a.c, .int .i64 bn, .slice b.p b.n b.c] 24) (hb : S k) (ha : elS.In W S (an, a)) (hbb : elS.In W S (bn, b)) : LT.In elS W S (twoS k an a bn b) := by
  refine ⟨fun _ => ⟨k, 0, rfl, hb, h.lt, fun j hj r u hu => ?_⟩, fun j hj => ?_, by show 2 ≤ 2; omega, by show 2 ≤ _; omega, by show 2 ≤ maxLen; simp [maxLen], fun h => by cases h⟩
  · have hj3 : j < 2 := hj
    match j, hj3, r, hu with
    | 0, _, 0, hu => obtain rfl : _ = u := Option.some.inj hu; exact h.cell 0
    | 0, _, 1, hu => obtain rfl : _ = u := Option.some.inj hu; exact h.cell 1
    | 1, _, 0, hu => obtain rfl : _ = u := Option.some.inj hu; exact h.cell 2
    | 1, _, 1, hu => obtain rfl : _ = u := Option.some.inj hu; exact h.cell 3
  · have hj3 : j < 2 := hj
    match j, hj3 with
    | 0, _ => exact ha
    | 1, _ => exact hbb
theorem mrg_key {α β : Type} (kA : α → ByteArray) (kB : β → ByteArray) (zA : α) (zB : β) : ∀ (f : Nat) (xs : List α) (ys : List β), ∀ e ∈ mrgF kA kB zA zB f xs ys, (∃ x ∈ xs, kA x = e.key) ∨ ∃ y ∈ ys, kB y = e.key := by
  intro f
  induction f with
  | zero => intro xs ys e he; simp [mrgF] at he
  | succ f ih =>
    intro xs ys e he
    by_cases h0 : xs.length + ys.length = 0
    · rw [mrg_end _ _ _ _ _ _ _ h0] at he; cases he
    · simp only [mrgF, if_neg h0] at he
      rcases List.mem_cons.1 he with rfl | he
      · show (∃ x ∈ xs, kA x = lkL kA kB xs ys) ∨ ∃ y ∈ ys, kB y = lkL kA kB xs ys
        cases xs with
        | nil =>
          cases ys with
          | nil => simp at h0
          | cons b t => exact .inr ⟨b, List.mem_cons_self, rfl⟩
        | cons a t =>
          cases ys with
          | nil => exact .inl ⟨a, List.mem_cons_self, rfl⟩
          | cons b u =>
            simp only [lkL]
            split
            · exact .inl ⟨a, List.mem_cons_self, rfl⟩
            · exact .inr ⟨b, List.mem_cons_self, rfl⟩
      · rcases ih _ _ e he with ⟨x, hx, e1⟩ | ⟨y, hy, e1⟩
        · exact .inl ⟨x, cut_sub _ _ x hx, e1⟩
        · exact .inr ⟨y, cut_sub _ _ y hy, e1⟩
theorem dEv_small {a b : LT VT} {w : World} {S R : Nat → Prop} (ha : LT.In elCell w S a) (hb : LT.In elCell w R b) : ∀ x ∈ dEv a b, x.key.size ≤ 140737488355328 := by
  intro x hx
  rcases mrg_key _ _ _ _ _ _ _ x hx with ⟨c, hc, e⟩ | ⟨c, hc, e⟩
  · obtain ⟨j, hj, rfl⟩ := LT.mem_toL hc
    rw [← e]; exact (VT.In.fit (ha.each j hj)).s1
  · obtain ⟨j, hj, rfl⟩ := LT.mem_toL hc
    rw [← e]; exact (VT.In.fit (hb.each j hj)).s1
theorem diffE_alike {an bn : Int} {a b xs ys : LT VT} (ha : LAlk VT.Alike a xs) (hb : LAlk VT.Alike b ys) : diffE an xs bn ys = diffE an a bn b := by
  unfold diffE
  rw [ha.chk, hb.chk]
theorem calk_alike {c u x y : VT} (cx : VT.Alike c x) (yu : VT.Alike y u) (h : CAlk x y) : CAlk c u := by
  refine ⟨by rw [yu.text, h.1, cx.text], by rw [yu.n, h.2.1, cx.n], fun j hj => ?_⟩
  have hjx : j < x.n := by rw [cx.n]; exact hj
  exact ((cx.item hj).trans (h.2.2 j hjx)).trans (yu.item (by rw [h.2.1]; exact hjx))
theorem dSet_half {a b xs ys : LT VT} {w : World} {S : Nat → Prop} (oa : SOk w S a) (ob : SOk w S b) (ox : SOk w S xs) (oy : SOk w S ys) (na : xs.nl = a.nl) (nb : ys.nl = b.nl) : ∀ c ∈ (dSet (dEv a b)).map VT.norm, c ∈ (dSet (dEv xs ys)).map VT.norm := by
  intro c hc
  obtain ⟨c0, h0, rfl⟩ := List.mem_map.1 hc
  obtain ⟨hb, hn⟩ := (dSet_mem oa ob c0).1 h0
  have hm : c0.norm ∈ ys.nl := by rw [nb]; exact List.mem_map.2 ⟨c0, hb, rfl⟩
  obtain ⟨d0, hd0, d1, d2, e⟩ := nl_has hm
  rw [← e]
  refine List.mem_map.2 ⟨d0, (dSet_mem ox oy d0).2 ⟨hd0, fun x hx ht hal => ?_⟩, rfl⟩
  have hmx : x.norm ∈ a.nl := by rw [← na]; exact List.mem_map.2 ⟨x, hx, rfl⟩
  obtain ⟨x0, hx0, x1, x2, e2⟩ := nl_has hmx
  exact hn x0 hx0 (by rw [← x1.text, ht, d1.text]) (calk_alike x1 d1 hal)
theorem dSet_alike {a b xs ys : LT VT} {w : World} {S : Nat → Prop} (oa : SOk w S a) (ob : SOk w S b) (ox : SOk w S xs) (oy : SOk w S ys) (na : xs.nl = a.nl) (nb : ys.nl = b.nl) : (dSet (dEv xs ys)).map VT.norm = (dSet (dEv a b)).map VT.norm :=
  Rise.ext (rise_norm (dSet_rise ox oy)) (rise_norm (dSet_rise oa ob)) fun c => ⟨dSet_half ox oy oa ob na.symm nb.symm c, dSet_half oa ob ox oy na nb c⟩
theorem dGone_alike {a b xs ys : LT VT} {w : World} {S : Nat → Prop} (oa : SOk w S a) (ob : SOk w S b) (ox : SOk w S xs) (oy : SOk w S ys) (na : xs.nl = a.nl) (nb : ys.nl = b.nl) : dGone (dEv xs ys) = dGone (dEv a b) :=
  Rise.ext (dGone_rise ox oy) (dGone_rise oa ob) fun k => by
    rw [dGone_mem ox oy, dGone_mem oa ob, ← keyIn_nl2, ← keyIn_nl2 (l := ys), na, nb, keyIn_nl2, keyIn_nl2]
/-- what a Diff answers -/
structure DfR (an : Int) (a : LT VT) (bn : Int) (b : LT VT) (u : DT) : Prop where
  ok : diffE an a bn b = 0 → u.num = bn ∧ u.nS = (dSet (dEv a b)).map VT.norm ∧ u.gone.toL = dGone (dEv a b)
  no : diffE an a bn b ≠ 0 → u = zD
theorem diffE_ok {an bn : Int} {a b : LT VT} (h : diffE an a bn b = 0) : chkState ⟨an, a.p, a.n, a.c, a.item⟩ = 0 ∧ chkState ⟨bn, b.p, b.n, b.c, b.item⟩ = 0 := by
  unfold diffE at h
  by_cases h1 : chkState ⟨an, a.p, a.n, a.c, a.item⟩ = 0
  · rw [if_neg (by simpa using h1)] at h; exact ⟨h1, h⟩
  · rw [if_pos h1] at h; exact (h1 h).elim
theorem DfR.same {an bn : Int} {a b xs ys : LT VT} {t v : DT} {w : World} (ha : LAlk VT.Alike a xs) (hb : LAlk VT.Alike b ys) (ia : LT.In elCell w (fun _ => True) a) (ib : LT.In elCell w (fun _ => True) b) (ix : LT.In elCell w (fun _ => True) xs) (iy : LT.In elCell w (fun _ => True) ys) (h1 : DfR an a bn b t) (h2 : DfR an xs bn ys v) : DAlk t v := by
  have e := diffE_alike (an := an) (bn := bn) ha hb
  by_cases h0 : diffE an a bn b = 0
  · have c1 := diffE_ok h0
    have c2 := diffE_ok (e.trans h0)
    obtain ⟨a1, a2, a3⟩ := h1.ok h0
    obtain ⟨b1, b2, b3⟩ := h2.ok (e.trans h0)
    have na := ha.nl ix
    have nb := hb.nl iy
    refine DAlk.of (a1.trans b1.symm) ?_ ?_
    · rw [a2, b2, dSet_alike (SOk.of c1.1 ia) (SOk.of c1.2 ib) (SOk.of c2.1 ix) (SOk.of c2.2 iy) na nb]
    · rw [a3, b3, dGone_alike (SOk.of c1.1 ia) (SOk.of c1.2 ib) (SOk.of c2.1 ix) (SOk.of c2.2 iy) na nb]
  · rw [h1.no h0, h2.no (fun h => h0 (e.symm.trans h))]
    exact ⟨rfl, ⟨rfl, fun j hj => absurd hj (by show ¬ j < 0; omega)⟩, rfl, fun j hj => absurd hj (by show ¬ j < 0; omega)⟩
/-- Diff, in one word -/
theorem diff_one2 (an : Int) (a : LT VT) (bn : Int) (b : LT VT) (w : World) (S : Nat → Prop) (ha : LT.In elCell w S a) (ha0 : -9223372036854775808 ≤ an) (ha1 : an ≤ 9223372036854775807) (hb : LT.In elCell w S b) (hb0 : -9223372036854775808 ≤ bn) (hb1 : bn ≤ 9223372036854775807) (hS : ∀ k, S k → k < w.heap.size) (za : CSz a) (zb : CSz b) :
    Calls Try.prog 6 #[.agg #[.int .i64 an, .slice a.p a.n a.c], .agg #[.int .i64 bn, .slice b.p b.n b.c]] w fun e w' => ∃ u : DT, e = .returned (.tuple #[.agg #[.int .i64 u.num, .slice u.set.p u.set.n u.set.c, .slice u.gone.p u.gone.n u.gone.c], .int .i64 (diffE an a bn b : Int)]) ∧ DT.In w' (fun _ => True) u ∧ DfR an a bn b u ∧ Below w.heap.size w w' := by
  refine (diff_any an a bn b w S ha ha0 ha1 hb hb0 hb1 hS ⟨za.n, zb.n⟩ zb.item (dEv_small ha hb)).mono ?_
  rintro e w' ⟨h1, h2, h3⟩
  by_cases h0 : diffE an a bn b = 0
  · obtain ⟨u, rfl, e2, e3⟩ := h3 h0
    obtain ⟨n1, n2, n3⟩ := e2.nS e3
    exact ⟨u, by rw [h0]; rfl, e3.mono fun _ _ _ => trivial, ⟨fun _ => ⟨n1, n2, n3⟩, fun h => (h h0).elim⟩, h1⟩
  · exact ⟨zD, h2 h0, zD_in _ _, ⟨fun h => (h0 h).elim, fun _ => rfl⟩, h1⟩
set_option maxHeartbeats 16000000 in
theorem deltaDiffs_walk (an : Int) (a : LT VT) (bn : Int) (b : LT VT) (w : World) (hna : -9223372036854775808 ≤ an ∧ an ≤ 9223372036854775807) (hnb : -9223372036854775808 ≤ bn ∧ bn ≤ 9223372036854775807) (ha : LT.In elCell w (fun b => b < w.heap.size) a) (hb : LT.In elCell w (fun b => b < w.heap.size) b) :
    Calls Try.prog 3 #[.agg #[.int .i64 an, .slice a.p a.n a.c], .agg #[.int .i64 bn, .slice b.p b.n b.c]] w fun e w' => e = .returned (.bool true) ∧ Below w.heap.size w w' := by
  obtain ⟨W0, hW0⟩ : ∃ X, X = (w.alloc (.cells #[.int .i64 an, .slice a.p a.n a.c] 24)).alloc (.cells #[.int .i64 bn, .slice b.p b.n b.c] 24) := ⟨_, rfl⟩
  have hB0 : Below w.heap.size w W0 := by rw [hW0]; exact below2 _ _ _
  have bS : Box W0 w.heap.size #[.int .i64 an, .slice a.p a.n a.c] 24 := by rw [hW0]; exact (Box.new w _ _).below (below1 _ _)
  have bD : Box W0 (w.heap.size + 1) #[.int .i64 bn, .slice b.p b.n b.c] 24 := by
    have h1 := Box.new (w.alloc (.cells #[.int .i64 an, .slice a.p a.n a.c] 24)) #[.int .i64 bn, .slice b.p b.n b.c] 24
    rw [World.size_alloc] at h1
    rw [hW0]
    exact h1
  have HW0 := hid hW0
  have HB := hid hB0
  have HbS := hid bS
  have HbD := hid bD
  have HaI := hid (ha.below hB0)
  have HbI := hid (hb.below hB0)
  have HNa := hid hna
  have HNb := hid hnb
  have a0 := bS.cell 0
  have a1 := bS.cell 1
  have al := bS.lt
  simp at a0 a1
  have b0 := bD.cell 0
  have b1 := bD.cell 1
  have bl := bD.lt
  simp at b0 b1
  clear hW0 hB0 bS bD ha hb hna hnb
  obtain ⟨V0, hV0⟩ : ∃ X, X = W0.alloc (.cells #[.int .i64 an, .slice a.p a.n a.c, .int .i64 bn, .slice b.p b.n b.c] 24) := ⟨_, rfl⟩
  have hbV : Below W0.heap.size W0 V0 := by rw [hV0]; exact below1 _ _
  have bV : Box V0 W0.heap.size #[.int .i64 an, .slice a.p a.n a.c, .int .i64 bn, .slice b.p b.n b.c] 24 := by rw [hV0]; exact Box.new _ _ _
  have HSz := hid (szStates_any (twoS W0.heap.size an a bn b) V0 (fun b => b < V0.heap.size) (twoS_in bV bV.lt ⟨HNa.out, (HaI.out.below hbV).mono fun b _ h => h⟩ ⟨HNb.out, (HbI.out.below hbV).mono fun b _ h => h⟩) (fun _ h => h))
  unfold twoS at HSz
  dsimp only at HSz
  replace HbS := hid (HbS.out.below hbV)
  replace HbD := hid (HbD.out.below hbV)
  replace HaI := hid (HaI.out.below hbV)
  replace HbI := hid (HbI.out.below hbV)
  replace HB := hid (HB.out.trans (hbV.mono HB.out.size))
  have HV0 := hid hV0
  clear hV0 hbV bV
  go_enter Try.func3, Try.ntmps3
  go_upto_region 1 with fail
  rw [← HW0.out]
  go_wp2_with fail
  rw [← HV0.out]
  refine HSz.out.mono ?_
  rintro e W2 ⟨q, rfl, hq, hb1⟩
  replace HbS := hid (HbS.out.below hb1)
  replace HbD := hid (HbD.out.below hb1)
  replace HaI := hid (HaI.out.below hb1)
  replace HbI := hid (HbI.out.below hb1)
  replace HB := hid (HB.out.trans (hb1.mono HB.out.size))
  have HQ := hid hq
  clear hb1 hq HSz HV0 HW0 a0 a1 al b0 b1 bl
  cases q with
  | false =>
    go_wp2
    exact bodyPost_ret (v := .bool true) (by simp [results, Try.results3, go_sem]) rfl ⟨rfl, HB.out⟩
  | true =>
      have HZa : Hid (CSz a) := HQ.out rfl 0 (by show 0 < 2; omega)
      have HZb : Hid (CSz b) := HQ.out rfl 1 (by show 1 < 2; omega)
      clear HQ
      have a0 := HbS.out.cell 0
      have a1 := HbS.out.cell 1
      have al := HbS.out.lt
      simp at a0 a1
      have b0 := HbD.out.cell 0
      have b1 := HbD.out.cell 1
      have bl := HbD.out.lt
      simp at b0 b1
      go_upto_region 3 with fail
      go_cut [5, 6] (fun s5 s6 wx => ∃ (b4 b5 : Nat) (xs yd : LT VT), s5 = .pointer (some ⟨b4, 0, none⟩) ∧ s6 = .pointer (some ⟨b5, 0, none⟩) ∧ Box wx b4 #[.int .i64 an, .slice xs.p xs.n xs.c] 24 ∧ Box wx b5 #[.int .i64 bn, .slice yd.p yd.n yd.c] 24 ∧ LAlk VT.Alike a xs ∧ LAlk VT.Alike b yd ∧ LT.In elCell wx (fun _ => True) xs ∧ LT.In elCell wx (fun _ => True) yd ∧ Below W2.heap.size W2 wx)
      case first =>
        refine wp_region_inv (by kernel_rfl) (fun (D_ : Nat → Prop) a_ wx => ∃ (x0 x1 x2 x3 x4 x5 : Value) (b4 b5 : Nat) (xs yd : LT VT), a_ = { tmps := #[.agg #[.int .i64 an, .slice a.p a.n a.c], .agg #[.int .i64 bn, .slice b.p b.n b.c], .pointer (some ⟨w.heap.size, 0, none⟩), .pointer (some ⟨w.heap.size + 1, 0, none⟩), .bool false, x4, x5, undef, undef, undef, undef, undef, undef, undef, undef, undef, .agg #[.int .i64 an, .slice a.p a.n a.c], .agg #[.int .i64 bn, .slice b.p b.n b.c], .slice (some ⟨W0.heap.size, 0, none⟩) 2 2, .bool true, .bool false, x0, x1, x2, x3, undef, undef, undef, undef, undef, undef, undef, undef, undef, undef, undef, undef, undef, undef, undef, undef, undef, undef, undef, undef, undef, undef, undef, undef, undef, undef, undef, undef, undef, undef, undef, undef, undef, undef, undef, undef, undef, undef, undef, undef, undef, undef, undef, undef, undef, undef, undef, undef, undef, undef, undef, undef, undef, undef, undef, undef, undef, undef, undef, undef, undef, undef, undef, undef, undef, undef, undef], defers := [] } ∧ R5 W2 an a bn b D_ wx x0 x1 x2 x3 x4 x5 b4 b5 xs yd) ?ext (by kernel_rfl) ?h0 ?step ?fin
        case ext =>
          intro D_ D' a_ wx hD h
          have e : D_ = D' := funext fun j => propext (hD j)
          rw [← e]; exact h
        case h0 =>
          intro D_ hD
          exact ⟨undef, undef, undef, undef, undef, undef, 0, 0, a, b, rfl, R5.start hD⟩
        case step =>
          rintro D_ a_ wx ⟨x0, x1, x2, x3, x4, x5, b4, b5, xs, yd, rfl, hR⟩ i o ho hnd hdep
          have hi : i < 8 := (Array.getElem?_eq_some_iff.1 ho).1
          have HRr := hid hR
          have cS := HbS.out.below (hR.bel.mono (Nat.le_refl _))
          have cD := HbD.out.below (hR.bel.mono (Nat.le_refl _))
          have HcS := hid cS
          have HcD := hid cD
          clear cS cD
          obtain rfl | rfl | rfl | rfl | rfl | rfl | rfl | rfl : i = 0 ∨ i = 1 ∨ i = 2 ∨ i = 3 ∨ i = 4 ∨ i = 5 ∨ i = 6 ∨ i = 7 := by omega
          · obtain rfl := Option.some.inj ho
            have c0 := HcS.out.cell 0
            have c1 := HcS.out.cell 1
            have cl := HcS.out.lt
            simp at c0 c1
            clear hR
            refine wpOp_e rfl rfl (fun K1 hK1 => ?_)
            go_simp
            exact hK1 _ _ ⟨_, _, _, _, _, _, _, _, _, _, rfl, HRr.out.load0⟩
          · obtain rfl := Option.some.inj ho
            have d0 : D_ 0 := hdep { on := 0, ground := Ground.data } (by simp) rfl
            have h6 : ¬ D_ 6 := fun h => hnd ((HRr.out.o6 h).2.1)
            obtain rfl := hR.f0 d0
            have HSt := hid (rs8 an a wx (fun b => b < w.heap.size) (HaI.out.below (hR.bel.mono (Nat.le_refl _))) HZa.out.n HZa.out.item)
            clear hR
            refine wpOp_e rfl rfl (fun K1 hK1 => ?_)
            refine step_callT 5 (.func 5) #[.tmp 21] _ rfl rfl Try.f5 Try.func5 (by kernel_rfl) rfl #[.agg #[.int .i64 an, .slice a.p a.n a.c]] rfl _ HSt.out (fun e w4 h4 => ?_)
            obtain ⟨us, rfl, ha4, hu4, hb4⟩ := h4
            have HX := hid (HRr.out.call1 h6 hb4 ha4 hu4)
            clear ha4 hu4 hb4
            refine ⟨_, rfl, ?_⟩
            go_simp
            exact hK1 _ _ ⟨_, _, _, _, _, _, _, _, _, _, rfl, HX.out⟩
          · obtain rfl := Option.some.inj ho
            have c0 := HcD.out.cell 0
            have c1 := HcD.out.cell 1
            have cl := HcD.out.lt
            simp at c0 c1
            clear hR
            refine wpOp_e rfl rfl (fun K1 hK1 => ?_)
            go_simp
            exact hK1 _ _ ⟨_, _, _, _, _, _, _, _, _, _, rfl, HRr.out.load2⟩
          · obtain rfl := Option.some.inj ho
            have d2 : D_ 2 := hdep { on := 2, ground := Ground.data } (by simp) rfl
            have d1 : D_ 1 := hdep { on := 1, ground := Ground.chain } (by simp) rfl
            have h7 : ¬ D_ 7 := fun h => hnd ((HRr.out.o7 h).2)
            obtain rfl := hR.f2 d2
            have HSt := hid (rs8 bn b wx (fun b => b < w.heap.size) (HbI.out.below (hR.bel.mono (Nat.le_refl _))) HZb.out.n HZb.out.item)
            clear hR
            refine wpOp_e rfl rfl (fun K1 hK1 => ?_)
            refine step_callT 5 (.func 5) #[.tmp 23] _ rfl rfl Try.f5 Try.func5 (by kernel_rfl) rfl #[.agg #[.int .i64 bn, .slice b.p b.n b.c]] rfl _ HSt.out (fun e w4 h4 => ?_)
            obtain ⟨us, rfl, ha4, hu4, hb4⟩ := h4
            have HX := hid (HRr.out.call3 h7 hb4 ha4 hu4)
            clear ha4 hu4 hb4
            refine ⟨_, rfl, ?_⟩
            go_simp
            exact hK1 _ _ ⟨_, _, _, _, _, _, _, _, _, _, rfl, HX.out⟩
          · obtain rfl := Option.some.inj ho
            clear hR
            refine wpOp_e rfl rfl (fun K1 hK1 => ?_)
            go_simp
            exact hK1 _ _ ⟨_, _, _, _, _, _, _, _, _, _, rfl, HRr.out.alloc4 hnd⟩
          · obtain rfl := Option.some.inj ho
            clear hR
            refine wpOp_e rfl rfl (fun K1 hK1 => ?_)
            go_simp
            exact hK1 _ _ ⟨_, _, _, _, _, _, _, _, _, _, rfl, HRr.out.alloc5 hnd⟩
          · obtain rfl := Option.some.inj ho
            have d4 : D_ 4 := hdep { on := 4, ground := Ground.data } (by simp) rfl
            have d1 : D_ 1 := hdep { on := 1, ground := Ground.data } (by simp) rfl
            have d3 : D_ 3 := hdep { on := 3, ground := Ground.chain } (by simp) rfl
            have d5 : D_ 5 := hdep { on := 5, ground := Ground.phase } (by simp) rfl
            have h7 : ¬ D_ 7 := fun h => hnd ((HRr.out.o7 h).1)
            obtain ⟨rfl, _, _⟩ := hR.f1 d1
            obtain ⟨rfl, _, l4⟩ := hR.p4 d4
            have bx := hR.z4 d4 hnd
            have q0 := bx.cell 0
            have q1 := bx.cell 1
            have g0 := bx.frozen 0
            have g1 := bx.frozen 1
            simp at q0 q1
            clear hR bx
            refine wpOp_e rfl rfl (fun K1 hK1 => ?_)
            go_simp
            exact hK1 _ _ ⟨_, _, _, _, _, _, _, _, _, _, rfl, HRr.out.store6 d4 d5 d1 d3 hnd h7⟩
          · obtain rfl := Option.some.inj ho
            have d5 : D_ 5 := hdep { on := 5, ground := Ground.data } (by simp) rfl
            have d3 : D_ 3 := hdep { on := 3, ground := Ground.data } (by simp) rfl
            have d6 : D_ 6 := hdep { on := 6, ground := Ground.chain } (by simp) rfl
            have d1 : D_ 1 := hdep { on := 1, ground := Ground.phase } (by simp) rfl
            have d4 : D_ 4 := hdep { on := 4, ground := Ground.phase } (by simp) rfl
            obtain ⟨rfl, _, _⟩ := hR.f3 d3
            obtain ⟨rfl, _, l5⟩ := hR.p5 d5
            have bx := hR.z5 d5 hnd
            have q0 := bx.cell 0
            have q1 := bx.cell 1
            have g0 := bx.frozen 0
            have g1 := bx.frozen 1
            simp at q0 q1
            clear hR bx
            refine wpOp_e rfl rfl (fun K1 hK1 => ?_)
            go_simp
            exact hK1 _ _ ⟨_, _, _, _, _, _, _, _, _, _, rfl, HRr.out.store7 d4 d5 d1 d3 d6 hnd⟩
        case fin =>
          rintro D_ a_ wx ⟨x0, x1, x2, x3, x4, x5, b4, b5, xs, yd, rfl, hR⟩ hall
          have e4 := (hR.p4 (hall 4 (by decide))).1
          have e5 := (hR.p5 (hall 5 (by decide))).1
          subst e4 e5
          have HRr := hid hR
          have HAll := hid hall
          clear hR hall
          go_wp2_with fail
          go_meet
          exact ⟨b4, b5, xs, yd, rfl, rfl, (HRr.out.y6 (HAll.out 6 (by decide))).2, (HRr.out.y7 (HAll.out 7 (by decide))).2, (HRr.out.f1 (HAll.out 1 (by decide))).2.1, (HRr.out.f3 (HAll.out 3 (by decide))).2.1, (HRr.out.f1 (HAll.out 1 (by decide))).2.2.mono fun _ _ _ => trivial, (HRr.out.f3 (HAll.out 3 (by decide))).2.2.mono fun _ _ _ => trivial, HRr.out.bel⟩
      case rest =>
        obtain ⟨b4, b5, xs, yd, rfl, rfl, bx4, bx5, hax, hay, hix, hiy, hbel⟩ := hcut
        obtain ⟨W3, hW3⟩ : ∃ X, X = wc := ⟨_, rfl⟩
        subst hW3
        replace HbS := hid (HbS.out.below hbel)
        replace HbD := hid (HbD.out.below hbel)
        replace HaI := hid (HaI.out.below hbel)
        replace HbI := hid (HbI.out.below hbel)
        replace HB := hid (HB.out.trans (hbel.mono HB.out.size))
        have HX4 := hid bx4
        have HX5 := hid bx5
        have HAx := hid hax
        have HAy := hid hay
        have HIx := hid hix
        have HIy := hid hiy
        clear bx4 bx5 hax hay hix hiy hbel a0 a1 al b0 b1 bl
        have a0 := HbS.out.cell 0
        have a1 := HbS.out.cell 1
        have al := HbS.out.lt
        simp at a0 a1
        have b0 := HbD.out.cell 0
        have b1 := HbD.out.cell 1
        have bl := HbD.out.lt
        simp at b0 b1
        have HC := hid (diff_one2 an a bn b W3 (fun b => b < w.heap.size) HaI.out HNa.out.1 HNa.out.2 HbI.out HNb.out.1 HNb.out.2 (fun b hb => by have := HB.out.size; omega) HZa.out HZb.out)
        obtain ⟨er, her⟩ : ∃ er, er = diffE an a bn b := ⟨_, rfl⟩
        rw [← her] at HC
        have HEr := hid her
        clear her
        go_wp2_with fail
        refine HC.out.mono ?_
        rintro e W5 ⟨t, rfl, hti, htr, hb_⟩
        clear a0 a1 al b0 b1 bl
        replace HbS := hid (HbS.out.below hb_)
        replace HbD := hid (HbD.out.below hb_)
        replace HaI := hid (HaI.out.below hb_)
        replace HbI := hid (HbI.out.below hb_)
        replace HX4 := hid (HX4.out.below hb_)
        replace HX5 := hid (HX5.out.below hb_)
        replace HIx := hid (HIx.out.below hb_)
        replace HIy := hid (HIy.out.below hb_)
        replace HB := hid (HB.out.trans (hb_.mono HB.out.size))
        have HTi := hid hti
        have HTr := hid htr
        clear hb_ HC hti htr
        obtain ⟨W6, h_⟩ : ∃ X, X = W5.alloc (.cells #[.int .i64 t.num, .slice t.set.p t.set.n t.set.c, .slice t.gone.p t.gone.n t.gone.c] 29) := ⟨_, rfl⟩
        have hb_ : Below W5.heap.size W5 W6 := by rw [h_]; exact below1 _ _
        have HX7 : Hid (Box W6 W5.heap.size #[.int .i64 t.num, .slice t.set.p t.set.n t.set.c, .slice t.gone.p t.gone.n t.gone.c] 29) := by show Box _ _ _ _; rw [h_]; exact Box.new _ _ _
        have HW_ := hid h_
        clear h_
        go_upto_region 5 with fail
        rw [← HW_.out]
        clear HW_
        replace HbS := hid (HbS.out.below hb_)
        replace HbD := hid (HbD.out.below hb_)
        replace HaI := hid (HaI.out.below hb_)
        replace HbI := hid (HbI.out.below hb_)
        replace HX4 := hid (HX4.out.below hb_)
        replace HX5 := hid (HX5.out.below hb_)
        replace HIx := hid (HIx.out.below hb_)
        replace HIy := hid (HIy.out.below hb_)
        replace HTi := hid (HTi.out.below hb_)
        replace HB := hid (HB.out.trans (hb_.mono HB.out.size))
        clear hb_
        have x0 := HX4.out.cell 0
        have x1 := HX4.out.cell 1
        have xl := HX4.out.lt
        simp at x0 x1
        have y0 := HX5.out.cell 0
        have y1 := HX5.out.cell 1
        have yl := HX5.out.lt
        simp at y0 y1
        have HC := hid (rdiff_any an xs bn yd W6 (fun b => b < W6.heap.size) (HIx.out.mono fun b _ h => h) HNa.out.1 HNa.out.2 (HIy.out.mono fun b _ h => h) HNb.out.1 HNb.out.2 (fun b h => h) (CSz.alike HAx.out HZa.out) (CSz.alike HAy.out HZb.out))
        have HEq : Hid (diffE an xs bn yd = er) := by show _ = _; rw [HEr.out]; exact diffE_alike HAx.out HAy.out
        have HRr : Hid (∀ u : DT, (er = 0 → u.num = bn ∧ u.nS = (dSet (dEv xs yd)).map VT.norm ∧ u.gone.toL = dGone (dEv xs yd)) → (er ≠ 0 → u = zD) → DfR an xs bn yd u) := fun u h1 h2 => ⟨fun h => h1 (HEq.out.symm.trans h), fun h => h2 fun h3 => h (HEq.out.trans h3)⟩
        rw [HEq.out] at HC
        go_wp2_with fail
        refine HC.out.mono ?_
        rintro e W7 ⟨v, rfl, hvi, hvz, hve, hb_⟩
        clear x0 x1 xl y0 y1 yl
        replace HbS := hid (HbS.out.below hb_)
        replace HbD := hid (HbD.out.below hb_)
        replace HaI := hid (HaI.out.below hb_)
        replace HbI := hid (HbI.out.below hb_)
        replace HX4 := hid (HX4.out.below hb_)
        replace HX5 := hid (HX5.out.below hb_)
        replace HIx := hid (HIx.out.below hb_)
        replace HIy := hid (HIy.out.below hb_)
        replace HTi := hid (HTi.out.below hb_)
        replace HX7 := hid (HX7.out.below hb_)
        replace HB := hid (HB.out.trans (hb_.mono HB.out.size))
        have HVi : Hid (DT.In W7 (fun _ => True) v) := hvi.mono fun _ _ _ => trivial
        have HVr := hid (HRr.out v hvz hve)
        clear hvi hvz hve hb_ HC HRr
        obtain ⟨W8, h_⟩ : ∃ X, X = W7.alloc (.cells #[.int .i64 v.num, .slice v.set.p v.set.n v.set.c, .slice v.gone.p v.gone.n v.gone.c] 29) := ⟨_, rfl⟩
        have hb_ : Below W7.heap.size W7 W8 := by rw [h_]; exact below1 _ _
        have HX9 : Hid (Box W8 W7.heap.size #[.int .i64 v.num, .slice v.set.p v.set.n v.set.c, .slice v.gone.p v.gone.n v.gone.c] 29) := by show Box _ _ _ _; rw [h_]; exact Box.new _ _ _
        have HW_ := hid h_
        clear h_
        go_upto_region 6 with fail
        rw [← HW_.out]
        clear HW_
        replace HbS := hid (HbS.out.below hb_)
        replace HbD := hid (HbD.out.below hb_)
        replace HaI := hid (HaI.out.below hb_)
        replace HbI := hid (HbI.out.below hb_)
        replace HX4 := hid (HX4.out.below hb_)
        replace HX5 := hid (HX5.out.below hb_)
        replace HIx := hid (HIx.out.below hb_)
        replace HIy := hid (HIy.out.below hb_)
        replace HTi := hid (HTi.out.below hb_)
        replace HX7 := hid (HX7.out.below hb_)
        replace HVi := hid (HVi.out.below hb_)
        replace HB := hid (HB.out.trans (hb_.mono HB.out.size))
        clear hb_
        have HSame : Hid (DAlk t v) := DfR.same HAx.out HAy.out (HaI.out.mono fun _ _ _ => trivial) (HbI.out.mono fun _ _ _ => trivial) HIx.out HIy.out HTr.out HVr.out
        have hee : ((er : Int) != (er : Int)) = false := by simp
        have t0 := HX7.out.cell 0
        have t1 := HX7.out.cell 1
        have t2 := HX7.out.cell 2
        have tl := HX7.out.lt
        simp at t0 t1 t2
        have v0 := HX9.out.cell 0
        have v1 := HX9.out.cell 1
        have v2 := HX9.out.cell 2
        have vl := HX9.out.lt
        simp at v0 v1 v2
        have HC := hid (yDelta t v W8 _ _ HTi.out HVi.out)
        go_wp2_with fail
        refine HC.out.mono ?_
        rintro e W9 ⟨r_, rfl, hr_, hb_⟩
        obtain rfl : r_ = true := hr_.2 (HSame.out)
        replace HbS := hid (HbS.out.below hb_)
        replace HbD := hid (HbD.out.below hb_)
        replace HaI := hid (HaI.out.below hb_)
        replace HbI := hid (HbI.out.below hb_)
        replace HX4 := hid (HX4.out.below hb_)
        replace HX5 := hid (HX5.out.below hb_)
        replace HIx := hid (HIx.out.below hb_)
        replace HIy := hid (HIy.out.below hb_)
        replace HTi := hid (HTi.out.below hb_)
        replace HX7 := hid (HX7.out.below hb_)
        replace HVi := hid (HVi.out.below hb_)
        replace HX9 := hid (HX9.out.below hb_)
        replace HB := hid (HB.out.trans (hb_.mono HB.out.size))
        clear hb_ hr_ HC t0 t1 t2 tl v0 v1 v2 vl
        have t0 := HbS.out.cell 0
        have t1 := HbS.out.cell 1
        have tl := HbS.out.lt
        simp at t0 t1
        have v0 := HX4.out.cell 0
        have v1 := HX4.out.cell 1
        have vl := HX4.out.lt
        simp at v0 v1
        have HC := hid (yStat an an a xs W9 _ _ HaI.out HIx.out)
        go_wp2_with fail
        refine HC.out.mono ?_
        rintro e W10 ⟨r_, rfl, hr_, hb_⟩
        obtain rfl : r_ = true := hr_.2 (⟨by first | rfl | trivial, HAx.out.cells⟩)
        replace HbS := hid (HbS.out.below hb_)
        replace HbD := hid (HbD.out.below hb_)
        replace HaI := hid (HaI.out.below hb_)
        replace HbI := hid (HbI.out.below hb_)
        replace HX4 := hid (HX4.out.below hb_)
        replace HX5 := hid (HX5.out.below hb_)
        replace HIx := hid (HIx.out.below hb_)
        replace HIy := hid (HIy.out.below hb_)
        replace HTi := hid (HTi.out.below hb_)
        replace HX7 := hid (HX7.out.below hb_)
        replace HVi := hid (HVi.out.below hb_)
        replace HX9 := hid (HX9.out.below hb_)
        replace HB := hid (HB.out.trans (hb_.mono HB.out.size))
        clear hb_ hr_ HC t0 t1 tl v0 v1 vl
        have t0 := HbD.out.cell 0
        have t1 := HbD.out.cell 1
        have tl := HbD.out.lt
        simp at t0 t1
        have v0 := HX5.out.cell 0
        have v1 := HX5.out.cell 1
        have vl := HX5.out.lt
        simp at v0 v1
        have HC := hid (yStat bn bn b yd W10 _ _ HbI.out HIy.out)
        go_wp2_with fail
        refine HC.out.mono ?_
        rintro e W11 ⟨r_, rfl, hr_, hb_⟩
        obtain rfl : r_ = true := hr_.2 (⟨by first | rfl | trivial, HAy.out.cells⟩)
        replace HbS := hid (HbS.out.below hb_)
        replace HbD := hid (HbD.out.below hb_)
        replace HaI := hid (HaI.out.below hb_)
        replace HbI := hid (HbI.out.below hb_)
        replace HX4 := hid (HX4.out.below hb_)
        replace HX5 := hid (HX5.out.below hb_)
        replace HIx := hid (HIx.out.below hb_)
        replace HIy := hid (HIy.out.below hb_)
        replace HTi := hid (HTi.out.below hb_)
        replace HX7 := hid (HX7.out.below hb_)
        replace HVi := hid (HVi.out.below hb_)
        replace HX9 := hid (HX9.out.below hb_)
        replace HB := hid (HB.out.trans (hb_.mono HB.out.size))
        clear hb_ hr_ HC t0 t1 tl v0 v1 vl
        clear HX7 HX9 HTi HTr HVi HVr HSame hee HEq HEr
        have b0 := HbD.out.cell 0
        have b1 := HbD.out.cell 1
        have bl := HbD.out.lt
        simp at b0 b1
        go_upto_region 8 with fail
        have HLo : Hid (w.heap.size + 1 < W11.heap.size) := HbD.out.lt
        have HX4L : Hid (b4 < W11.heap.size) := HX4.out.lt
        have HX5L : Hid (b5 < W11.heap.size) := HX5.out.lt
        have HIxL := hid (HIx.out.mono (S' := fun q => q < W11.heap.size) fun q _ h => h)
        have HIyL := hid (HIy.out.mono (S' := fun q => q < W11.heap.size) fun q _ h => h)
        obtain ⟨W12, h_⟩ : ∃ X, X = W11.alloc (.cells #[.int .i64 bn, .slice b.p b.n b.c] 24) := ⟨_, rfl⟩
        have hb_ : Below W11.heap.size W11 W12 := by rw [h_]; exact below1 _ _
        have HX11 : Hid (Box W12 W11.heap.size #[.int .i64 bn, .slice b.p b.n b.c] 24) := by show Box _ _ _ _; rw [h_]; exact Box.new _ _ _
        have HW_ := hid h_
        clear h_
        go_upto_region 9 with fail
        rw [← HW_.out]
        clear HW_
        replace HbS := hid (HbS.out.below hb_)
        replace HbD := hid (HbD.out.below hb_)
        replace HaI := hid (HaI.out.below hb_)
        replace HbI := hid (HbI.out.below hb_)
        replace HX4 := hid (HX4.out.below hb_)
        replace HX5 := hid (HX5.out.below hb_)
        replace HIx := hid (HIx.out.below hb_)
        replace HIy := hid (HIy.out.below hb_)
        replace HIxL := hid (HIxL.out.below hb_)
        replace HIyL := hid (HIyL.out.below hb_)
        replace HB := hid (HB.out.trans (hb_.mono HB.out.size))
        clear hb_
        clear b0 b1 bl
        have a0 := HbS.out.cell 0
        have a1 := HbS.out.cell 1
        have al := HbS.out.lt
        simp at a0 a1
        have g0 := HX11.out.cell 0
        have g1 := HX11.out.cell 1
        have gl := HX11.out.lt
        simp at g0 g1
        have gf0 := HX11.out.frozen 0
        obtain ⟨W13, h13⟩ : ∃ X, X = W12.setCell ⟨W11.heap.size, 0, none⟩ (.int .i64 an) := ⟨_, rfl⟩
        have hbt : But (fun q => q = W11.heap.size) W12 W13 := by rw [h13]; exact (But.one _ _).setAt _ _
        have HX12 : Hid (Box W13 W11.heap.size #[.int .i64 an, .slice b.p b.n b.c] 24) := by show Box _ _ _ _; rw [h13]; simpa using HX11.out.set 0 (.int .i64 an)
        have HW_ := hid h13
        clear h13
        go_upto_region 10 with fail
        rw [← HW_.out]
        clear HW_ gf0 a0 a1 al g0 g1 gl
        have hlo := HLo.out
        replace HbS := hid (HbS.out.but hbt (by omega))
        replace HbD := hid (HbD.out.but hbt (by omega))
        replace HX4 := hid (HX4.out.but hbt (by have := HX4L.out; omega))
        replace HX5 := hid (HX5.out.but hbt (by have := HX5L.out; omega))
        replace HaI := hid (HaI.out.but hbt (fun q hq _ e => by omega))
        replace HbI := hid (HbI.out.but hbt (fun q hq _ e => by omega))
        have HIx2 : Hid (LT.In elCell W13 (fun q => q < W11.heap.size) xs) := (HIxL.out).but hbt (fun q hq _ e => by omega)
        have HIy2 : Hid (LT.In elCell W13 (fun q => q < W11.heap.size) yd) := (HIyL.out).but hbt (fun q hq _ e => by omega)
        replace HIx : Hid (LT.In elCell W13 (fun _ => True) xs) := HIx2.out.mono fun _ _ _ => trivial
        replace HIy : Hid (LT.In elCell W13 (fun _ => True) yd) := HIy2.out.mono fun _ _ _ => trivial
        replace HB := hid (HB.out.trans (hbt.below HB.out.size (fun q hq => by omega)))
        clear hbt hlo HIx2 HIy2 HIxL HIyL HX4L HX5L HX11
        have b0 := HbD.out.cell 0
        have b1 := HbD.out.cell 1
        have bl := HbD.out.lt
        simp at b0 b1
        have g0 := HX12.out.cell 0
        have g1 := HX12.out.cell 1
        have gl := HX12.out.lt
        simp at g0 g1
        have HC := hid (diff_one2 bn b an b W13 (fun b => b < w.heap.size) HbI.out HNb.out.1 HNb.out.2 HbI.out HNa.out.1 HNa.out.2 (fun b hb => by have := HB.out.size; omega) HZb.out HZb.out)
        obtain ⟨er, her⟩ : ∃ er, er = diffE bn b an b := ⟨_, rfl⟩
        rw [← her] at HC
        have HEr := hid her
        clear her
        go_wp2_with fail
        refine HC.out.mono ?_
        rintro e W14 ⟨t, rfl, hti, htr, hb_⟩
        clear b0 b1 bl g0 g1 gl
        replace HbS := hid (HbS.out.below hb_)
        replace HbD := hid (HbD.out.below hb_)
        replace HaI := hid (HaI.out.below hb_)
        replace HbI := hid (HbI.out.below hb_)
        replace HX4 := hid (HX4.out.below hb_)
        replace HX5 := hid (HX5.out.below hb_)
        replace HIx := hid (HIx.out.below hb_)
        replace HIy := hid (HIy.out.below hb_)
        replace HX12 := hid (HX12.out.below hb_)
        replace HB := hid (HB.out.trans (hb_.mono HB.out.size))
        have HTi := hid hti
        have HTr := hid htr
        clear hb_ HC hti htr
        obtain ⟨W15, h_⟩ : ∃ X, X = W14.alloc (.cells #[.int .i64 t.num, .slice t.set.p t.set.n t.set.c, .slice t.gone.p t.gone.n t.gone.c] 29) := ⟨_, rfl⟩
        have hb_ : Below W14.heap.size W14 W15 := by rw [h_]; exact below1 _ _
        have HX7 : Hid (Box W15 W14.heap.size #[.int .i64 t.num, .slice t.set.p t.set.n t.set.c, .slice t.gone.p t.gone.n t.gone.c] 29) := by show Box _ _ _ _; rw [h_]; exact Box.new _ _ _
        have HW_ := hid h_
        clear h_
        go_upto_region 11 with fail
        rw [← HW_.out]
        clear HW_
        replace HbS := hid (HbS.out.below hb_)
        replace HbD := hid (HbD.out.below hb_)
        replace HaI := hid (HaI.out.below hb_)
        replace HbI := hid (HbI.out.below hb_)
        replace HX4 := hid (HX4.out.below hb_)
        replace HX5 := hid (HX5.out.below hb_)
        replace HIx := hid (HIx.out.below hb_)
        replace HIy := hid (HIy.out.below hb_)
        replace HX12 := hid (HX12.out.below hb_)
        replace HTi := hid (HTi.out.below hb_)
        replace HB := hid (HB.out.trans (hb_.mono HB.out.size))
        clear hb_
        have x0 := HX4.out.cell 0
        have x1 := HX4.out.cell 1
        have xl := HX4.out.lt
        simp at x0 x1
        have y0 := HX5.out.cell 0
        have y1 := HX5.out.cell 1
        have yl := HX5.out.lt
        simp at y0 y1
        have HSt : Hid (∀ X, Below W15.heap.size W15 X → Calls Try.prog 5 #[.agg #[.int .i64 bn, .slice yd.p yd.n yd.c]] X fun e w' => ∃ u : LT VT, e = .returned (.agg #[.int .i64 bn, .slice u.p u.n u.c]) ∧ LAlk VT.Alike yd u ∧ LT.In elCell w' (fun b => X.heap.size ≤ b) u ∧ Below X.heap.size X w') := fun X hX => rs8 bn yd X _ (HIy.out.below hX) (CSz.alike HAy.out HZb.out).n (CSz.alike HAy.out HZb.out).item
        have HDf : Hid (∀ (u : LT VT) (X : World) (Q : Nat → Prop), Below W15.heap.size W15 X → LAlk VT.Alike yd u → LT.In elCell X Q u → Calls Try.prog 7 #[.agg #[.int .i64 bn, .slice yd.p yd.n yd.c], .agg #[.int .i64 an, .slice u.p u.n u.c]] X fun e w' => ∃ v : DT, e = .returned (.tuple #[.agg #[.int .i64 v.num, .slice v.set.p v.set.n v.set.c, .slice v.gone.p v.gone.n v.gone.c], .int .i64 (er : Int)]) ∧ DT.In w' (fun k => X.heap.size ≤ k) v ∧ DAlk t v ∧ Below X.heap.size X w') := fun u X Q hX hal hu => by
          have al2 : LAlk VT.Alike b u := ⟨hal.n.trans HAy.out.n, fun j hj => (HAy.out.item j hj).trans (hal.item j (by rw [HAy.out.n]; exact hj))⟩
          have eq : diffE bn yd an u = er := by rw [HEr.out]; exact diffE_alike HAy.out al2
          refine (rdiff_any bn yd an u X (fun b => b < X.heap.size) ((HIy.out.below hX).mono fun b _ h => h) HNb.out.1 HNb.out.2 (hu.mono fun b _ h => h) HNa.out.1 HNa.out.2 (fun b h => h) (CSz.alike HAy.out HZb.out) (CSz.alike al2 HZb.out)).mono ?_
          rintro e w' ⟨v, rfl, hvi, hvz, hve, hb_⟩
          refine ⟨v, by rw [eq], hvi, ?_, hb_⟩
          exact DfR.same HAy.out al2 ((HbI.out.below (hX)).mono fun _ _ _ => trivial) ((HbI.out.below (hX)).mono fun _ _ _ => trivial) (HIy.out.below hX) (hu.mono fun _ _ _ => trivial) HTr.out ⟨hvz, hve⟩
        go_upto_region 11 with fail
        go_cut [14, 15] (fun s14 s15 wx => ∃ (bz : Nat) (v : DT), s14 = .pointer (some ⟨bz, 0, none⟩) ∧ s15 = .int .i64 (er : Int) ∧ Box wx bz #[.int .i64 v.num, .slice v.set.p v.set.n v.set.c, .slice v.gone.p v.gone.n v.gone.c] 29 ∧ DT.In wx (fun _ => True) v ∧ DAlk t v ∧ Below W15.heap.size W15 wx)
        case first =>
          have HBr0 : Hid (W15.heap.size ≤ W15.heap.size) := Nat.le_refl _
          refine wp_region_calmE 30 (fun wx => Below W15.heap.size W15 wx) [(0, false), (1, true), (2, false), (3, false)] (.two 4 true [(5, true), (6, true)] (.two 7 true [(8, true), (9, true), (10, true)] (.one 11 true [] (.one 12 false [(13, true)] .done)) 11 true [] (.one 7 true [(8, true), (9, true), (10, true)] (.one 12 false [(13, true)] .done))) 11 true [] (.one 4 true [(5, true), (6, true)] (.one 7 true [(8, true), (9, true), (10, true)] (.one 12 false [(13, true)] .done)))) (by kernel_rfl) (by kernel_rfl) (Below.refl _ _).drew ?_
          refine wpPre_e rfl rfl (fun K1 hK1 => ?_)
          apply Exists.intro
          refine And.intro (fun wx hx => ?_) ?_
          · have e0 := below_fact hx rfl x0
            have e1 := below_fact hx rfl x1
            have e2 := below_fact hx rfl y0
            have e3 := below_fact hx rfl y1
            go_simp
            try rfl
          go_simp
          refine hK1 _ ?_
          clear hK1 K1
          refine wpPre_e rfl rfl (fun K1 hK1 => ?_)
          apply Exists.intro
          refine And.intro (fun wx hx => ?_) ?_
          · go_simp
            try rfl
          go_simp
          refine hK1 _ ?_
          clear hK1 K1
          refine wpPre_e rfl rfl (fun K1 hK1 => ?_)
          apply Exists.intro
          refine And.intro (fun wx hx => ?_) ?_
          · have e0 := below_fact hx rfl x0
            have e1 := below_fact hx rfl x1
            have e2 := below_fact hx rfl y0
            have e3 := below_fact hx rfl y1
            go_simp
            try rfl
          go_simp
          refine hK1 _ ?_
          clear hK1 K1
          refine wpPre_e rfl rfl (fun K1 hK1 => ?_)
          apply Exists.intro
          refine And.intro (fun wx hx => ?_) ?_
          · have e0 := below_fact hx rfl x0
            have e1 := below_fact hx rfl x1
            have e2 := below_fact hx rfl y0
            have e3 := below_fact hx rfl y1
            go_simp
            try rfl
          go_simp
          refine hK1 _ ?_
          clear hK1 K1
          refine wpPre_nil ?_
          refine wpTr_two rfl rfl (fun K1 hK1 => ?_) (fun K1 hK1 => ?_)
          · refine step_call rfl 5 #[.tmp 72] _ rfl Try.f5 Try.func5 (by kernel_rfl) rfl #[.agg #[.int .i64 bn, .slice yd.p yd.n yd.c]] rfl _ (HSt.out _ ((Below.refl W15.heap.size W15).drew)) (fun e w1 h1 => ?_)
            obtain ⟨u, rfl, hal, hui, hb1⟩ := h1
            have HB1 : Hid (Below W15.heap.size W15 w1) := ((Below.refl W15.heap.size W15).drew).trans (hb1.mono ((Below.refl W15.heap.size W15).drew).size)
            have HAl := hid hal
            have HUi := hid hui
            clear hb1 hal hui
            refine ⟨_, rfl, ?_⟩
            go_simp
            refine hK1 _ _ (fun _ => HB1.out) ?_
            clear hK1 K1
            refine wpPre_e rfl rfl (fun K1 hK1 => ?_)
            apply Exists.intro
            refine And.intro (fun wx hx => ?_) ?_
            · go_simp
              try rfl
            go_simp
            refine hK1 _ ?_
            clear hK1 K1
            refine wpPre_e rfl rfl (fun K1 hK1 => ?_)
            apply Exists.intro
            refine And.intro (fun wx hx => ?_) ?_
            · go_simp
              try rfl
            go_simp
            refine hK1 _ ?_
            clear hK1 K1
            refine wpPre_nil ?_
            refine wpTr_two rfl rfl (fun K1 hK1 => ?_) (fun K1 hK1 => ?_)
            · refine step_call rfl 7 #[.tmp 69, .tmp 75] _ rfl Try.f7 Try.func7 (by kernel_rfl) rfl #[.agg #[.int .i64 bn, .slice yd.p yd.n yd.c], .agg #[.int .i64 an, .slice u.p u.n u.c]] rfl _ (HDf.out u _ _ (HB1.out) HAl.out (HUi.out)) (fun e w2 h2 => ?_)
              obtain ⟨v, rfl, hvi, hal2, hb2⟩ := h2
              have HB2 : Hid (Below W15.heap.size W15 w2) := (HB1.out).trans (hb2.mono (HB1.out).size)
              have HVi := hid hvi
              have HSm := hid hal2
              clear hb2 hvi hal2
              refine ⟨_, rfl, ?_⟩
              go_simp
              refine hK1 _ _ (fun _ => HB2.out) ?_
              clear hK1 K1
              refine wpPre_e rfl rfl (fun K1 hK1 => ?_)
              apply Exists.intro
              refine And.intro (fun wx hx => ?_) ?_
              · go_simp
                try rfl
              go_simp
              refine hK1 _ ?_
              clear hK1 K1
              refine wpPre_e rfl rfl (fun K1 hK1 => ?_)
              apply Exists.intro
              refine And.intro (fun wx hx => ?_) ?_
              · go_simp
                try rfl
              go_simp
              refine hK1 _ ?_
              clear hK1 K1
              refine wpPre_e rfl rfl (fun K1 hK1 => ?_)
              apply Exists.intro
              refine And.intro (fun wx hx => ?_) ?_
              · go_simp
                try rfl
              go_simp
              refine hK1 _ ?_
              clear hK1 K1
              refine wpPre_nil ?_
              refine wpTr_e rfl (fun K1 hK1 => ?_)
              go_simp
              refine hK1 _ _ (fun _ => (HB2.out).trans ((below1 w2 _).mono (HB2.out).size)) ?_
              clear hK1 K1
              refine wpPre_nil ?_
              refine wpTr_e rfl (fun K1 hK1 => ?_)
              go_simp
              refine hK1 _ _ (fun h => by cases h) ?_
              clear hK1 K1
              refine wpPre_e rfl rfl (fun K1 hK1 => ?_)
              apply Exists.intro
              refine And.intro (fun wx hx => ?_) ?_
              · go_simp
                try rfl
              go_simp
              refine hK1 _ ?_
              clear hK1 K1
              refine wpPre_nil ?_
              refine wpTr_done ?_
              go_wp2_with fail
              go_meet
              exact ⟨w2.heap.size, v, rfl, rfl, Box.new _ _ _, (HVi.out.below (below1 _ _)).mono fun _ _ _ => trivial, HSm.out, HB2.out.trans ((below1 w2 _).mono HB2.out.size)⟩
            · go_simp
              obtain ⟨V, hV⟩ : ∃ V, V = (w1.alloc (.cells #[.int .i64 0, .slice none 0 0, .slice none 0 0] 29)) := ⟨_, rfl⟩
              have hbV : Below w1.heap.size w1 V := by rw [hV]; exact (below1 _ _)
              have HBx : Hid (Box V w1.heap.size #[.int .i64 0, .slice none 0 0, .slice none 0 0] 29) := by show Box _ _ _ _; rw [hV]; exact Box.new w1 _ _
              have HBV : Hid (Below W15.heap.size W15 V) := (HB1.out).trans (hbV.mono (HB1.out).size)
              replace HUi := hid (HUi.out.below hbV)
              rw [← hV]
              clear hV hbV
              refine hK1 _ _ (fun _ => HBV.out) ?_
              clear hK1 K1
              refine wpPre_nil ?_
              refine wpTr_e rfl (fun K1 hK1 => ?_)
              refine step_call rfl 7 #[.tmp 69, .tmp 75] _ rfl Try.f7 Try.func7 (by kernel_rfl) rfl #[.agg #[.int .i64 bn, .slice yd.p yd.n yd.c], .agg #[.int .i64 an, .slice u.p u.n u.c]] rfl _ (HDf.out u _ _ (HBV.out) HAl.out (HUi.out)) (fun e w2 h2 => ?_)
              obtain ⟨v, rfl, hvi, hal2, hb2⟩ := h2
              have HB2 : Hid (Below W15.heap.size W15 w2) := (HBV.out).trans (hb2.mono (HBV.out).size)
              have HVi := hid hvi
              have HSm := hid hal2
              have bq := (HBx.out).below hb2
              have HBx2 := hid bq
              have q0 := bq.cell 0
              have q1 := bq.cell 1
              have q2 := bq.cell 2
              have g0 := bq.frozen 0
              have g1 := bq.frozen 1
              have g2 := bq.frozen 2
              have ql := bq.lt
              simp at q0 q1 q2
              have HBl : Hid (w1.heap.size < V.heap.size) := (HBx.out).lt
              clear bq
              clear hb2 hvi hal2
              refine ⟨_, rfl, ?_⟩
              go_simp
              refine hK1 _ _ (fun _ => HB2.out) ?_
              clear hK1 K1
              refine wpPre_e rfl rfl (fun K1 hK1 => ?_)
              apply Exists.intro
              refine And.intro (fun wx hx => ?_) ?_
              · go_simp
                try rfl
              go_simp
              refine hK1 _ ?_
              clear hK1 K1
              refine wpPre_e rfl rfl (fun K1 hK1 => ?_)
              apply Exists.intro
              refine And.intro (fun wx hx => ?_) ?_
              · go_simp
                try rfl
              go_simp
              refine hK1 _ ?_
              clear hK1 K1
              refine wpPre_e rfl rfl (fun K1 hK1 => ?_)
              apply Exists.intro
              refine And.intro (fun wx hx => ?_) ?_
              · go_simp
                try rfl
              go_simp
              refine hK1 _ ?_
              clear hK1 K1
              refine wpPre_nil ?_
              refine wpTr_e rfl (fun K1 hK1 => ?_)
              go_simp
              refine hK1 _ _ (fun h => by cases h) ?_
              clear hK1 K1
              refine wpPre_e rfl rfl (fun K1 hK1 => ?_)
              apply Exists.intro
              refine And.intro (fun wx hx => ?_) ?_
              · go_simp
                try rfl
              go_simp
              refine hK1 _ ?_
              clear hK1 K1
              refine wpPre_nil ?_
              refine wpTr_done ?_
              go_wp2_with fail
              go_meet
              (have hbt : But (fun q => q = w1.heap.size) w2 (((w2.setCell ⟨w1.heap.size, 0, none⟩ (.int .i64 v.num)).setCell ⟨w1.heap.size, 1, none⟩ (.slice v.set.p v.set.n v.set.c)).setCell ⟨w1.heap.size, 2, none⟩ (.slice v.gone.p v.gone.n v.gone.c)) := (((But.one _ _).setAt 0 _).setAt 1 _).setAt 2 _; have hbl := HBl.out; have hlow := HB1.out.size; exact ⟨w1.heap.size, v, rfl, rfl, by simpa using ((HBx2.out.set 0 (.int .i64 v.num)).set 1 (.slice v.set.p v.set.n v.set.c)).set 2 (.slice v.gone.p v.gone.n v.gone.c), (HVi.out.kept hbt.size (fun q hq hl => hbt.block q hl (by omega))).mono fun _ _ _ => trivial, HSm.out, HB2.out.trans (hbt.below HB2.out.size (fun q hq => by omega))⟩)
          · go_simp
            obtain ⟨V, hV⟩ : ∃ V, V = (W15.alloc (.cells #[.int .i64 0, .slice none 0 0, .slice none 0 0] 29)).drew := ⟨_, rfl⟩
            have hbV : Below W15.heap.size W15 V := by rw [hV]; exact (below1 _ _).drew
            have HBx : Hid (Box V W15.heap.size #[.int .i64 0, .slice none 0 0, .slice none 0 0] 29) := by show Box _ _ _ _; rw [hV]; exact Box.new W15 _ _
            have HBV : Hid (Below W15.heap.size W15 V) := hbV
            rw [← hV]
            clear hV hbV
            refine hK1 _ _ (fun _ => HBV.out) ?_
            clear hK1 K1
            refine wpPre_nil ?_
            refine wpTr_e rfl (fun K1 hK1 => ?_)
            refine step_call rfl 5 #[.tmp 72] _ rfl Try.f5 Try.func5 (by kernel_rfl) rfl #[.agg #[.int .i64 bn, .slice yd.p yd.n yd.c]] rfl _ (HSt.out _ (HBV.out)) (fun e w1 h1 => ?_)
            obtain ⟨u, rfl, hal, hui, hb1⟩ := h1
            have HB1 : Hid (Below W15.heap.size W15 w1) := (HBV.out).trans (hb1.mono (HBV.out).size)
            have HAl := hid hal
            have HUi := hid hui
            have HBx1 := hid ((HBx.out).below hb1)
            clear hb1 hal hui
            refine ⟨_, rfl, ?_⟩
            go_simp
            refine hK1 _ _ (fun _ => HB1.out) ?_
            clear hK1 K1
            refine wpPre_e rfl rfl (fun K1 hK1 => ?_)
            apply Exists.intro
            refine And.intro (fun wx hx => ?_) ?_
            · go_simp
              try rfl
            go_simp
            refine hK1 _ ?_
            clear hK1 K1
            refine wpPre_e rfl rfl (fun K1 hK1 => ?_)
            apply Exists.intro
            refine And.intro (fun wx hx => ?_) ?_
            · go_simp
              try rfl
            go_simp
            refine hK1 _ ?_
            clear hK1 K1
            refine wpPre_nil ?_
            refine wpTr_e rfl (fun K1 hK1 => ?_)
            refine step_call rfl 7 #[.tmp 69, .tmp 75] _ rfl Try.f7 Try.func7 (by kernel_rfl) rfl #[.agg #[.int .i64 bn, .slice yd.p yd.n yd.c], .agg #[.int .i64 an, .slice u.p u.n u.c]] rfl _ (HDf.out u _ _ (HB1.out) HAl.out (HUi.out)) (fun e w2 h2 => ?_)
            obtain ⟨v, rfl, hvi, hal2, hb2⟩ := h2
            have HB2 : Hid (Below W15.heap.size W15 w2) := (HB1.out).trans (hb2.mono (HB1.out).size)
            have HVi := hid hvi
            have HSm := hid hal2
            have bq := (HBx1.out).below hb2
            have HBx2 := hid bq
            have q0 := bq.cell 0
            have q1 := bq.cell 1
            have q2 := bq.cell 2
            have g0 := bq.frozen 0
            have g1 := bq.frozen 1
            have g2 := bq.frozen 2
            have ql := bq.lt
            simp at q0 q1 q2
            have HBl : Hid (W15.heap.size < w1.heap.size) := (HBx1.out).lt
            clear bq
            clear hb2 hvi hal2
            refine ⟨_, rfl, ?_⟩
            go_simp
            refine hK1 _ _ (fun _ => HB2.out) ?_
            clear hK1 K1
            refine wpPre_e rfl rfl (fun K1 hK1 => ?_)
            apply Exists.intro
            refine And.intro (fun wx hx => ?_) ?_
            · go_simp
              try rfl
            go_simp
            refine hK1 _ ?_
            clear hK1 K1
            refine wpPre_e rfl rfl (fun K1 hK1 => ?_)
            apply Exists.intro
            refine And.intro (fun wx hx => ?_) ?_
            · go_simp
              try rfl
            go_simp
            refine hK1 _ ?_
            clear hK1 K1
            refine wpPre_e rfl rfl (fun K1 hK1 => ?_)
            apply Exists.intro
            refine And.intro (fun wx hx => ?_) ?_
            · go_simp
              try rfl
            go_simp
            refine hK1 _ ?_
            clear hK1 K1
            refine wpPre_nil ?_
            refine wpTr_e rfl (fun K1 hK1 => ?_)
            go_simp
            refine hK1 _ _ (fun h => by cases h) ?_
            clear hK1 K1
            refine wpPre_e rfl rfl (fun K1 hK1 => ?_)
            apply Exists.intro
            refine And.intro (fun wx hx => ?_) ?_
            · go_simp
              try rfl
            go_simp
            refine hK1 _ ?_
            clear hK1 K1
            refine wpPre_nil ?_
            refine wpTr_done ?_
            go_wp2_with fail
            go_meet
            (have hbt : But (fun q => q = W15.heap.size) w2 (((w2.setCell ⟨W15.heap.size, 0, none⟩ (.int .i64 v.num)).setCell ⟨W15.heap.size, 1, none⟩ (.slice v.set.p v.set.n v.set.c)).setCell ⟨W15.heap.size, 2, none⟩ (.slice v.gone.p v.gone.n v.gone.c)) := (((But.one _ _).setAt 0 _).setAt 1 _).setAt 2 _; have hbl := HBl.out; have hlow := HBr0.out; exact ⟨W15.heap.size, v, rfl, rfl, by simpa using ((HBx2.out.set 0 (.int .i64 v.num)).set 1 (.slice v.set.p v.set.n v.set.c)).set 2 (.slice v.gone.p v.gone.n v.gone.c), (HVi.out.kept hbt.size (fun q hq hl => hbt.block q hl (by omega))).mono fun _ _ _ => trivial, HSm.out, HB2.out.trans (hbt.below HB2.out.size (fun q hq => by omega))⟩)
        case rest =>
          obtain ⟨bz, v, rfl, rfl, bxv, hvi, hsm, hbel⟩ := hcut
          obtain ⟨W16, hW16⟩ : ∃ X, X = wc := ⟨_, rfl⟩
          subst hW16
          replace HbS := hid (HbS.out.below hbel)
          replace HbD := hid (HbD.out.below hbel)
          replace HaI := hid (HaI.out.below hbel)
          replace HbI := hid (HbI.out.below hbel)
          replace HX4 := hid (HX4.out.below hbel)
          replace HX5 := hid (HX5.out.below hbel)
          replace HIx := hid (HIx.out.below hbel)
          replace HIy := hid (HIy.out.below hbel)
          replace HX12 := hid (HX12.out.below hbel)
          replace HTi := hid (HTi.out.below hbel)
          replace HX7 := hid (HX7.out.below hbel)
          replace HB := hid (HB.out.trans (hbel.mono HB.out.size))
          have HX9 := hid bxv
          have HVi := hid hvi
          have HSame := hid hsm
          clear bxv hvi hsm hbel HSt HDf x0 x1 xl y0 y1 yl
          have hee : ((er : Int) == (er : Int)) = true := by simp
          have t0 := HX7.out.cell 0
          have t1 := HX7.out.cell 1
          have t2 := HX7.out.cell 2
          have tl := HX7.out.lt
          simp at t0 t1 t2
          have v0 := HX9.out.cell 0
          have v1 := HX9.out.cell 1
          have v2 := HX9.out.cell 2
          have vl := HX9.out.lt
          simp at v0 v1 v2
          have HC := hid (yDelta t v W16 _ _ HTi.out HVi.out)
          go_wp2_with fail
          refine HC.out.mono ?_
          rintro e W17 ⟨r_, rfl, hr_, hb_⟩
          obtain rfl : r_ = true := hr_.2 (HSame.out)
          replace HbS := hid (HbS.out.below hb_)
          replace HbD := hid (HbD.out.below hb_)
          replace HaI := hid (HaI.out.below hb_)
          replace HbI := hid (HbI.out.below hb_)
          replace HX4 := hid (HX4.out.below hb_)
          replace HX5 := hid (HX5.out.below hb_)
          replace HIx := hid (HIx.out.below hb_)
          replace HIy := hid (HIy.out.below hb_)
          replace HX12 := hid (HX12.out.below hb_)
          replace HTi := hid (HTi.out.below hb_)
          replace HX7 := hid (HX7.out.below hb_)
          replace HX9 := hid (HX9.out.below hb_)
          replace HVi := hid (HVi.out.below hb_)
          replace HB := hid (HB.out.trans (hb_.mono HB.out.size))
          clear hb_ hr_ HC t0 t1 t2 tl v0 v1 v2 vl
          have t0 := HbD.out.cell 0
          have t1 := HbD.out.cell 1
          have tl := HbD.out.lt
          simp at t0 t1
          have v0 := HX5.out.cell 0
          have v1 := HX5.out.cell 1
          have vl := HX5.out.lt
          simp at v0 v1
          have HC := hid (yStat bn bn b yd W17 _ _ HbI.out HIy.out)
          go_wp2_with fail
          refine HC.out.mono ?_
          rintro e W18 ⟨r_, rfl, hr_, hb_⟩
          obtain rfl : r_ = true := hr_.2 (⟨by first | rfl | trivial, HAy.out.cells⟩)
          replace HbS := hid (HbS.out.below hb_)
          replace HbD := hid (HbD.out.below hb_)
          replace HaI := hid (HaI.out.below hb_)
          replace HbI := hid (HbI.out.below hb_)
          replace HX4 := hid (HX4.out.below hb_)
          replace HX5 := hid (HX5.out.below hb_)
          replace HIx := hid (HIx.out.below hb_)
          replace HIy := hid (HIy.out.below hb_)
          replace HX12 := hid (HX12.out.below hb_)
          replace HTi := hid (HTi.out.below hb_)
          replace HX7 := hid (HX7.out.below hb_)
          replace HX9 := hid (HX9.out.below hb_)
          replace HVi := hid (HVi.out.below hb_)
          replace HB := hid (HB.out.trans (hb_.mono HB.out.size))
          clear hb_ hr_ HC t0 t1 tl v0 v1 vl
          go_wp2
          exact bodyPost_ret (v := .bool true) (by simp [results, Try.results3, go_sem]) rfl ⟨rfl, HB.out⟩
end Go.Proofs.Ytpknlbibijheaab
