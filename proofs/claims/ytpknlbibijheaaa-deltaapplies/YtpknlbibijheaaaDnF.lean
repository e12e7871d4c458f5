import Derived.Test.YtpknlbibijheaaaPack35
namespace Go.Proofs.Ytpknlbibijheaaa
open Go.RowKit
set_option maxRecDepth 8000
def oneS (b : Nat) (sn : Int) (s : LT VT) : LT (Int × LT VT) := ⟨some ⟨b, 0, none⟩, 1, 1, fun _ => (sn, s)⟩
theorem oneS_in {W : World} {b : Nat} {sn : Int} {s : LT VT} {S : Nat → Prop} (h : Box W b #[.int .i64 sn, .slice s.p s.n s.c] 24) (hb : S b) (hs : elS.In W S (sn, s)) : LT.In elS W S (oneS b sn s) := by
  refine ⟨fun _ => ⟨b, 0, rfl, hb, h.lt, fun j hj r u hu => ?_⟩, fun j _ => hs, by show 1 ≤ 1; omega, by show 1 ≤ _; omega, by show 1 ≤ maxLen; simp [maxLen], fun h => by cases h⟩
  have hj1 : j < 1 := hj
  obtain rfl : j = 0 := by omega
  match r, hu with
  | 0, hu => obtain rfl : _ = u := Option.some.inj hu; exact h.cell 0
  | 1, hu => obtain rfl : _ = u := Option.some.inj hu; exact h.cell 1
def oneD (b : Nat) (d : DT) : LT DT := ⟨some ⟨b, 0, none⟩, 1, 1, fun _ => d⟩
theorem oneD_in {W : World} {b : Nat} {d : DT} {S : Nat → Prop} (h : Box W b #[.int .i64 d.num, .slice d.set.p d.set.n d.set.c, .slice d.gone.p d.gone.n d.gone.c] 30) (hb : S b) (hd : DT.In W S d) : LT.In elD W S (oneD b d) := by
  refine ⟨fun _ => ⟨b, 0, rfl, hb, h.lt, fun j hj r u hu => ?_⟩, fun j _ => hd, by show 1 ≤ 1; omega, by show 1 ≤ _; omega, by show 1 ≤ maxLen; simp [maxLen], fun h => by cases h⟩
  have hj1 : j < 1 := hj
  obtain rfl : j = 0 := by omega
  match r, hu with
  | 0, hu => obtain rfl : _ = u := Option.some.inj hu; exact h.cell 0
  | 1, hu => obtain rfl : _ = u := Option.some.inj hu; exact h.cell 1
  | 2, hu => obtain rfl : _ = u := Option.some.inj hu; exact h.cell 2
set_option maxHeartbeats 16000000 in
theorem deltaApplies_walk (sn : Int) (s : LT VT) (d : DT) (w : World) (hs : LT.In elCell w (fun b => b < w.heap.size) s) (hs0 : -9223372036854775808 ≤ sn) (hs1 : sn ≤ 9223372036854775807) (hd : DT.In w (fun b => b < w.heap.size) d) :
    Calls Try.prog 7 #[.agg #[.int .i64 sn, .slice s.p s.n s.c], .agg #[.int .i64 d.num, .slice d.set.p d.set.n d.set.c, .slice d.gone.p d.gone.n d.gone.c]] w fun e w' => e = .returned (.bool true) ∧ Below w.heap.size w w' := by
  obtain ⟨W0, hW0⟩ : ∃ X, X = (w.alloc (.cells #[.int .i64 sn, .slice s.p s.n s.c] 24)).alloc (.cells #[.int .i64 d.num, .slice d.set.p d.set.n d.set.c, .slice d.gone.p d.gone.n d.gone.c] 30) := ⟨_, rfl⟩
  have hB0 : Below w.heap.size w W0 := by rw [hW0]; exact below2 _ _ _
  have bS : Box W0 w.heap.size #[.int .i64 sn, .slice s.p s.n s.c] 24 := by rw [hW0]; exact (Box.new w _ _).below (below1 _ _)
  have bD : Box W0 (w.heap.size + 1) #[.int .i64 d.num, .slice d.set.p d.set.n d.set.c, .slice d.gone.p d.gone.n d.gone.c] 30 := by
    have h1 := Box.new (w.alloc (.cells #[.int .i64 sn, .slice s.p s.n s.c] 24)) #[.int .i64 d.num, .slice d.set.p d.set.n d.set.c, .slice d.gone.p d.gone.n d.gone.c] 30
    rw [World.size_alloc] at h1
    rw [hW0]
    exact h1
  have HW0 := hid hW0
  have HB := hid hB0
  have HbS := hid bS
  have HbD := hid bD
  have HsI := hid (hs.below hB0)
  have HdI := hid (hd.below hB0)
  have HN0 := hid (And.intro hs0 hs1)
  have a0 := bS.cell 0
  have a1 := bS.cell 1
  have al := bS.lt
  simp at a0 a1
  clear hW0 hB0 bS bD hs hd hs0 hs1
  obtain ⟨V0, hV0⟩ : ∃ X, X = W0.alloc (.cells #[.int .i64 sn, .slice s.p s.n s.c] 24) := ⟨_, rfl⟩
  have hbV : Below W0.heap.size W0 V0 := by rw [hV0]; exact below1 _ _
  have bV : Box V0 W0.heap.size #[.int .i64 sn, .slice s.p s.n s.c] 24 := by rw [hV0]; exact Box.new _ _ _
  have HSz := hid (szStates_any (oneS W0.heap.size sn s) V0 (fun b => b < V0.heap.size) (oneS_in bV bV.lt ⟨HN0.out, (HsI.out.below hbV).mono fun b _ h => h⟩) (fun _ h => h))
  unfold oneS at HSz
  dsimp only at HSz
  replace HbS := hid (HbS.out.below hbV)
  replace HbD := hid (HbD.out.below hbV)
  replace HsI := hid (HsI.out.below hbV)
  replace HdI := hid (HdI.out.below hbV)
  replace HB := hid (HB.out.trans (hbV.mono HB.out.size))
  have HV0 := hid hV0
  clear hV0 hbV bV
  go_enter Try.func7, Try.ntmps7
  go_upto_region 1 with fail
  rw [← HW0.out]
  go_wp2_with fail
  rw [← HV0.out]
  refine HSz.out.mono ?_
  rintro e W1 ⟨q, rfl, hq, hb1⟩
  replace HbS := hid (HbS.out.below hb1)
  replace HbD := hid (HbD.out.below hb1)
  replace HsI := hid (HsI.out.below hb1)
  replace HdI := hid (HdI.out.below hb1)
  replace HB := hid (HB.out.trans (hb1.mono HB.out.size))
  have HQ := hid hq
  clear hb1 hq HSz HV0 HW0 a0 a1 al
  cases q with
  | false =>
    go_wp2
    exact bodyPost_ret (v := .bool true) (by simp [results, Try.results7, go_sem]) rfl ⟨rfl, HB.out⟩
  | true =>
    have HZs : Hid (CSz s) := HQ.out rfl 0 (by show 0 < 1; omega)
    obtain ⟨V1, hV1⟩ : ∃ X, X = W1.alloc (.cells #[.int .i64 d.num, .slice d.set.p d.set.n d.set.c, .slice d.gone.p d.gone.n d.gone.c] 30) := ⟨_, rfl⟩
    have hbV : Below W1.heap.size W1 V1 := by rw [hV1]; exact below1 _ _
    have bV : Box V1 W1.heap.size #[.int .i64 d.num, .slice d.set.p d.set.n d.set.c, .slice d.gone.p d.gone.n d.gone.c] 30 := by rw [hV1]; exact Box.new _ _ _
    have HSz := hid (szDeltas_any (oneD W1.heap.size d) V1 (fun b => b < V1.heap.size) (oneD_in bV bV.lt ((HdI.out.below hbV).mono fun b _ h => h)) (fun _ h => h))
    unfold oneD at HSz
    dsimp only at HSz
    have b0 := HbD.out.cell 0
    have b1 := HbD.out.cell 1
    have b2 := HbD.out.cell 2
    have bl := HbD.out.lt
    simp at b0 b1 b2
    replace HbS := hid (HbS.out.below hbV)
    replace HbD := hid (HbD.out.below hbV)
    replace HsI := hid (HsI.out.below hbV)
    replace HdI := hid (HdI.out.below hbV)
    replace HB := hid (HB.out.trans (hbV.mono HB.out.size))
    have HV1 := hid hV1
    clear hV1 hbV bV
    go_wp2_with fail
    rw [← HV1.out]
    refine HSz.out.mono ?_
    rintro e W2 ⟨q, rfl, hq, hb1⟩
    replace HbS := hid (HbS.out.below hb1)
    replace HbD := hid (HbD.out.below hb1)
    replace HsI := hid (HsI.out.below hb1)
    replace HdI := hid (HdI.out.below hb1)
    replace HB := hid (HB.out.trans (hb1.mono HB.out.size))
    have HQ2 := hid hq
    clear hb1 hq HSz HV1 b0 b1 b2 bl
    cases q with
    | false =>
      go_wp2
      exact bodyPost_ret (v := .bool true) (by simp [results, Try.results7, go_sem]) rfl ⟨rfl, HB.out⟩
    | true =>
      have HZd : Hid (DSz d) := HQ2.out rfl 0 (by show 0 < 1; omega)
      clear HQ HQ2
      have a0 := HbS.out.cell 0
      have a1 := HbS.out.cell 1
      have al := HbS.out.lt
      simp at a0 a1
      have b0 := HbD.out.cell 0
      have b1 := HbD.out.cell 1
      have b2 := HbD.out.cell 2
      have bl := HbD.out.lt
      simp at b0 b1 b2
      go_upto_region 3 with fail
      go_cut [5, 6] (fun s5 s6 wx => ∃ (b4 b5 : Nat) (xs : LT VT) (yd : DT), s5 = .pointer (some ⟨b4, 0, none⟩) ∧ s6 = .pointer (some ⟨b5, 0, none⟩) ∧ Box wx b4 #[.int .i64 sn, .slice xs.p xs.n xs.c] 24 ∧ Box wx b5 #[.int .i64 yd.num, .slice yd.set.p yd.set.n yd.set.c, .slice yd.gone.p yd.gone.n yd.gone.c] 30 ∧ LAlk VT.Alike s xs ∧ DT.Alike d yd ∧ LT.In elCell wx (fun _ => True) xs ∧ DT.In wx (fun _ => True) yd ∧ Below W2.heap.size W2 wx)
      case first =>
        refine wp_region_inv (by kernel_rfl) (fun (D_ : Nat → Prop) a wx => ∃ (x0 x1 x2 x3 x4 x5 : Value) (b4 b5 : Nat) (xs : LT VT) (yd : DT), a = { tmps := #[.agg #[.int .i64 sn, .slice s.p s.n s.c], .agg #[.int .i64 d.num, .slice d.set.p d.set.n d.set.c, .slice d.gone.p d.gone.n d.gone.c], .pointer (some ⟨w.heap.size, 0, none⟩), .pointer (some ⟨w.heap.size + 1, 0, none⟩), .bool false, x4, x5, undef, undef, undef, undef, undef, .agg #[.int .i64 sn, .slice s.p s.n s.c], .slice (some ⟨W0.heap.size, 0, none⟩) 1 1, .bool true, .bool false, .bool false, .agg #[.int .i64 d.num, .slice d.set.p d.set.n d.set.c, .slice d.gone.p d.gone.n d.gone.c], .slice (some ⟨W1.heap.size, 0, none⟩) 1 1, .bool true, .bool false, .bool false, x0, x1, x2, x3, undef, undef, undef, undef, undef, undef, undef, undef, undef, undef, undef, undef, undef, undef, undef, undef, undef, undef, undef, undef, undef, undef, undef, undef, undef, undef, undef, undef, undef, undef, undef, undef, undef, undef, undef, undef, undef, undef], defers := [] } ∧ R3 W2 sn s d D_ wx x0 x1 x2 x3 x4 x5 b4 b5 xs yd) ?ext (by kernel_rfl) ?h0 ?step ?fin
        case ext =>
          intro D_ D' a wx hD h
          have e : D_ = D' := funext fun j => propext (hD j)
          rw [← e]; exact h
        case h0 =>
          intro D_ hD
          exact ⟨undef, undef, undef, undef, undef, undef, 0, 0, s, d, rfl, R3.start hD⟩
        case step =>
          rintro D_ a wx ⟨x0, x1, x2, x3, x4, x5, b4, b5, xs, yd, rfl, hR⟩ i o ho hnd hdep
          have hi : i < 8 := (Array.getElem?_eq_some_iff.1 ho).1
          have HRr := hid hR
          have cS := HbS.out.below (hR.bel.mono (Nat.le_refl _))
          have cD := HbD.out.below (hR.bel.mono (Nat.le_refl _))
          have HcS := hid cS
          have HcD := hid cD
          clear cS cD
          obtain rfl | rfl | rfl | rfl | rfl | rfl | rfl | rfl : i = 0 ∨ i = 1 ∨ i = 2 ∨ i = 3 ∨ i = 4 ∨ i = 5 ∨ i = 6 ∨ i = 7 := by omega
          · obtain rfl := Option.some.inj ho
            have c0 := HcS.out.cell 0
            have c1 := HcS.out.cell 1
            have cl := HcS.out.lt
            simp at c0 c1
            clear hR
            refine wpOp_e rfl rfl (fun K1 hK1 => ?_)
            go_simp
            exact hK1 _ _ ⟨_, _, _, _, _, _, _, _, _, _, rfl, HRr.out.load0⟩
          · obtain rfl := Option.some.inj ho
            have d0 : D_ 0 := hdep { on := 0, ground := Ground.data } (by simp) rfl
            have h6 : ¬ D_ 6 := fun h => hnd ((HRr.out.o6 h).2.1)
            obtain rfl := hR.f0 d0
            have HSt := hid (rs8 sn s wx (fun b => b < w.heap.size) (HsI.out.below (hR.bel.mono (Nat.le_refl _))) HZs.out.n HZs.out.item)
            clear hR
            refine wpOp_e rfl rfl (fun K1 hK1 => ?_)
            refine step_callT 22 (.func 22) #[.tmp 22] _ rfl rfl Try.f22 Try.func22 (by kernel_rfl) rfl #[.agg #[.int .i64 sn, .slice s.p s.n s.c]] rfl _ HSt.out (fun e w4 h4 => ?_)
            obtain ⟨us, rfl, ha4, hu4, hb4⟩ := h4
            have HX := hid (HRr.out.call1 h6 hb4 ha4 hu4)
            clear ha4 hu4 hb4
            refine ⟨_, rfl, ?_⟩
            go_simp
            exact hK1 _ _ ⟨_, _, _, _, _, _, _, _, _, _, rfl, HX.out⟩
          · obtain rfl := Option.some.inj ho
            have c0 := HcD.out.cell 0
            have c1 := HcD.out.cell 1
            have c2 := HcD.out.cell 2
            have cl := HcD.out.lt
            simp at c0 c1 c2
            clear hR
            refine wpOp_e rfl rfl (fun K1 hK1 => ?_)
            go_simp
            exact hK1 _ _ ⟨_, _, _, _, _, _, _, _, _, _, rfl, HRr.out.load2⟩
          · obtain rfl := Option.some.inj ho
            have d2 : D_ 2 := hdep { on := 2, ground := Ground.data } (by simp) rfl
            have d1 : D_ 1 := hdep { on := 1, ground := Ground.chain } (by simp) rfl
            have h7 : ¬ D_ 7 := fun h => hnd ((HRr.out.o7 h).2)
            obtain rfl := hR.f2 d2
            have HSt := hid (rcopy_any d wx (fun b => b < w.heap.size) (HdI.out.below (hR.bel.mono (Nat.le_refl _))) HZd.out)
            clear hR
            refine wpOp_e rfl rfl (fun K1 hK1 => ?_)
            refine step_callT 23 (.func 23) #[.tmp 24] _ rfl rfl Try.f23 Try.func23 (by kernel_rfl) rfl #[.agg #[.int .i64 d.num, .slice d.set.p d.set.n d.set.c, .slice d.gone.p d.gone.n d.gone.c]] rfl _ HSt.out (fun e w4 h4 => ?_)
            obtain ⟨us, rfl, ha4, hu4, hb4⟩ := h4
            have HX := hid (HRr.out.call3 h7 hb4 ha4 hu4)
            clear ha4 hu4 hb4
            refine ⟨_, rfl, ?_⟩
            go_simp
            exact hK1 _ _ ⟨_, _, _, _, _, _, _, _, _, _, rfl, HX.out⟩
          · obtain rfl := Option.some.inj ho
            clear hR
            refine wpOp_e rfl rfl (fun K1 hK1 => ?_)
            go_simp
            exact hK1 _ _ ⟨_, _, _, _, _, _, _, _, _, _, rfl, HRr.out.alloc4 hnd⟩
          · obtain rfl := Option.some.inj ho
            clear hR
            refine wpOp_e rfl rfl (fun K1 hK1 => ?_)
            go_simp
            exact hK1 _ _ ⟨_, _, _, _, _, _, _, _, _, _, rfl, HRr.out.alloc5 hnd⟩
          · obtain rfl := Option.some.inj ho
            have d4 : D_ 4 := hdep { on := 4, ground := Ground.data } (by simp) rfl
            have d1 : D_ 1 := hdep { on := 1, ground := Ground.data } (by simp) rfl
            have d3 : D_ 3 := hdep { on := 3, ground := Ground.chain } (by simp) rfl
            have d5 : D_ 5 := hdep { on := 5, ground := Ground.phase } (by simp) rfl
            have h7 : ¬ D_ 7 := fun h => hnd ((HRr.out.o7 h).1)
            obtain ⟨rfl, _, _⟩ := hR.f1 d1
            obtain ⟨rfl, _, l4⟩ := hR.p4 d4
            have bx := hR.z4 d4 hnd
            have q0 := bx.cell 0
            have q1 := bx.cell 1
            have g0 := bx.frozen 0
            have g1 := bx.frozen 1
            simp at q0 q1
            clear hR bx
            refine wpOp_e rfl rfl (fun K1 hK1 => ?_)
            go_simp
            exact hK1 _ _ ⟨_, _, _, _, _, _, _, _, _, _, rfl, HRr.out.store6 d4 d5 d1 d3 hnd h7⟩
          · obtain rfl := Option.some.inj ho
            have d5 : D_ 5 := hdep { on := 5, ground := Ground.data } (by simp) rfl
            have d3 : D_ 3 := hdep { on := 3, ground := Ground.data } (by simp) rfl
            have d6 : D_ 6 := hdep { on := 6, ground := Ground.chain } (by simp) rfl
            have d1 : D_ 1 := hdep { on := 1, ground := Ground.phase } (by simp) rfl
            have d4 : D_ 4 := hdep { on := 4, ground := Ground.phase } (by simp) rfl
            obtain ⟨rfl, _, _⟩ := hR.f3 d3
            obtain ⟨rfl, _, l5⟩ := hR.p5 d5
            have bx := hR.z5 d5 hnd
            have q0 := bx.cell 0
            have q1 := bx.cell 1
            have q2 := bx.cell 2
            have g0 := bx.frozen 0
            have g1 := bx.frozen 1
            have g2 := bx.frozen 2
            simp at q0 q1 q2
            clear hR bx
            refine wpOp_e rfl rfl (fun K1 hK1 => ?_)
            go_simp
            exact hK1 _ _ ⟨_, _, _, _, _, _, _, _, _, _, rfl, HRr.out.store7 d4 d5 d1 d3 d6 hnd⟩
        case fin =>
          rintro D_ a wx ⟨x0, x1, x2, x3, x4, x5, b4, b5, xs, yd, rfl, hR⟩ hall
          have e4 := (hR.p4 (hall 4 (by decide))).1
          have e5 := (hR.p5 (hall 5 (by decide))).1
          subst e4 e5
          have HRr := hid hR
          have HAll := hid hall
          clear hR hall
          go_wp2_with fail
          go_meet
          exact ⟨b4, b5, xs, yd, rfl, rfl, (HRr.out.y6 (HAll.out 6 (by decide))).2, (HRr.out.y7 (HAll.out 7 (by decide))).2, (HRr.out.f1 (HAll.out 1 (by decide))).2.1, (HRr.out.f3 (HAll.out 3 (by decide))).2.1, (HRr.out.f1 (HAll.out 1 (by decide))).2.2.mono fun _ _ _ => trivial, (HRr.out.f3 (HAll.out 3 (by decide))).2.2.mono fun _ _ _ => trivial, HRr.out.bel⟩
      case rest =>
        obtain ⟨b4, b5, xs, yd, rfl, rfl, bx4, bx5, hax, hay, hix, hiy, hbel⟩ := hcut
        obtain ⟨W3, hW3⟩ : ∃ X, X = wc := ⟨_, rfl⟩
        subst hW3
        replace HbS := hid (HbS.out.below hbel)
        replace HbD := hid (HbD.out.below hbel)
        replace HsI := hid (HsI.out.below hbel)
        replace HdI := hid (HdI.out.below hbel)
        replace HB := hid (HB.out.trans (hbel.mono HB.out.size))
        have HX4 := hid bx4
        have HX5 := hid bx5
        have HAx := hid hax
        have HAy := hid hay
        have HIx := hid hix
        have HIy := hid hiy
        clear bx4 bx5 hax hay hix hiy hbel a0 a1 al b0 b1 b2 bl
        have b0 := HbD.out.cell 0
        have b1 := HbD.out.cell 1
        have b2 := HbD.out.cell 2
        have bl := HbD.out.lt
        simp at b0 b1 b2
        have HC := hid (checkD_any d W3 (fun b => b < w.heap.size) HdI.out (fun b hb => by have := HB.out.size; omega))
        go_wp2_with fail
        refine HC.out.mono ?_
        rintro e W4 ⟨rfl, hb_⟩
        clear b0 b1 b2 bl
        replace HbS := hid (HbS.out.below hb_)
        replace HbD := hid (HbD.out.below hb_)
        replace HsI := hid (HsI.out.below hb_)
        replace HdI := hid (HdI.out.below hb_)
        replace HX4 := hid (HX4.out.below hb_)
        replace HX5 := hid (HX5.out.below hb_)
        replace HIx := hid (HIx.out.below hb_)
        replace HIy := hid (HIy.out.below hb_)
        replace HB := hid (HB.out.trans (hb_.mono HB.out.size))
        clear hb_ HC
        have a0 := HbS.out.cell 0
        have a1 := HbS.out.cell 1
        have al := HbS.out.lt
        simp at a0 a1
        have b0 := HbD.out.cell 0
        have b1 := HbD.out.cell 1
        have b2 := HbD.out.cell 2
        have bl := HbD.out.lt
        simp at b0 b1 b2
        have HC := hid (apply_any sn s d W4 (fun b => b < w.heap.size) HsI.out HN0.out.1 HN0.out.2 HdI.out (fun b hb => by have := HB.out.size; omega) ⟨HZs.out.n, HZd.out.set, HZd.out.gone⟩ ⟨HZs.out.item, HZd.out.item⟩)
        go_wp2_with fail
        refine HC.out.mono ?_
        rintro e W5 ⟨hb_, hA1, hA2⟩
        obtain ⟨tn, t, rfl, hti, htz, hte⟩ : ∃ (tn : Int) (t : LT VT), e = .returned (.tuple #[.agg #[.int .i64 tn, .slice t.p t.n t.c], .int .i64 (applyE sn s d : Int)]) ∧ LT.In elCell W5 (fun _ => True) t ∧ (applyE sn s d = 0 → tn = d.num ∧ Apd s d t) ∧ (applyE sn s d ≠ 0 → tn = 0 ∧ t.n = 0) := by
          by_cases h0 : applyE sn s d = 0
          · obtain ⟨u, rfl, e2, e3, e4⟩ := hA2 h0
            exact ⟨d.num, u, by rw [h0]; rfl, e4.mono fun _ _ _ => trivial, fun _ => ⟨rfl, Apd.of e2 e3 e4⟩, fun h => (h h0).elim⟩
          · exact ⟨0, ⟨none, 0, 0, fun _ => zC⟩, hA1 h0, LT.In.none_ _ _ _ none 0 _ (Nat.zero_le _) (fun _ => rfl), fun h => (h0 h).elim, fun _ => ⟨rfl, rfl⟩⟩
        clear hA1 hA2 a0 a1 al b0 b1 b2 bl
        replace HbS := hid (HbS.out.below hb_)
        replace HbD := hid (HbD.out.below hb_)
        replace HsI := hid (HsI.out.below hb_)
        replace HdI := hid (HdI.out.below hb_)
        replace HX4 := hid (HX4.out.below hb_)
        replace HX5 := hid (HX5.out.below hb_)
        replace HIx := hid (HIx.out.below hb_)
        replace HIy := hid (HIy.out.below hb_)
        replace HB := hid (HB.out.trans (hb_.mono HB.out.size))
        clear hb_ HC
        have HTi := hid hti
        have HTz := hid htz
        have HTe := hid hte
        clear hti htz hte
        obtain ⟨er, her⟩ : ∃ er, er = applyE sn s d := ⟨_, rfl⟩
        have HEr := hid her
        rw [← her]
        clear her
        obtain ⟨W6, h_⟩ : ∃ X, X = W5.alloc (.cells #[.int .i64 tn, .slice t.p t.n t.c] 24) := ⟨_, rfl⟩
        have hb_ : Below W5.heap.size W5 W6 := by rw [h_]; exact below1 _ _
        have HX8 : Hid (Box W6 W5.heap.size #[.int .i64 tn, .slice t.p t.n t.c] 24) := by show Box _ _ _ _; rw [h_]; exact Box.new _ _ _
        have HW_ := hid h_
        clear h_
        go_upto_region 6 with fail
        rw [← HW_.out]
        clear HW_
        replace HbS := hid (HbS.out.below hb_)
        replace HbD := hid (HbD.out.below hb_)
        replace HsI := hid (HsI.out.below hb_)
        replace HdI := hid (HdI.out.below hb_)
        replace HX4 := hid (HX4.out.below hb_)
        replace HX5 := hid (HX5.out.below hb_)
        replace HIx := hid (HIx.out.below hb_)
        replace HIy := hid (HIy.out.below hb_)
        replace HTi := hid (HTi.out.below hb_)
        replace HB := hid (HB.out.trans (hb_.mono HB.out.size))
        clear hb_
        have x0 := HX4.out.cell 0
        have x1 := HX4.out.cell 1
        have xl := HX4.out.lt
        simp at x0 x1
        have y0 := HX5.out.cell 0
        have y1 := HX5.out.cell 1
        have y2 := HX5.out.cell 2
        have yl := HX5.out.lt
        simp at y0 y1 y2
        have HC := hid (rapply_any sn xs yd W6 (fun b => b < W6.heap.size) (HIx.out.mono fun b _ h => h) HN0.out.1 HN0.out.2 (HIy.out.mono fun b _ h => h) (fun b h => h) (CSz.alike HAx.out HZs.out) (DSz.alike HAy.out HZd.out))
        have HEq : Hid (applyE sn xs yd = er) := by show _ = _; rw [HEr.out]; exact applyE_alike HAx.out HAy.out HIx.out HIy.out
        rw [HEq.out] at HC
        go_wp2_with fail
        refine HC.out.mono ?_
        rintro e W7 ⟨vn, v, rfl, hvi, hvz, hve, hb_⟩
        clear x0 x1 xl y0 y1 y2 yl
        replace HbS := hid (HbS.out.below hb_)
        replace HbD := hid (HbD.out.below hb_)
        replace HsI := hid (HsI.out.below hb_)
        replace HdI := hid (HdI.out.below hb_)
        replace HX4 := hid (HX4.out.below hb_)
        replace HX5 := hid (HX5.out.below hb_)
        replace HIx := hid (HIx.out.below hb_)
        replace HIy := hid (HIy.out.below hb_)
        replace HTi := hid (HTi.out.below hb_)
        replace HX8 := hid (HX8.out.below hb_)
        replace HB := hid (HB.out.trans (hb_.mono HB.out.size))
        clear hb_ HC
        have HVi := hid hvi
        have HVz := hid hvz
        have HVe := hid hve
        clear hvi hvz hve
        obtain ⟨W8, h_⟩ : ∃ X, X = W7.alloc (.cells #[.int .i64 vn, .slice v.p v.n v.c] 24) := ⟨_, rfl⟩
        have hb_ : Below W7.heap.size W7 W8 := by rw [h_]; exact below1 _ _
        have HX10 : Hid (Box W8 W7.heap.size #[.int .i64 vn, .slice v.p v.n v.c] 24) := by show Box _ _ _ _; rw [h_]; exact Box.new _ _ _
        have HW_ := hid h_
        clear h_
        go_upto_region 7 with fail
        rw [← HW_.out]
        clear HW_
        replace HbS := hid (HbS.out.below hb_)
        replace HbD := hid (HbD.out.below hb_)
        replace HsI := hid (HsI.out.below hb_)
        replace HdI := hid (HdI.out.below hb_)
        replace HX4 := hid (HX4.out.below hb_)
        replace HX5 := hid (HX5.out.below hb_)
        replace HIx := hid (HIx.out.below hb_)
        replace HIy := hid (HIy.out.below hb_)
        replace HTi := hid (HTi.out.below hb_)
        replace HX8 := hid (HX8.out.below hb_)
        replace HVi := hid (HVi.out.below hb_)
        replace HB := hid (HB.out.trans (hb_.mono HB.out.size))
        clear hb_
        have HSame : Hid (tn = vn ∧ LsAlk t v) := by
          by_cases h0 : er = 0
          · have e1 := HTz.out (by rw [← HEr.out]; exact h0)
            have e2 := HVz.out h0
            exact ⟨by rw [e1.1, e2.1]; exact HAy.out.num.symm, Apd.same HAx.out HAy.out HIx.out HIy.out e1.2 e2.2⟩
          · have e1 := HTe.out (by rw [← HEr.out]; exact h0)
            have e2 := HVe.out h0
            exact ⟨by rw [e1.1, e2.1], ⟨by rw [e1.2, e2.2], fun j hj => absurd hj (by rw [e1.2]; omega)⟩⟩
        have y0 := HX5.out.cell 0
        have y1 := HX5.out.cell 1
        have y2 := HX5.out.cell 2
        have yl := HX5.out.lt
        simp at y0 y1 y2
        have HC := hid (rcheck_any yd W8 _ HIy.out (DSz.alike HAy.out HZd.out))
        have HCq : Hid (chkD yd = chkD d) := HAy.out.chk
        rw [HCq.out] at HC
        obtain ⟨cd, hcd⟩ : ∃ cd, cd = chkD d := ⟨_, rfl⟩
        rw [← hcd] at HC
        rw [← hcd]
        have hcc : ((cd : Int) == (cd : Int)) = true := by simp
        have hee : ((er : Int) == (er : Int)) = true := by simp
        clear hcd HCq
        go_wp2_with fail
        refine HC.out.mono ?_
        rintro e W9 ⟨rfl, hb_⟩
        replace HbS := hid (HbS.out.below hb_)
        replace HbD := hid (HbD.out.below hb_)
        replace HsI := hid (HsI.out.below hb_)
        replace HdI := hid (HdI.out.below hb_)
        replace HX4 := hid (HX4.out.below hb_)
        replace HX5 := hid (HX5.out.below hb_)
        replace HIx := hid (HIx.out.below hb_)
        replace HIy := hid (HIy.out.below hb_)
        replace HTi := hid (HTi.out.below hb_)
        replace HX8 := hid (HX8.out.below hb_)
        replace HVi := hid (HVi.out.below hb_)
        replace HX10 := hid (HX10.out.below hb_)
        replace HB := hid (HB.out.trans (hb_.mono HB.out.size))
        clear hb_ HC y0 y1 y2 yl
        have t0 := HX8.out.cell 0
        have t1 := HX8.out.cell 1
        have tl := HX8.out.lt
        simp at t0 t1
        have v0 := HX10.out.cell 0
        have v1 := HX10.out.cell 1
        have vl := HX10.out.lt
        simp at v0 v1
        have HC := hid (yStat tn vn t v W9 _ _ HTi.out HVi.out)
        go_wp2_with fail
        refine HC.out.mono ?_
        rintro e W10 ⟨r_, rfl, hr_, hb_⟩
        obtain rfl : r_ = true := hr_.2 (HSame.out)
        replace HbS := hid (HbS.out.below hb_)
        replace HbD := hid (HbD.out.below hb_)
        replace HsI := hid (HsI.out.below hb_)
        replace HdI := hid (HdI.out.below hb_)
        replace HX4 := hid (HX4.out.below hb_)
        replace HX5 := hid (HX5.out.below hb_)
        replace HIx := hid (HIx.out.below hb_)
        replace HIy := hid (HIy.out.below hb_)
        replace HTi := hid (HTi.out.below hb_)
        replace HX8 := hid (HX8.out.below hb_)
        replace HVi := hid (HVi.out.below hb_)
        replace HX10 := hid (HX10.out.below hb_)
        replace HB := hid (HB.out.trans (hb_.mono HB.out.size))
        clear hb_ hr_ HC t0 t1 tl v0 v1 vl
        have t0 := HbS.out.cell 0
        have t1 := HbS.out.cell 1
        have tl := HbS.out.lt
        simp at t0 t1
        have v0 := HX4.out.cell 0
        have v1 := HX4.out.cell 1
        have vl := HX4.out.lt
        simp at v0 v1
        have HC := hid (yStat sn sn s xs W10 _ _ HsI.out HIx.out)
        go_wp2_with fail
        refine HC.out.mono ?_
        rintro e W11 ⟨r_, rfl, hr_, hb_⟩
        obtain rfl : r_ = true := hr_.2 (⟨by first | rfl | trivial, HAx.out.cells⟩)
        replace HbS := hid (HbS.out.below hb_)
        replace HbD := hid (HbD.out.below hb_)
        replace HsI := hid (HsI.out.below hb_)
        replace HdI := hid (HdI.out.below hb_)
        replace HX4 := hid (HX4.out.below hb_)
        replace HX5 := hid (HX5.out.below hb_)
        replace HIx := hid (HIx.out.below hb_)
        replace HIy := hid (HIy.out.below hb_)
        replace HTi := hid (HTi.out.below hb_)
        replace HX8 := hid (HX8.out.below hb_)
        replace HVi := hid (HVi.out.below hb_)
        replace HX10 := hid (HX10.out.below hb_)
        replace HB := hid (HB.out.trans (hb_.mono HB.out.size))
        clear hb_ hr_ HC t0 t1 tl v0 v1 vl
        have t0 := HbD.out.cell 0
        have t1 := HbD.out.cell 1
        have t2 := HbD.out.cell 2
        have tl := HbD.out.lt
        simp at t0 t1 t2
        have v0 := HX5.out.cell 0
        have v1 := HX5.out.cell 1
        have v2 := HX5.out.cell 2
        have vl := HX5.out.lt
        simp at v0 v1 v2
        have HC := hid (yDelta d yd W11 _ _ HdI.out HIy.out)
        go_wp2_with fail
        refine HC.out.mono ?_
        rintro e W12 ⟨r_, rfl, hr_, hb_⟩
        obtain rfl : r_ = true := hr_.2 (HAy.out.dalk)
        replace HbS := hid (HbS.out.below hb_)
        replace HbD := hid (HbD.out.below hb_)
        replace HsI := hid (HsI.out.below hb_)
        replace HdI := hid (HdI.out.below hb_)
        replace HX4 := hid (HX4.out.below hb_)
        replace HX5 := hid (HX5.out.below hb_)
        replace HIx := hid (HIx.out.below hb_)
        replace HIy := hid (HIy.out.below hb_)
        replace HTi := hid (HTi.out.below hb_)
        replace HX8 := hid (HX8.out.below hb_)
        replace HVi := hid (HVi.out.below hb_)
        replace HX10 := hid (HX10.out.below hb_)
        replace HB := hid (HB.out.trans (hb_.mono HB.out.size))
        clear hb_ hr_ HC t0 t1 t2 tl v0 v1 v2 vl
        go_wp2
        exact bodyPost_ret (v := .bool true) (by simp [results, Try.results7, go_sem]) rfl ⟨rfl, HB.out⟩
end Go.Proofs.Ytpknlbibijheaaa
