import Derived.Test.YtpknlbibijheaaaPack35
import Derived.Test.YtpknlbibijheaaaDnJ
namespace Go.Proofs.Ytpknlbibijheaaa
open Go.RowKit
set_option maxRecDepth 8000
def twoDl (b : Nat) (d e : DT) : LT DT := ⟨some ⟨b, 0, none⟩, 2, 2, fun j => if j = 0 then d else e⟩
theorem twoDl_in {W : World} {b : Nat} {d e : DT} {S : Nat → Prop} (h : Box W b #[.int .i64 d.num, .slice d.set.p d.set.n d.set.c, .slice d.gone.p d.gone.n d.gone.c, .int .i64 e.num, .slice e.set.p e.set.n e.set.c, .slice e.gone.p e.gone.n e.gone.c] 30) (hb : S b) (hd : DT.In W S d) (he : DT.In W S e) : LT.In elD W S (twoDl b d e) := by
  refine ⟨fun _ => ⟨b, 0, rfl, hb, h.lt, fun j hj r u hu => ?_⟩, fun j hj => ?_, by show 2 ≤ 2; omega, by show 2 ≤ _; omega, by show 2 ≤ maxLen; simp [maxLen], fun h => by cases h⟩
  · have hj3 : j < 2 := hj
    match j, hj3, r, hu with
    | 0, _, 0, hu => obtain rfl : _ = u := Option.some.inj hu; exact h.cell 0
    | 0, _, 1, hu => obtain rfl : _ = u := Option.some.inj hu; exact h.cell 1
    | 0, _, 2, hu => obtain rfl : _ = u := Option.some.inj hu; exact h.cell 2
    | 1, _, 0, hu => obtain rfl : _ = u := Option.some.inj hu; exact h.cell 3
    | 1, _, 1, hu => obtain rfl : _ = u := Option.some.inj hu; exact h.cell 4
    | 1, _, 2, hu => obtain rfl : _ = u := Option.some.inj hu; exact h.cell 5
  · have hj3 : j < 2 := hj
    match j, hj3 with
    | 0, _ => exact hd
    | 1, _ => exact he
theorem joinE_alike {c d xc yd : DT} {w : World} {S : Nat → Prop} (hc : DT.Alike c xc) (hd : DT.Alike d yd) (ix : DT.In w S xc) (iy : DT.In w S yd) : joinE xc yd = joinE c d := by
  have e1 := hc.chk
  have e2 := hd.chk
  by_cases h1 : chkD c = 0
  · by_cases h2 : chkD d = 0
    · have a := joinE_val h1 h2
      have b := joinE_val (e1.trans h1) (e2.trans h2)
      have n1 : xc.nS = c.nS := hc.setA.nl ix.set
      have n2 : yd.nS = d.nS := hd.setA.nl iy.set
      rw [n1, n2, hc.goneL, hd.goneL] at b
      by_cases hg : ∃ g ∈ d.gone.toL, g ∈ c.gone.toL
      · rw [a.1 hg, b.1 hg]
      · have hall : ∀ g ∈ d.gone.toL, g ∉ c.gone.toL := fun g hg1 hn => hg ⟨g, hg1, hn⟩
        rw [a.2 hall, b.2 hall]
    · unfold joinE
      rw [e1, e2]
      simp [h1, h2]
  · unfold joinE
    rw [e1]
    simp [h1]
theorem Jnd.same {c d xc yd t v : DT} {w : World} {S : Nat → Prop} (hc : DT.Alike c xc) (hd : DT.Alike d yd) (ix : DT.In w S xc) (iy : DT.In w S yd) (h1 : Jnd c d t) (h2 : Jnd xc yd v) : DAlk t v := by
  have n1 : xc.nS = c.nS := hc.setA.nl ix.set
  have n2 : yd.nS = d.nS := hd.setA.nl iy.set
  refine DAlk.of ?_ ?_ ?_
  · rw [h1.num, h2.num, hd.num]
  · rw [h1.set, h2.set, n1, n2, hd.goneL]
  · rw [h1.gone, h2.gone, n2, hc.goneL, hd.goneL]
set_option maxHeartbeats 16000000 in
theorem deltaJoins_walk (c d : DT) (w : World) (hc : DT.In w (fun b => b < w.heap.size) c) (hd : DT.In w (fun b => b < w.heap.size) d) :
    Calls Try.prog 8 #[.agg #[.int .i64 c.num, .slice c.set.p c.set.n c.set.c, .slice c.gone.p c.gone.n c.gone.c], .agg #[.int .i64 d.num, .slice d.set.p d.set.n d.set.c, .slice d.gone.p d.gone.n d.gone.c]] w fun e w' => e = .returned (.bool true) ∧ Below w.heap.size w w' := by
  obtain ⟨W0, hW0⟩ : ∃ X, X = (w.alloc (.cells #[.int .i64 c.num, .slice c.set.p c.set.n c.set.c, .slice c.gone.p c.gone.n c.gone.c] 30)).alloc (.cells #[.int .i64 d.num, .slice d.set.p d.set.n d.set.c, .slice d.gone.p d.gone.n d.gone.c] 30) := ⟨_, rfl⟩
  have hB0 : Below w.heap.size w W0 := by rw [hW0]; exact below2 _ _ _
  have bS : Box W0 w.heap.size #[.int .i64 c.num, .slice c.set.p c.set.n c.set.c, .slice c.gone.p c.gone.n c.gone.c] 30 := by rw [hW0]; exact (Box.new w _ _).below (below1 _ _)
  have bD : Box W0 (w.heap.size + 1) #[.int .i64 d.num, .slice d.set.p d.set.n d.set.c, .slice d.gone.p d.gone.n d.gone.c] 30 := by
    have h1 := Box.new (w.alloc (.cells #[.int .i64 c.num, .slice c.set.p c.set.n c.set.c, .slice c.gone.p c.gone.n c.gone.c] 30)) #[.int .i64 d.num, .slice d.set.p d.set.n d.set.c, .slice d.gone.p d.gone.n d.gone.c] 30
    rw [World.size_alloc] at h1
    rw [hW0]
    exact h1
  have HW0 := hid hW0
  have HB := hid hB0
  have HbS := hid bS
  have HbD := hid bD
  have HcI := hid (hc.below hB0)
  have HdI := hid (hd.below hB0)
  have a0 := bS.cell 0
  have a1 := bS.cell 1
  have a2 := bS.cell 2
  have al := bS.lt
  simp at a0 a1 a2
  have b0 := bD.cell 0
  have b1 := bD.cell 1
  have b2 := bD.cell 2
  have bl := bD.lt
  simp at b0 b1 b2
  clear hW0 hB0 bS bD hc hd
  obtain ⟨V0, hV0⟩ : ∃ X, X = W0.alloc (.cells #[.int .i64 c.num, .slice c.set.p c.set.n c.set.c, .slice c.gone.p c.gone.n c.gone.c, .int .i64 d.num, .slice d.set.p d.set.n d.set.c, .slice d.gone.p d.gone.n d.gone.c] 30) := ⟨_, rfl⟩
  have hbV : Below W0.heap.size W0 V0 := by rw [hV0]; exact below1 _ _
  have bV : Box V0 W0.heap.size #[.int .i64 c.num, .slice c.set.p c.set.n c.set.c, .slice c.gone.p c.gone.n c.gone.c, .int .i64 d.num, .slice d.set.p d.set.n d.set.c, .slice d.gone.p d.gone.n d.gone.c] 30 := by rw [hV0]; exact Box.new _ _ _
  have HSz := hid (szDeltas_any (twoDl W0.heap.size c d) V0 (fun b => b < V0.heap.size) (twoDl_in bV bV.lt ((HcI.out.below hbV).mono fun b _ h => h) ((HdI.out.below hbV).mono fun b _ h => h)) (fun _ h => h))
  unfold twoDl at HSz
  dsimp only at HSz
  replace HbS := hid (HbS.out.below hbV)
  replace HbD := hid (HbD.out.below hbV)
  replace HcI := hid (HcI.out.below hbV)
  replace HdI := hid (HdI.out.below hbV)
  replace HB := hid (HB.out.trans (hbV.mono HB.out.size))
  have HV0 := hid hV0
  clear hV0 hbV bV
  go_enter Try.func8, Try.ntmps8
  go_upto_region 1 with fail
  rw [← HW0.out]
  go_wp2_with fail
  rw [← HV0.out]
  refine HSz.out.mono ?_
  rintro e W2 ⟨q, rfl, hq, hb1⟩
  replace HbS := hid (HbS.out.below hb1)
  replace HbD := hid (HbD.out.below hb1)
  replace HcI := hid (HcI.out.below hb1)
  replace HdI := hid (HdI.out.below hb1)
  replace HB := hid (HB.out.trans (hb1.mono HB.out.size))
  have HQ := hid hq
  clear hb1 hq HSz HV0 HW0 a0 a1 a2 al b0 b1 b2 bl
  cases q with
  | false =>
    go_wp2
    exact bodyPost_ret (v := .bool true) (by simp [results, Try.results8, go_sem]) rfl ⟨rfl, HB.out⟩
  | true =>
      have HZc : Hid (DSz c) := HQ.out rfl 0 (by show 0 < 2; omega)
      have HZd : Hid (DSz d) := HQ.out rfl 1 (by show 1 < 2; omega)
      clear HQ
      have a0 := HbS.out.cell 0
      have a1 := HbS.out.cell 1
      have a2 := HbS.out.cell 2
      have al := HbS.out.lt
      simp at a0 a1 a2
      have b0 := HbD.out.cell 0
      have b1 := HbD.out.cell 1
      have b2 := HbD.out.cell 2
      have bl := HbD.out.lt
      simp at b0 b1 b2
      go_upto_region 3 with fail
      go_cut [5, 6] (fun s5 s6 wx => ∃ (b4 b5 : Nat) (xs yd : DT), s5 = .pointer (some ⟨b4, 0, none⟩) ∧ s6 = .pointer (some ⟨b5, 0, none⟩) ∧ Box wx b4 #[.int .i64 xs.num, .slice xs.set.p xs.set.n xs.set.c, .slice xs.gone.p xs.gone.n xs.gone.c] 30 ∧ Box wx b5 #[.int .i64 yd.num, .slice yd.set.p yd.set.n yd.set.c, .slice yd.gone.p yd.gone.n yd.gone.c] 30 ∧ DT.Alike c xs ∧ DT.Alike d yd ∧ DT.In wx (fun _ => True) xs ∧ DT.In wx (fun _ => True) yd ∧ Below W2.heap.size W2 wx)
      case first =>
        refine wp_region_inv (by kernel_rfl) (fun (D_ : Nat → Prop) a wx => ∃ (x0 x1 x2 x3 x4 x5 : Value) (b4 b5 : Nat) (xs yd : DT), a = { tmps := #[.agg #[.int .i64 c.num, .slice c.set.p c.set.n c.set.c, .slice c.gone.p c.gone.n c.gone.c], .agg #[.int .i64 d.num, .slice d.set.p d.set.n d.set.c, .slice d.gone.p d.gone.n d.gone.c], .pointer (some ⟨w.heap.size, 0, none⟩), .pointer (some ⟨w.heap.size + 1, 0, none⟩), .bool false, x4, x5, undef, undef, undef, undef, .agg #[.int .i64 c.num, .slice c.set.p c.set.n c.set.c, .slice c.gone.p c.gone.n c.gone.c], .agg #[.int .i64 d.num, .slice d.set.p d.set.n d.set.c, .slice d.gone.p d.gone.n d.gone.c], .slice (some ⟨W0.heap.size, 0, none⟩) 2 2, .bool true, .bool false, x0, x1, x2, x3, undef, undef, undef, undef, undef, undef, undef, undef, undef, undef, undef, undef, undef, undef, undef, undef, undef, undef, undef, undef, undef, undef, undef, undef, undef, undef, undef, undef, undef, undef], defers := [] } ∧ R4 W2 c d D_ wx x0 x1 x2 x3 x4 x5 b4 b5 xs yd) ?ext (by kernel_rfl) ?h0 ?step ?fin
        case ext =>
          intro D_ D' a wx hD h
          have e : D_ = D' := funext fun j => propext (hD j)
          rw [← e]; exact h
        case h0 =>
          intro D_ hD
          exact ⟨undef, undef, undef, undef, undef, undef, 0, 0, c, d, rfl, R4.start hD⟩
        case step =>
          rintro D_ a wx ⟨x0, x1, x2, x3, x4, x5, b4, b5, xs, yd, rfl, hR⟩ i o ho hnd hdep
          have hi : i < 8 := (Array.getElem?_eq_some_iff.1 ho).1
          have HRr := hid hR
          have cS := HbS.out.below (hR.bel.mono (Nat.le_refl _))
          have cD := HbD.out.below (hR.bel.mono (Nat.le_refl _))
          have HcS := hid cS
          have HcD := hid cD
          clear cS cD
          obtain rfl | rfl | rfl | rfl | rfl | rfl | rfl | rfl : i = 0 ∨ i = 1 ∨ i = 2 ∨ i = 3 ∨ i = 4 ∨ i = 5 ∨ i = 6 ∨ i = 7 := by omega
          · obtain rfl := Option.some.inj ho
            have c0 := HcS.out.cell 0
            have c1 := HcS.out.cell 1
            have c2 := HcS.out.cell 2
            have cl := HcS.out.lt
            simp at c0 c1 c2
            clear hR
            refine wpOp_e rfl rfl (fun K1 hK1 => ?_)
            go_simp
            exact hK1 _ _ ⟨_, _, _, _, _, _, _, _, _, _, rfl, HRr.out.load0⟩
          · obtain rfl := Option.some.inj ho
            have d0 : D_ 0 := hdep { on := 0, ground := Ground.data } (by simp) rfl
            have h6 : ¬ D_ 6 := fun h => hnd ((HRr.out.o6 h).2.1)
            obtain rfl := hR.f0 d0
            have HSt := hid (rcopy_any c wx (fun b => b < w.heap.size) (HcI.out.below (hR.bel.mono (Nat.le_refl _))) HZc.out)
            clear hR
            refine wpOp_e rfl rfl (fun K1 hK1 => ?_)
            refine step_callT 23 (.func 23) #[.tmp 16] _ rfl rfl Try.f23 Try.func23 (by kernel_rfl) rfl #[.agg #[.int .i64 c.num, .slice c.set.p c.set.n c.set.c, .slice c.gone.p c.gone.n c.gone.c]] rfl _ HSt.out (fun e w4 h4 => ?_)
            obtain ⟨us, rfl, ha4, hu4, hb4⟩ := h4
            have HX := hid (HRr.out.call1 h6 hb4 ha4 hu4)
            clear ha4 hu4 hb4
            refine ⟨_, rfl, ?_⟩
            go_simp
            exact hK1 _ _ ⟨_, _, _, _, _, _, _, _, _, _, rfl, HX.out⟩
          · obtain rfl := Option.some.inj ho
            have c0 := HcD.out.cell 0
            have c1 := HcD.out.cell 1
            have c2 := HcD.out.cell 2
            have cl := HcD.out.lt
            simp at c0 c1 c2
            clear hR
            refine wpOp_e rfl rfl (fun K1 hK1 => ?_)
            go_simp
            exact hK1 _ _ ⟨_, _, _, _, _, _, _, _, _, _, rfl, HRr.out.load2⟩
          · obtain rfl := Option.some.inj ho
            have d2 : D_ 2 := hdep { on := 2, ground := Ground.data } (by simp) rfl
            have d1 : D_ 1 := hdep { on := 1, ground := Ground.chain } (by simp) rfl
            have h7 : ¬ D_ 7 := fun h => hnd ((HRr.out.o7 h).2)
            obtain rfl := hR.f2 d2
            have HSt := hid (rcopy_any d wx (fun b => b < w.heap.size) (HdI.out.below (hR.bel.mono (Nat.le_refl _))) HZd.out)
            clear hR
            refine wpOp_e rfl rfl (fun K1 hK1 => ?_)
            refine step_callT 23 (.func 23) #[.tmp 18] _ rfl rfl Try.f23 Try.func23 (by kernel_rfl) rfl #[.agg #[.int .i64 d.num, .slice d.set.p d.set.n d.set.c, .slice d.gone.p d.gone.n d.gone.c]] rfl _ HSt.out (fun e w4 h4 => ?_)
            obtain ⟨us, rfl, ha4, hu4, hb4⟩ := h4
            have HX := hid (HRr.out.call3 h7 hb4 ha4 hu4)
            clear ha4 hu4 hb4
            refine ⟨_, rfl, ?_⟩
            go_simp
            exact hK1 _ _ ⟨_, _, _, _, _, _, _, _, _, _, rfl, HX.out⟩
          · obtain rfl := Option.some.inj ho
            clear hR
            refine wpOp_e rfl rfl (fun K1 hK1 => ?_)
            go_simp
            exact hK1 _ _ ⟨_, _, _, _, _, _, _, _, _, _, rfl, HRr.out.alloc4 hnd⟩
          · obtain rfl := Option.some.inj ho
            clear hR
            refine wpOp_e rfl rfl (fun K1 hK1 => ?_)
            go_simp
            exact hK1 _ _ ⟨_, _, _, _, _, _, _, _, _, _, rfl, HRr.out.alloc5 hnd⟩
          · obtain rfl := Option.some.inj ho
            have d4 : D_ 4 := hdep { on := 4, ground := Ground.data } (by simp) rfl
            have d1 : D_ 1 := hdep { on := 1, ground := Ground.data } (by simp) rfl
            have d3 : D_ 3 := hdep { on := 3, ground := Ground.chain } (by simp) rfl
            have d5 : D_ 5 := hdep { on := 5, ground := Ground.phase } (by simp) rfl
            have h7 : ¬ D_ 7 := fun h => hnd ((HRr.out.o7 h).1)
            obtain ⟨rfl, _, _⟩ := hR.f1 d1
            obtain ⟨rfl, _, l4⟩ := hR.p4 d4
            have bx := hR.z4 d4 hnd
            have q0 := bx.cell 0
            have q1 := bx.cell 1
            have q2 := bx.cell 2
            have g0 := bx.frozen 0
            have g1 := bx.frozen 1
            have g2 := bx.frozen 2
            simp at q0 q1 q2
            clear hR bx
            refine wpOp_e rfl rfl (fun K1 hK1 => ?_)
            go_simp
            exact hK1 _ _ ⟨_, _, _, _, _, _, _, _, _, _, rfl, HRr.out.store6 d4 d5 d1 d3 hnd h7⟩
          · obtain rfl := Option.some.inj ho
            have d5 : D_ 5 := hdep { on := 5, ground := Ground.data } (by simp) rfl
            have d3 : D_ 3 := hdep { on := 3, ground := Ground.data } (by simp) rfl
            have d6 : D_ 6 := hdep { on := 6, ground := Ground.chain } (by simp) rfl
            have d1 : D_ 1 := hdep { on := 1, ground := Ground.phase } (by simp) rfl
            have d4 : D_ 4 := hdep { on := 4, ground := Ground.phase } (by simp) rfl
            obtain ⟨rfl, _, _⟩ := hR.f3 d3
            obtain ⟨rfl, _, l5⟩ := hR.p5 d5
            have bx := hR.z5 d5 hnd
            have q0 := bx.cell 0
            have q1 := bx.cell 1
            have q2 := bx.cell 2
            have g0 := bx.frozen 0
            have g1 := bx.frozen 1
            have g2 := bx.frozen 2
            simp at q0 q1 q2
            clear hR bx
            refine wpOp_e rfl rfl (fun K1 hK1 => ?_)
            go_simp
            exact hK1 _ _ ⟨_, _, _, _, _, _, _, _, _, _, rfl, HRr.out.store7 d4 d5 d1 d3 d6 hnd⟩
        case fin =>
          rintro D_ a wx ⟨x0, x1, x2, x3, x4, x5, b4, b5, xs, yd, rfl, hR⟩ hall
          have e4 := (hR.p4 (hall 4 (by decide))).1
          have e5 := (hR.p5 (hall 5 (by decide))).1
          subst e4 e5
          have HRr := hid hR
          have HAll := hid hall
          clear hR hall
          go_wp2_with fail
          go_meet
          exact ⟨b4, b5, xs, yd, rfl, rfl, (HRr.out.y6 (HAll.out 6 (by decide))).2, (HRr.out.y7 (HAll.out 7 (by decide))).2, (HRr.out.f1 (HAll.out 1 (by decide))).2.1, (HRr.out.f3 (HAll.out 3 (by decide))).2.1, (HRr.out.f1 (HAll.out 1 (by decide))).2.2.mono fun _ _ _ => trivial, (HRr.out.f3 (HAll.out 3 (by decide))).2.2.mono fun _ _ _ => trivial, HRr.out.bel⟩
      case rest =>
        obtain ⟨b4, b5, xs, yd, rfl, rfl, bx4, bx5, hax, hay, hix, hiy, hbel⟩ := hcut
        obtain ⟨W3, hW3⟩ : ∃ X, X = wc := ⟨_, rfl⟩
        subst hW3
        replace HbS := hid (HbS.out.below hbel)
        replace HbD := hid (HbD.out.below hbel)
        replace HcI := hid (HcI.out.below hbel)
        replace HdI := hid (HdI.out.below hbel)
        replace HB := hid (HB.out.trans (hbel.mono HB.out.size))
        have HX4 := hid bx4
        have HX5 := hid bx5
        have HAx := hid hax
        have HAy := hid hay
        have HIx := hid hix
        have HIy := hid hiy
        clear bx4 bx5 hax hay hix hiy hbel a0 a1 a2 al b0 b1 b2 bl
        have a0 := HbS.out.cell 0
        have a1 := HbS.out.cell 1
        have a2 := HbS.out.cell 2
        have al := HbS.out.lt
        simp at a0 a1 a2
        have b0 := HbD.out.cell 0
        have b1 := HbD.out.cell 1
        have b2 := HbD.out.cell 2
        have bl := HbD.out.lt
        simp at b0 b1 b2
        have HC := hid (join_any c d W3 (fun b => b < w.heap.size) HcI.out HdI.out (fun b hb => by have := HB.out.size; omega) ⟨HZc.out.set, HZc.out.gone, HZd.out.set, HZd.out.gone⟩ ⟨HZc.out.item, HZd.out.item⟩)
        go_wp2_with fail
        refine HC.out.mono ?_
        rintro e W5 ⟨hb_, hA1, hA2⟩
        obtain ⟨t, rfl, hti, htz, hte⟩ : ∃ t : DT, e = .returned (.tuple #[.agg #[.int .i64 t.num, .slice t.set.p t.set.n t.set.c, .slice t.gone.p t.gone.n t.gone.c], .int .i64 (joinE c d : Int)]) ∧ DT.In W5 (fun _ => True) t ∧ (joinE c d = 0 → Jnd c d t) ∧ (joinE c d ≠ 0 → t = zD) := by
          by_cases h0 : joinE c d = 0
          · obtain ⟨u, rfl, e2, e3⟩ := hA2 h0
            exact ⟨u, by rw [h0]; rfl, e3.mono fun _ _ _ => trivial, fun _ => Jnd.of e2 e3, fun h => (h h0).elim⟩
          · exact ⟨zD, hA1 h0, zD_in _ _, fun h => (h0 h).elim, fun _ => rfl⟩
        clear hA1 hA2 a0 a1 a2 al b0 b1 b2 bl
        replace HbS := hid (HbS.out.below hb_)
        replace HbD := hid (HbD.out.below hb_)
        replace HcI := hid (HcI.out.below hb_)
        replace HdI := hid (HdI.out.below hb_)
        replace HX4 := hid (HX4.out.below hb_)
        replace HX5 := hid (HX5.out.below hb_)
        replace HIx := hid (HIx.out.below hb_)
        replace HIy := hid (HIy.out.below hb_)
        replace HB := hid (HB.out.trans (hb_.mono HB.out.size))
        clear hb_ HC
        have HTi := hid hti
        have HTz := hid htz
        have HTe := hid hte
        clear hti htz hte
        obtain ⟨er, her⟩ : ∃ er, er = joinE c d := ⟨_, rfl⟩
        have HEr := hid her
        rw [← her]
        clear her
        obtain ⟨W6, h_⟩ : ∃ X, X = W5.alloc (.cells #[.int .i64 t.num, .slice t.set.p t.set.n t.set.c, .slice t.gone.p t.gone.n t.gone.c] 30) := ⟨_, rfl⟩
        have hb_ : Below W5.heap.size W5 W6 := by rw [h_]; exact below1 _ _
        have HX8 : Hid (Box W6 W5.heap.size #[.int .i64 t.num, .slice t.set.p t.set.n t.set.c, .slice t.gone.p t.gone.n t.gone.c] 30) := by show Box _ _ _ _; rw [h_]; exact Box.new _ _ _
        have HW_ := hid h_
        clear h_
        go_upto_region 5 with fail
        rw [← HW_.out]
        clear HW_
        replace HbS := hid (HbS.out.below hb_)
        replace HbD := hid (HbD.out.below hb_)
        replace HcI := hid (HcI.out.below hb_)
        replace HdI := hid (HdI.out.below hb_)
        replace HX4 := hid (HX4.out.below hb_)
        replace HX5 := hid (HX5.out.below hb_)
        replace HIx := hid (HIx.out.below hb_)
        replace HIy := hid (HIy.out.below hb_)
        replace HTi := hid (HTi.out.below hb_)
        replace HB := hid (HB.out.trans (hb_.mono HB.out.size))
        clear hb_
        have x0 := HX4.out.cell 0
        have x1 := HX4.out.cell 1
        have x2 := HX4.out.cell 2
        have xl := HX4.out.lt
        simp at x0 x1 x2
        have y0 := HX5.out.cell 0
        have y1 := HX5.out.cell 1
        have y2 := HX5.out.cell 2
        have yl := HX5.out.lt
        simp at y0 y1 y2
        have HC := hid (rjoin_any xs yd W6 (fun b => b < W6.heap.size) (HIx.out.mono fun b _ h => h) (HIy.out.mono fun b _ h => h) (fun b h => h) (DSz.alike HAx.out HZc.out) (DSz.alike HAy.out HZd.out))
        have HEq : Hid (joinE xs yd = er) := by show _ = _; rw [HEr.out]; exact joinE_alike HAx.out HAy.out HIx.out HIy.out
        rw [HEq.out] at HC
        go_wp2_with fail
        refine HC.out.mono ?_
        rintro e W7 ⟨v, rfl, hvi, hvz, hve, hb_⟩
        clear x0 x1 x2 xl y0 y1 y2 yl
        replace HbS := hid (HbS.out.below hb_)
        replace HbD := hid (HbD.out.below hb_)
        replace HcI := hid (HcI.out.below hb_)
        replace HdI := hid (HdI.out.below hb_)
        replace HX4 := hid (HX4.out.below hb_)
        replace HX5 := hid (HX5.out.below hb_)
        replace HIx := hid (HIx.out.below hb_)
        replace HIy := hid (HIy.out.below hb_)
        replace HTi := hid (HTi.out.below hb_)
        replace HX8 := hid (HX8.out.below hb_)
        replace HB := hid (HB.out.trans (hb_.mono HB.out.size))
        clear hb_ HC
        have HVi := hid hvi
        have HVz := hid hvz
        have HVe := hid hve
        clear hvi hvz hve
        obtain ⟨W8, h_⟩ : ∃ X, X = W7.alloc (.cells #[.int .i64 v.num, .slice v.set.p v.set.n v.set.c, .slice v.gone.p v.gone.n v.gone.c] 30) := ⟨_, rfl⟩
        have hb_ : Below W7.heap.size W7 W8 := by rw [h_]; exact below1 _ _
        have HX10 : Hid (Box W8 W7.heap.size #[.int .i64 v.num, .slice v.set.p v.set.n v.set.c, .slice v.gone.p v.gone.n v.gone.c] 30) := by show Box _ _ _ _; rw [h_]; exact Box.new _ _ _
        have HW_ := hid h_
        clear h_
        go_upto_region 6 with fail
        rw [← HW_.out]
        clear HW_
        replace HbS := hid (HbS.out.below hb_)
        replace HbD := hid (HbD.out.below hb_)
        replace HcI := hid (HcI.out.below hb_)
        replace HdI := hid (HdI.out.below hb_)
        replace HX4 := hid (HX4.out.below hb_)
        replace HX5 := hid (HX5.out.below hb_)
        replace HIx := hid (HIx.out.below hb_)
        replace HIy := hid (HIy.out.below hb_)
        replace HTi := hid (HTi.out.below hb_)
        replace HX8 := hid (HX8.out.below hb_)
        replace HVi := hid (HVi.out.below hb_)
        replace HB := hid (HB.out.trans (hb_.mono HB.out.size))
        clear hb_
        have HSame : Hid (DAlk t v) := by
          by_cases h0 : er = 0
          · exact Jnd.same HAx.out HAy.out HIx.out HIy.out (HTz.out (by rw [← HEr.out]; exact h0)) (HVz.out h0)
          · rw [HTe.out (by rw [← HEr.out]; exact h0), HVe.out h0]
            exact ⟨rfl, ⟨rfl, fun j hj => absurd hj (by show ¬ j < 0; omega)⟩, rfl, fun j hj => absurd hj (by show ¬ j < 0; omega)⟩
        have hee : ((er : Int) == (er : Int)) = true := by simp
        have t0 := HX8.out.cell 0
        have t1 := HX8.out.cell 1
        have t2 := HX8.out.cell 2
        have tl := HX8.out.lt
        simp at t0 t1 t2
        have v0 := HX10.out.cell 0
        have v1 := HX10.out.cell 1
        have v2 := HX10.out.cell 2
        have vl := HX10.out.lt
        simp at v0 v1 v2
        have HC := hid (yDelta t v W8 _ _ HTi.out HVi.out)
        go_wp2_with fail
        refine HC.out.mono ?_
        rintro e W10 ⟨r_, rfl, hr_, hb_⟩
        obtain rfl : r_ = true := hr_.2 (HSame.out)
        replace HbS := hid (HbS.out.below hb_)
        replace HbD := hid (HbD.out.below hb_)
        replace HcI := hid (HcI.out.below hb_)
        replace HdI := hid (HdI.out.below hb_)
        replace HX4 := hid (HX4.out.below hb_)
        replace HX5 := hid (HX5.out.below hb_)
        replace HIx := hid (HIx.out.below hb_)
        replace HIy := hid (HIy.out.below hb_)
        replace HTi := hid (HTi.out.below hb_)
        replace HX8 := hid (HX8.out.below hb_)
        replace HVi := hid (HVi.out.below hb_)
        replace HX10 := hid (HX10.out.below hb_)
        replace HB := hid (HB.out.trans (hb_.mono HB.out.size))
        clear hb_ hr_ HC t0 t1 t2 tl v0 v1 v2 vl
        have t0 := HbS.out.cell 0
        have t1 := HbS.out.cell 1
        have t2 := HbS.out.cell 2
        have tl := HbS.out.lt
        simp at t0 t1 t2
        have v0 := HX4.out.cell 0
        have v1 := HX4.out.cell 1
        have v2 := HX4.out.cell 2
        have vl := HX4.out.lt
        simp at v0 v1 v2
        have HC := hid (yDelta c xs W10 _ _ HcI.out HIx.out)
        go_wp2_with fail
        refine HC.out.mono ?_
        rintro e W11 ⟨r_, rfl, hr_, hb_⟩
        obtain rfl : r_ = true := hr_.2 (HAx.out.dalk)
        replace HbS := hid (HbS.out.below hb_)
        replace HbD := hid (HbD.out.below hb_)
        replace HcI := hid (HcI.out.below hb_)
        replace HdI := hid (HdI.out.below hb_)
        replace HX4 := hid (HX4.out.below hb_)
        replace HX5 := hid (HX5.out.below hb_)
        replace HIx := hid (HIx.out.below hb_)
        replace HIy := hid (HIy.out.below hb_)
        replace HTi := hid (HTi.out.below hb_)
        replace HX8 := hid (HX8.out.below hb_)
        replace HVi := hid (HVi.out.below hb_)
        replace HX10 := hid (HX10.out.below hb_)
        replace HB := hid (HB.out.trans (hb_.mono HB.out.size))
        clear hb_ hr_ HC t0 t1 t2 tl v0 v1 v2 vl
        have t0 := HbD.out.cell 0
        have t1 := HbD.out.cell 1
        have t2 := HbD.out.cell 2
        have tl := HbD.out.lt
        simp at t0 t1 t2
        have v0 := HX5.out.cell 0
        have v1 := HX5.out.cell 1
        have v2 := HX5.out.cell 2
        have vl := HX5.out.lt
        simp at v0 v1 v2
        have HC := hid (yDelta d yd W11 _ _ HdI.out HIy.out)
        go_wp2_with fail
        refine HC.out.mono ?_
        rintro e W12 ⟨r_, rfl, hr_, hb_⟩
        obtain rfl : r_ = true := hr_.2 (HAy.out.dalk)
        replace HbS := hid (HbS.out.below hb_)
        replace HbD := hid (HbD.out.below hb_)
        replace HcI := hid (HcI.out.below hb_)
        replace HdI := hid (HdI.out.below hb_)
        replace HX4 := hid (HX4.out.below hb_)
        replace HX5 := hid (HX5.out.below hb_)
        replace HIx := hid (HIx.out.below hb_)
        replace HIy := hid (HIy.out.below hb_)
        replace HTi := hid (HTi.out.below hb_)
        replace HX8 := hid (HX8.out.below hb_)
        replace HVi := hid (HVi.out.below hb_)
        replace HX10 := hid (HX10.out.below hb_)
        replace HB := hid (HB.out.trans (hb_.mono HB.out.size))
        clear hb_ hr_ HC t0 t1 t2 tl v0 v1 v2 vl
        go_wp2
        exact bodyPost_ret (v := .bool true) (by simp [results, Try.results8, go_sem]) rfl ⟨rfl, HB.out⟩
end Go.Proofs.Ytpknlbibijheaaa
