import Derived.Test.YtdncnnjhfipokabPack31
import Derived.Test.YtdncnnjhfipokabKdB
import Derived.Deep.DeepCutAuto
namespace Go.Proofs.Ytdncnnjhfipokab
open Go.RowKit
set_option maxRecDepth 8000
set_option maxHeartbeats 16000000 in
theorem plays_part (o : OpT) (w0 w : World) (pb b rb N m : Nat) (K : Bk) (R : Rb) (hX : Box w pb #[.pointer (some ⟨b, 0, none⟩), .pointer (some ⟨rb, 0, none⟩)] 29) (hJ : PJ w0 w b rb N m K R) (hm : m ≤ 5000) (hnK : ¬ K.C b pb) (hnR : ¬ R.C rb pb) (hin : OpT.In w (fun k => k < w0.heap.size) o) (hs : OpSz o) (hk : o.kind = 3) :
    Calls Try.prog 10 #[.pointer (some ⟨pb, 0, none⟩), .agg #[.int .i64 o.kind, .int .i64 o.which, .int .i64 o.port, .int .i64 o.id, .string o.r.key, .int .i64 o.r.v.kind, .int .i64 o.r.v.int, .string o.r.v.text, .slice o.r.v.p o.r.v.n o.r.v.c, .slice o.r.p o.r.n o.r.c, .slice o.a.p o.a.n o.a.c, .slice o.q.p o.q.n o.q.c, .int .i64 o.num, .slice o.l.p o.l.n o.l.c]] w fun e w' => PlaysP w0 w b rb N m K R e w' := by
  obtain ⟨W, hW⟩ : ∃ W, W = w.alloc (.cells #[.int .i64 o.kind, .int .i64 o.which, .int .i64 o.port, .int .i64 o.id, .string o.r.key, .int .i64 o.r.v.kind, .int .i64 o.r.v.int, .string o.r.v.text, .slice o.r.v.p o.r.v.n o.r.v.c, .slice o.r.p o.r.n o.r.c, .slice o.a.p o.a.n o.a.c, .slice o.q.p o.q.n o.q.c, .int .i64 o.num, .slice o.l.p o.l.n o.l.c] 44) := ⟨_, rfl⟩
  have hB : Below w.heap.size w W := by rw [hW]; exact (Below.refl _ _).alloc (Nat.le_refl _) _
  have hY : Box W w.heap.size #[.int .i64 o.kind, .int .i64 o.which, .int .i64 o.port, .int .i64 o.id, .string o.r.key, .int .i64 o.r.v.kind, .int .i64 o.r.v.int, .string o.r.v.text, .slice o.r.v.p o.r.v.n o.r.v.c, .slice o.r.p o.r.n o.r.c, .slice o.a.p o.a.n o.a.c, .slice o.q.p o.q.n o.q.c, .int .i64 o.num, .slice o.l.p o.l.n o.l.c] 44 := by rw [hW]; exact Box.new _ _ _
  have HB := hid hB
  have HX := hid (hX.below hB)
  have HY := hid hY
  have HJ0 := hid hJ
  have HJ := hid (hJ.below hB)
  have HIn : Hid (∀ V, Below w0.heap.size w0 V → w.heap.size ≤ V.heap.size → OpT.In V (fun k => k < w0.heap.size) o) := fun V hV hs => hin.kept hs (fun k hk _ => (hV.block k hk).trans (hJ.pb.bok.bel.block k hk).symm)
  have HS := hid hs
  have HnK := hid hnK
  have HnR := hid hnR
  have hpl : pb < w.heap.size := hX.lt
  have HnY : Hid (¬ K.C b w.heap.size ∧ ¬ R.C rb w.heap.size) := ⟨fun e => by have := hJ.pb.bok.i.lt e; omega, fun e => by have := hJ.pb.r.lt e; omega⟩
  have hN4 := hJ.n4
  have HP4 : Hid (0 ≤ R.ports ∧ R.ports ≤ 4 ∧ K.ports ≤ 4 ∧ R.ls.n ≤ 5000) := ⟨by have := hJ.ep.ports; have := hJ.po; omega, by have := hJ.ep.ports; have := hJ.po; omega, by have := hJ.po; omega, by have := hJ.rn; omega⟩
  have p0 := HX.out.cell 0
  have p1 := HX.out.cell 1
  have pl := HX.out.lt
  simp at p0 p1
  have y0 := hY.cell 0
  have y1 := hY.cell 1
  have y2 := hY.cell 2
  have y3 := hY.cell 3
  have y4 := hY.cell 4
  have y5 := hY.cell 5
  have y6 := hY.cell 6
  have y7 := hY.cell 7
  have y8 := hY.cell 8
  have y9 := hY.cell 9
  have y10 := hY.cell 10
  have y11 := hY.cell 11
  have y12 := hY.cell 12
  have y13 := hY.cell 13
  simp at y0 y1 y2 y3 y4 y5 y6 y7 y8 y9 y10 y11 y12 y13
  have yl := hY.lt
  clear hX hJ hin hs hnK hnR hB hY
  rw [hk] at y0
  clear hk
  have HPt := hid (part_any W b K HJ.out.pb.bok.i)
  have HDn := hid (HJ.out.ep.done hN4 HJ.out.po)
  rcases hd : (K.cp && !K.opn) with _ | _
  · have HD := hid hd
    have HD2 : Hid (R.doneB N = false) := by unfold Hid; rw [HDn.out]; exact hd
    clear hd
    go_enter Try.func10, Try.ntmps10
    go_upto_region 12 with (first | (rw [← hW]; clear hW) | (go_at_call 26; refine HPt.out.mono ?_; rintro e w1 ⟨K4, hQ⟩; obtain ⟨hK4, rfl⟩ := hQ.n HD.out; subst hK4))
    have HJ1 : Hid (PJ w0 w1 b rb N m K4 R) := ⟨HJ.out.pb.bstep hQ.s, HJ.out.pm.bsame hQ.s, HJ.out.ep, HJ.out.n4, HJ.out.po, HJ.out.lg, HJ.out.rn, HJ.out.sz, HJ.out.pt⟩
    have HQs := hid hQ.s
    have hX1 := HX.out.kept (hQ.s.out HX.out.lt HnK.out).1
    have HX1 := hid hX1
    clear hQ HPt p0 p1 pl y0 y1 y2 y3 y4 y5 y6 y7 y8 y9 y10 y11 y12 y13 yl
    obtain ⟨W2, hW2⟩ : ∃ x, x = w1.alloc (.cells #[.int .i64 0, .slice none 0 0, .slice none 0 0, .slice none 0 0] 68) := ⟨_, rfl⟩
    rw [← hW2]
    have b2 : Below w1.heap.size w1 W2 := by rw [hW2]; exact (Below.refl _ _).alloc (Nat.le_refl _) _
    have HB2 := hid b2
    have HZ2 : Hid (Box W2 w1.heap.size #[.int .i64 0, .slice none 0 0, .slice none 0 0, .slice none 0 0] 68) := by unfold Hid; rw [hW2]; exact Box.new _ _ _
    have HJ2 := hid (HJ1.out.below b2)
    have hX2 := hX1.below b2
    have p0 := hX2.cell 0
    have p1 := hX2.cell 1
    have pl := hX2.lt
    simp at p0 p1
    have HRP := hid (rpart_any W2 (Sy w0.heap.size b rb K4 R) rb R N HJ2.out.pb.r (by have := HP4.out; omega) (by rw [HJ0.out.ep.ports]; exact HJ0.out.po) hN4 (fun k hk => hk.2.2) HJ2.out.pm.td HJ2.out.sz)
    clear hX1 hX2 b2 hW2
    go_upto_region 13 with (go_at_call 27; refine HRP.out.mono ?_; rintro e w3 ⟨R3, hQ3⟩; obtain ⟨hR3, rfl⟩ := hQ3.n HD2.out; subst hR3)
    have HQ3 := hid hQ3.s
    have hZ3 := HZ2.out.kept (hQ3.s.out HZ2.out.lt (fun e => by have := HJ1.out.pb.r.lt e; omega)).1
    have HJ3 : Hid (PJ w0 w3 b rb N m K4 R3) := ⟨HJ2.out.pb.rstep hQ3.s, HJ2.out.pm.rpart hQ3.s rfl, HJ.out.ep, HJ.out.n4, HJ.out.po, HJ.out.lg, HJ.out.rn, HJ.out.sz, HJ.out.pt⟩
    clear hQ3 HRP
    obtain ⟨W4, hW4⟩ : ∃ x, x = w3.alloc (.cells #[.int .i64 0, .slice none 0 0, .slice none 0 0, .slice none 0 0] 68) := ⟨_, rfl⟩
    rw [← hW4]
    have b4 : Below w3.heap.size w3 W4 := by rw [hW4]; exact (Below.refl _ _).alloc (Nat.le_refl _) _
    have HB4 := hid b4
    have hZ4 := hZ3.below b4
    have hV4 : Box W4 w3.heap.size #[.int .i64 0, .slice none 0 0, .slice none 0 0, .slice none 0 0] 68 := by rw [hW4]; exact Box.new _ _ _
    have z0 := hZ4.cell 0
    have z1 := hZ4.cell 1
    have z2 := hZ4.cell 2
    have z3 := hZ4.cell 3
    simp at z0 z1 z2 z3
    have v0 := hV4.cell 0
    have v1 := hV4.cell 1
    have v2 := hV4.cell 2
    have v3 := hV4.cell 3
    simp at v0 v1 v2 v3
    have zl := hZ4.lt
    have vl := hV4.lt
    have HSP := hid (samePart_any 0 (by omega) 0 (nilL (fun _ => .nil)) (nilL (fun _ => .nil)) (nilL (fun _ => nilL (fun _ => rt0))) (nilL (fun _ => nilL (fun _ => rt0))) (nilL (fun _ => rt0)) (nilL (fun _ => rt0)) W4 (fun _ => True) (fun _ => True) (LT.In.none_ _ _ _ _ _ _ (Nat.zero_le _) (fun _ => rfl)) (LT.In.none_ _ _ _ _ _ _ (Nat.zero_le _) (fun _ => rfl)) (LT.In.none_ _ _ _ _ _ _ (Nat.zero_le _) (fun _ => rfl)) rfl (LT.In.none_ _ _ _ _ _ _ (Nat.zero_le _) (fun _ => rfl)) (LT.In.none_ _ _ _ _ _ _ (Nat.zero_le _) (fun _ => rfl)) (LT.In.none_ _ _ _ _ _ _ (Nat.zero_le _) (fun _ => rfl)) rfl ⟨rfl, fun _ h => absurd h (Nat.not_lt_zero _)⟩ ⟨rfl, fun _ h => absurd h (Nat.not_lt_zero _)⟩ (fun _ h => absurd h (Nat.not_lt_zero _)))
    clear hZ3 hZ4 hV4 b4 hW4 p0 p1 pl
    go_wp2_with (go_at_call 28; refine HSP.out.mono ?_; rintro e w5 ⟨rfl, hb5⟩)
    refine bodyPost_ret (v := .bool true) (by simp [results, Try.results10, go_sem]) rfl ?_
    exact ⟨rfl, K4, R3, ((((PSet.bel HB.out).trans (PSet.ofB HQs.out)).trans (PSet.bel HB2.out)).trans (PSet.ofR HQ3.out)).trans (PSet.bel (HB4.out.trans (hb5.mono HB4.out.size))), ((HJ3.out.below (HB4.out.trans (hb5.mono HB4.out.size)))).more (by omega)⟩
  have HD := hid hd
  have HD2 : Hid (R.doneB N = true) := by unfold Hid; rw [HDn.out]; exact hd
  have HNt : Hid (K.ports.toNat = N) := by unfold Hid; have := HJ.out.po; omega
  clear hd
  go_enter Try.func10, Try.ntmps10
  go_upto_region 12 with (first | (rw [← hW]; clear hW) | (go_at_call 26; refine HPt.out.mono ?_; rintro e w1 ⟨K4, hQ⟩; obtain ⟨hK4, p5, c5, rfl, ho5⟩ := hQ.y HD.out; rw [HNt.out] at ho5 ⊢))
  have hsB := hQ.s
  rw [hK4] at hsB
  have HLl := hid (part_logsP HJ.out.pm.k HJ.out.pb.bok.i HJ.out.pb.dis HJ.out.pb.r hQ.but ho5 hN4 (fun p hp => by have := HJ.out.lg p hp; omega))
  have HKc : Hid (LT.In elCell w1 (fun k => ¬ R.C rb k) K.cl ∧ LT.In elRec w1 (fun k => ¬ R.C rb k) K.pd ∧ ∀ p, p < N → ∀ j, j < (K.lg p).n → RT.In w1 (fun k => ¬ R.C rb k) ((K.lg p).item j)) := ⟨(Sy.b (E := elCells) hQ.s HJ.out.pm.k.kc : LT.In elCell w1 _ K.cl).mono fun _ hk _ => hk.2.2, (Sy.b (E := elRecs) hQ.s HJ.out.pm.k.kp : LT.In elRec w1 _ K.pd).mono fun _ hk _ => hk.2.2, fun p hp j hj => (Sy.b (E := elRec) hQ.s (HJ.out.pm.k.kl p (by omega) j hj) : RT.In w1 _ _).mono fun _ hk _ => hk.2.2⟩
  have HB1 := hid (HJ.out.pb.bstep hsB)
  have HM1 := hid (HJ.out.pm.part hsB)
  have HQs := hid hsB
  have hX1 := HX.out.kept (hQ.s.out HX.out.lt HnK.out).1
  clear hQ HPt p0 p1 pl y0 y1 y2 y3 y4 y5 y6 y7 y8 y9 y10 y11 y12 y13 yl ho5 hK4 hsB
  obtain ⟨W2, hW2⟩ : ∃ x, x = w1.alloc (.cells #[.int .i64 K.num, .slice K.cl.p K.cl.n K.cl.c, .slice p5 N c5, .slice K.pd.p K.pd.n K.pd.c] 68) := ⟨_, rfl⟩
  rw [← hW2]
  have b2 : Below w1.heap.size w1 W2 := by rw [hW2]; exact (Below.refl _ _).alloc (Nat.le_refl _) _
  have HB2 := hid b2
  have HZ2 : Hid (Box W2 w1.heap.size #[.int .i64 K.num, .slice K.cl.p K.cl.n K.cl.c, .slice p5 N c5, .slice K.pd.p K.pd.n K.pd.c] 68) := by unfold Hid; rw [hW2]; exact Box.new _ _ _
  have hX2 := hX1.below b2
  have p0 := hX2.cell 0
  have p1 := hX2.cell 1
  have pl := hX2.lt
  simp at p0 p1
  have HB2b := hid (HB1.out.below b2)
  have HM2 := hid (HM1.out.below HB1.out b2)
  have HRP := hid (rpart_any W2 (Sy w0.heap.size b rb K.part R) rb R N HB2b.out.r (by have := HP4.out; omega) (by rw [HJ0.out.ep.ports]; exact HJ0.out.po) hN4 (fun k hk => hk.2.2) HM2.out.td HJ.out.sz)
  clear hX1 hX2 b2 hW2
  go_upto_region 13 with (go_at_call 27; refine HRP.out.mono ?_; rintro e w3 ⟨R3, hQ3⟩; obtain ⟨hR3, l1, q1, lg, hY3⟩ := hQ3.y HD2.out; have HEa := hid (HJ.out.ep.parts hN4 HD2.out hY3 HKc.out.1 HKc.out.2.1 HKc.out.2.2); rw [hY3.e_, HJ.out.ep.now, ← HEa.out.1, hY3.n_])
  have HR3 := hid hR3
  have HQ3 := hid hQ3.s
  have HY3 := hid hY3
  have hZ3 := HZ2.out.kept (hQ3.s.out HZ2.out.lt (fun e => by have := HB1.out.r.lt e; omega)).1

  have HKeep : Hid (LT.In elCell w3 (fun k => ¬ R.C rb k) K.cl ∧ LT.In elRec w3 (fun k => ¬ R.C rb k) K.pd ∧ LT.In elRecs w3 (fun k => ¬ R.C rb k) ⟨p5, N, c5, K.lg⟩) :=
    ⟨(HKc.out.1.below HB2.out).kept HQ3.out.but.size (fun k hk hl => HQ3.out.but.block k hl hk), (HKc.out.2.1.below HB2.out).kept HQ3.out.but.size (fun k hk hl => HQ3.out.but.block k hl hk), (HLl.out.below HB2.out).kept HQ3.out.but.size (fun k hk hl => HQ3.out.but.block k hl hk)⟩
  have HP3 := hid (HB2b.out.rstep hQ3.s)
  have HM3 := hid (HM2.out.rpart hQ3.s (by rw [hR3]; rfl))
  clear hQ3 HRP hY3 hR3
  obtain ⟨W4, hW4⟩ : ∃ x, x = w3.alloc (.cells #[.int .i64 K.num, .slice l1.p l1.n l1.c, .slice lg.p N lg.c, .slice q1.p q1.n q1.c] 68) := ⟨_, rfl⟩
  rw [← hW4]
  have b4 : Below w3.heap.size w3 W4 := by rw [hW4]; exact (Below.refl _ _).alloc (Nat.le_refl _) _
  have HB4 := hid b4
  have hZ4 := hZ3.below b4
  have hV4 : Box W4 w3.heap.size #[.int .i64 K.num, .slice l1.p l1.n l1.c, .slice lg.p N lg.c, .slice q1.p q1.n q1.c] 68 := by rw [hW4]; exact Box.new _ _ _
  have z0 := hZ4.cell 0
  have z1 := hZ4.cell 1
  have z2 := hZ4.cell 2
  have z3 := hZ4.cell 3
  simp at z0 z1 z2 z3
  have v0 := hV4.cell 0
  have v1 := hV4.cell 1
  have v2 := hV4.cell 2
  have v3 := hV4.cell 3
  simp at v0 v1 v2 v3
  have zl := hZ4.lt
  have vl := hV4.lt
  have HSP : Hid (∀ e, e = N → Calls Try.prog 28 #[.agg #[.int .i64 K.num, .slice K.cl.p K.cl.n K.cl.c, .slice p5 N c5, .slice K.pd.p K.pd.n K.pd.c], .agg #[.int .i64 K.num, .slice l1.p l1.n l1.c, .slice lg.p N lg.c, .slice q1.p q1.n q1.c]] W4 fun e w' => e = .returned (.bool true) ∧ Below W4.heap.size W4 w') := fun _ _ =>
    samePart_any N hN4 K.num K.cl l1 ⟨p5, N, c5, K.lg⟩ lg K.pd q1 W4 _ _ (HKeep.out.1.below b4) (HKeep.out.2.1.below b4) (HKeep.out.2.2.below b4) rfl (HY3.out.il.below b4) (HY3.out.iq.below b4) (HY3.out.ig.below b4) HY3.out.n_ HEa.out.2.1 HEa.out.2.2.1 HEa.out.2.2.2
  clear hZ3 hZ4 hV4 b4 hW4 p0 p1 pl
  go_wp2_with (go_at_call 28; refine (HSP.out N rfl).mono ?_; rintro e w5 ⟨rfl, hb5⟩)
  refine bodyPost_ret (v := .bool true) (by simp [results, Try.results10, go_sem]) rfl ?_
  have b5 := HB4.out.trans (hb5.mono HB4.out.size)
  refine ⟨rfl, K.part, R3, ((((PSet.bel HB.out).trans (PSet.ofB HQs.out)).trans (PSet.bel HB2.out)).trans (PSet.ofR HQ3.out)).trans (PSet.bel b5), HP3.out.below b5, HM3.out.below HP3.out b5, by rw [HR3.out]; exact HJ.out.ep.part HD2.out, hN4, HJ.out.po, LgN.part _, by rw [HR3.out]; have := HJ.out.rn; show R.ls.n ≤ _; omega, by rw [HR3.out]; exact HJ.out.sz, by rw [HR3.out]; exact HJ.out.pt⟩
end Go.Proofs.Ytdncnnjhfipokab
