import Derived.Test.YtdncnnjhfipokabPack31
import Derived.Test.YtdncnnjhfipokabKdB
import Derived.Deep.DeepCutAuto
namespace Go.Proofs.Ytdncnnjhfipokab
open Go.RowKit
set_option maxRecDepth 8000
set_option maxHeartbeats 16000000 in
theorem plays_took (o : OpT) (w0 w : World) (pb b rb N m : Nat) (K : Bk) (R : Rb) (hX : Box w pb #[.pointer (some ⟨b, 0, none⟩), .pointer (some ⟨rb, 0, none⟩)] 29) (hJ : PJ w0 w b rb N m K R) (hm : m ≤ 5000) (hnK : ¬ K.C b pb) (hnR : ¬ R.C rb pb) (hin : OpT.In w (fun k => k < w0.heap.size) o) (hs : OpSz o) (hk : o.kind = 1) :
    Calls Try.prog 10 #[.pointer (some ⟨pb, 0, none⟩), .agg #[.int .i64 o.kind, .int .i64 o.which, .int .i64 o.port, .int .i64 o.id, .string o.r.key, .int .i64 o.r.v.kind, .int .i64 o.r.v.int, .string o.r.v.text, .slice o.r.v.p o.r.v.n o.r.v.c, .slice o.r.p o.r.n o.r.c, .slice o.a.p o.a.n o.a.c, .slice o.q.p o.q.n o.q.c, .int .i64 o.num, .slice o.l.p o.l.n o.l.c]] w fun e w' => PlaysP w0 w b rb N m K R e w' := by
  obtain ⟨W, hW⟩ : ∃ W, W = w.alloc (.cells #[.int .i64 o.kind, .int .i64 o.which, .int .i64 o.port, .int .i64 o.id, .string o.r.key, .int .i64 o.r.v.kind, .int .i64 o.r.v.int, .string o.r.v.text, .slice o.r.v.p o.r.v.n o.r.v.c, .slice o.r.p o.r.n o.r.c, .slice o.a.p o.a.n o.a.c, .slice o.q.p o.q.n o.q.c, .int .i64 o.num, .slice o.l.p o.l.n o.l.c] 44) := ⟨_, rfl⟩
  have hB : Below w.heap.size w W := by rw [hW]; exact (Below.refl _ _).alloc (Nat.le_refl _) _
  have hY : Box W w.heap.size #[.int .i64 o.kind, .int .i64 o.which, .int .i64 o.port, .int .i64 o.id, .string o.r.key, .int .i64 o.r.v.kind, .int .i64 o.r.v.int, .string o.r.v.text, .slice o.r.v.p o.r.v.n o.r.v.c, .slice o.r.p o.r.n o.r.c, .slice o.a.p o.a.n o.a.c, .slice o.q.p o.q.n o.q.c, .int .i64 o.num, .slice o.l.p o.l.n o.l.c] 44 := by rw [hW]; exact Box.new _ _ _
  have HB := hid hB
  have HX := hid (hX.below hB)
  have HY := hid hY
  have HJ0 := hid hJ
  have HJ := hid (hJ.below hB)
  have HIn : Hid (∀ V, Below w0.heap.size w0 V → w.heap.size ≤ V.heap.size → OpT.In V (fun k => k < w0.heap.size) o) := fun V hV hs => hin.kept hs (fun k hk _ => (hV.block k hk).trans (hJ.pb.bok.bel.block k hk).symm)
  have HS := hid hs
  have HnK := hid hnK
  have HnR := hid hnR
  have hpl : pb < w.heap.size := hX.lt
  have HnY : Hid (¬ K.C b w.heap.size ∧ ¬ R.C rb w.heap.size) := ⟨fun e => by have := hJ.pb.bok.i.lt e; omega, fun e => by have := hJ.pb.r.lt e; omega⟩
  have hN4 := hJ.n4
  have HP4 : Hid (0 ≤ R.ports ∧ R.ports ≤ 4 ∧ K.ports ≤ 4 ∧ R.ls.n ≤ 5000) := ⟨by have := hJ.ep.ports; have := hJ.po; omega, by have := hJ.ep.ports; have := hJ.po; omega, by have := hJ.po; omega, by have := hJ.rn; omega⟩
  have p0 := HX.out.cell 0
  have p1 := HX.out.cell 1
  have pl := HX.out.lt
  simp at p0 p1
  have y0 := hY.cell 0
  have y1 := hY.cell 1
  have y2 := hY.cell 2
  have y3 := hY.cell 3
  have y4 := hY.cell 4
  have y5 := hY.cell 5
  have y6 := hY.cell 6
  have y7 := hY.cell 7
  have y8 := hY.cell 8
  have y9 := hY.cell 9
  have y10 := hY.cell 10
  have y11 := hY.cell 11
  have y12 := hY.cell 12
  have y13 := hY.cell 13
  simp at y0 y1 y2 y3 y4 y5 y6 y7 y8 y9 y10 y11 y12 y13
  have yl := hY.lt
  clear hX hJ hin hs hnK hnR hB hY
  rw [hk] at y0
  clear hk
  go_enter Try.func10, Try.ntmps10
  go_wp2_with (rw [← hW]; clear hW)
  refine wp_region_calmE 30 (fun wx => Below W.heap.size W wx) [(0, true), (1, true), (2, true), (3, false), (4, true), (5, false), (6, true), (7, false)] (.one 8 false [(9, true)] .done) (by kernel_rfl) (by kernel_rfl) (Below.refl _ _).drew ?_
  refine wpPre_e rfl rfl (fun K1 hK1 => ?_)
  apply Exists.intro
  refine And.intro (fun wx hx => ?_) ?_
  · go_simp
    try rfl
  go_simp
  refine hK1 _ ?_
  clear hK1 K1
  refine wpPre_e rfl rfl (fun K1 hK1 => ?_)
  apply Exists.intro
  refine And.intro (fun wx hx => ?_) ?_
  · go_simp
    try rfl
  go_simp
  refine hK1 _ ?_
  clear hK1 K1
  refine wpPre_e rfl rfl (fun K1 hK1 => ?_)
  apply Exists.intro
  refine And.intro (fun wx hx => ?_) ?_
  · go_simp
    try rfl
  go_simp
  refine hK1 _ ?_
  clear hK1 K1
  refine wpPre_e rfl rfl (fun K1 hK1 => ?_)
  apply Exists.intro
  refine And.intro (fun wx hx => ?_) ?_
  · have e0 := below_fact hx rfl p1
    have e1 := below_fact hx rfl y2
    have e2 := below_fact hx rfl y4
    have e3 := below_fact hx rfl y5
    have e4 := below_fact hx rfl y6
    have e5 := below_fact hx rfl y7
    have e6 := below_fact hx rfl y8
    have e7 := below_fact hx rfl y9
    go_simp
    try rfl
  go_simp
  refine hK1 _ ?_
  clear hK1 K1
  refine wpPre_e rfl rfl (fun K1 hK1 => ?_)
  apply Exists.intro
  refine And.intro (fun wx hx => ?_) ?_
  · go_simp
    try rfl
  go_simp
  refine hK1 _ ?_
  clear hK1 K1
  refine wpPre_e rfl rfl (fun K1 hK1 => ?_)
  apply Exists.intro
  refine And.intro (fun wx hx => ?_) ?_
  · have e0 := below_fact hx rfl p1
    have e1 := below_fact hx rfl y2
    have e2 := below_fact hx rfl y4
    have e3 := below_fact hx rfl y5
    have e4 := below_fact hx rfl y6
    have e5 := below_fact hx rfl y7
    have e6 := below_fact hx rfl y8
    have e7 := below_fact hx rfl y9
    go_simp
    try rfl
  go_simp
  refine hK1 _ ?_
  clear hK1 K1
  refine wpPre_e rfl rfl (fun K1 hK1 => ?_)
  apply Exists.intro
  refine And.intro (fun wx hx => ?_) ?_
  · go_simp
    try rfl
  go_simp
  refine hK1 _ ?_
  clear hK1 K1
  refine wpPre_e rfl rfl (fun K1 hK1 => ?_)
  apply Exists.intro
  refine And.intro (fun wx hx => ?_) ?_
  · have e0 := below_fact hx rfl p1
    have e1 := below_fact hx rfl y2
    have e2 := below_fact hx rfl y4
    have e3 := below_fact hx rfl y5
    have e4 := below_fact hx rfl y6
    have e5 := below_fact hx rfl y7
    have e6 := below_fact hx rfl y8
    have e7 := below_fact hx rfl y9
    go_simp
    try rfl
  go_simp
  refine hK1 _ ?_
  clear hK1 K1
  refine wpPre_nil ?_
  refine wpTr_e rfl (fun K1 hK1 => ?_)
  refine step_call rfl 19 #[.tmp 24, .tmp 26, .tmp 28] _ rfl Try.f19 Try.func19 (by kernel_rfl) rfl #[.pointer (some ⟨rb, 0, none⟩), .int .i64 o.port, .agg #[.string o.r.key, .int .i64 o.r.v.kind, .int .i64 o.r.v.int, .string o.r.v.text, .slice o.r.v.p o.r.v.n o.r.v.c, .slice o.r.p o.r.n o.r.c]] rfl _ (rtook_any o.port o.r W.drew (fun k => k < w0.heap.size) rb R (HJ.out.below (Below.refl _ _).drew).pb.r (HIn.out _ (HJ.out.below (Below.refl _ _).drew).pb.bok.bel HB.out.size).r HS.out.r (by have := HP4.out; omega) HP4.out.1 HP4.out.2.1) (fun e w1 h1 => ?_)
  obtain ⟨R1, rfl, hQ1⟩ := h1
  refine ⟨_, rfl, ?_⟩
  have HJd := hid (HJ.out.below (Below.refl W.heap.size W).drew)
  have HQ1 : Hid (RTookQ o.port o.r W.drew rb R w1 R1) := hQ1
  have HB1 := hid (HJd.out.pb.rstep hQ1.s)
  have HM1 := hid (HJd.out.pm.rtook HJd.out.pb hQ1)
  have hX1 := (HX.out.below (Below.refl _ _).drew).kept (hQ1.s.out (by have := HX.out.lt; exact this) HnR.out).1
  have hY1 := (HY.out.below (Below.refl _ _).drew).kept (hQ1.s.out (by have := HY.out.lt; exact this) HnY.out.2).1
  clear hQ1
  go_simp
  refine hK1 _ _ (fun h => by cases h) ?_
  clear hK1 K1
  refine wpPre_e rfl rfl (fun K1 hK1 => ?_)
  apply Exists.intro
  refine And.intro (fun wx hx => ?_) ?_
  · go_simp
    try rfl
  go_simp
  refine hK1 _ ?_
  clear hK1 K1
  refine wpPre_nil ?_
  refine wpTr_done ?_
  clear p0 p1 y0 y1 y2 y3 y4 y5 y6 y7 y8 y9 y10 y11 y12 y13 pl yl
  have p0 := hX1.cell 0
  have pl := hX1.lt
  simp at p0
  have y2 := hY1.cell 2
  have y4 := hY1.cell 4
  have y5 := hY1.cell 5
  have y6 := hY1.cell 6
  have y7 := hY1.cell 7
  have y8 := hY1.cell 8
  have y9 := hY1.cell 9
  simp at y2 y4 y5 y6 y7 y8 y9
  have yl := hY1.lt
  have hsw : w.heap.size ≤ w1.heap.size := Nat.le_trans HB.out.size HQ1.out.s.but.size
  clear hX1 hY1
  go_wp2_with fail
  refine wp_region_calmE 30 (fun wx => Below w1.heap.size w1 wx) [(0, true), (1, true), (2, true), (3, false), (4, true), (5, false), (6, true), (7, false)] (.one 8 true [] (.one 9 false [(10, true)] .done)) (by kernel_rfl) (by kernel_rfl) (Below.refl _ _).drew ?_
  refine wpPre_e rfl rfl (fun K1 hK1 => ?_)
  apply Exists.intro
  refine And.intro (fun wx hx => ?_) ?_
  · go_simp
    try rfl
  go_simp
  refine hK1 _ ?_
  clear hK1 K1
  refine wpPre_e rfl rfl (fun K1 hK1 => ?_)
  apply Exists.intro
  refine And.intro (fun wx hx => ?_) ?_
  · go_simp
    try rfl
  go_simp
  refine hK1 _ ?_
  clear hK1 K1
  refine wpPre_e rfl rfl (fun K1 hK1 => ?_)
  apply Exists.intro
  refine And.intro (fun wx hx => ?_) ?_
  · go_simp
    try rfl
  go_simp
  refine hK1 _ ?_
  clear hK1 K1
  refine wpPre_e rfl rfl (fun K1 hK1 => ?_)
  apply Exists.intro
  refine And.intro (fun wx hx => ?_) ?_
  · have e0 := below_fact hx rfl p0
    have e1 := below_fact hx rfl y2
    have e2 := below_fact hx rfl y4
    have e3 := below_fact hx rfl y5
    have e4 := below_fact hx rfl y6
    have e5 := below_fact hx rfl y7
    have e6 := below_fact hx rfl y8
    have e7 := below_fact hx rfl y9
    go_simp
    try rfl
  go_simp
  refine hK1 _ ?_
  clear hK1 K1
  refine wpPre_e rfl rfl (fun K1 hK1 => ?_)
  apply Exists.intro
  refine And.intro (fun wx hx => ?_) ?_
  · go_simp
    try rfl
  go_simp
  refine hK1 _ ?_
  clear hK1 K1
  refine wpPre_e rfl rfl (fun K1 hK1 => ?_)
  apply Exists.intro
  refine And.intro (fun wx hx => ?_) ?_
  · have e0 := below_fact hx rfl p0
    have e1 := below_fact hx rfl y2
    have e2 := below_fact hx rfl y4
    have e3 := below_fact hx rfl y5
    have e4 := below_fact hx rfl y6
    have e5 := below_fact hx rfl y7
    have e6 := below_fact hx rfl y8
    have e7 := below_fact hx rfl y9
    go_simp
    try rfl
  go_simp
  refine hK1 _ ?_
  clear hK1 K1
  refine wpPre_e rfl rfl (fun K1 hK1 => ?_)
  apply Exists.intro
  refine And.intro (fun wx hx => ?_) ?_
  · go_simp
    try rfl
  go_simp
  refine hK1 _ ?_
  clear hK1 K1
  refine wpPre_e rfl rfl (fun K1 hK1 => ?_)
  apply Exists.intro
  refine And.intro (fun wx hx => ?_) ?_
  · have e0 := below_fact hx rfl p0
    have e1 := below_fact hx rfl y2
    have e2 := below_fact hx rfl y4
    have e3 := below_fact hx rfl y5
    have e4 := below_fact hx rfl y6
    have e5 := below_fact hx rfl y7
    have e6 := below_fact hx rfl y8
    have e7 := below_fact hx rfl y9
    go_simp
    try rfl
  go_simp
  refine hK1 _ ?_
  clear hK1 K1
  refine wpPre_nil ?_
  refine wpTr_e rfl (fun K1 hK1 => ?_)
  refine step_call rfl 21 #[.tmp 37] _ rfl Try.f21 Try.func21 (by kernel_rfl) rfl #[.agg #[.string o.r.key, .int .i64 o.r.v.kind, .int .i64 o.r.v.int, .string o.r.v.text, .slice o.r.v.p o.r.v.n o.r.v.c, .slice o.r.p o.r.n o.r.c]] rfl _ (copyR o.r w1.drew (fun k => k < w0.heap.size) (HIn.out _ HB1.out.bok.bel.drew hsw).r HS.out.r) (fun e w2 h2 => ?_)
  obtain ⟨u, rfl, hal, hinu, hb2⟩ := h2
  refine ⟨_, rfl, ?_⟩
  have b2 : Below w1.heap.size w1 w2 := (Below.refl w1.heap.size w1).drew.trans hb2
  have hinu' : RT.In w2 (fun b => w1.heap.size ≤ b) u := hinu
  clear hb2 hinu
  go_simp
  refine hK1 _ _ (fun _ => b2) ?_
  clear hK1 K1
  refine wpPre_nil ?_
  refine wpTr_e rfl (fun K1 hK1 => ?_)
  refine step_call rfl 20 #[.tmp 33, .tmp 35, .tmp 38] _ rfl Try.f20 Try.func20 (by kernel_rfl) rfl #[.pointer (some ⟨b, 0, none⟩), .int .i64 o.port, .agg #[.string u.key, .int .i64 u.v.kind, .int .i64 u.v.int, .string u.v.text, .slice u.v.p u.v.n u.v.c, .slice u.p u.n u.c]] rfl _ (took_any o.port u w2 (fun k => w1.heap.size ≤ k) b K (HB1.out.below b2).bok.i hinu' (by rw [hal.size]; exact HS.out.r) (fun i hi => by have := HJ.out.lg i hi; omega)) (fun e w3 h3 => ?_)
  obtain ⟨K3, rfl, hQ3⟩ := h3
  refine ⟨_, rfl, ?_⟩
  have HE : Hid (K.tookE o.port = R.tookE o.port) := (HJ.out.ep.tookE HP4.out.2.2.1 o.port).symm
  have HR : Hid (PSet w b rb K R w3 K3 R1 ∧ PJ w0 w3 b rb N (m + 1) K3 R1) := by
    have q3 := hQ3.via hal
    have hb2 := HB1.out.below b2
    have ht := HJ.out.sz.took HS.out.r HQ1.out
    refine ⟨(((PSet.bel (HB.out.trans ((Below.refl _ _).drew.mono HB.out.size))).trans (PSet.ofR HQ1.out.s)).trans (PSet.bel b2)).trans (PSet.ofB hQ3.s), hb2.bstep hQ3.s, (HM1.out.below HB1.out b2).took hb2 hQ3, HJ.out.ep.tookX HP4.out.2.2.1 q3 HQ1.out, hN4, ?_, LgN.tookM HJ.out.lg hQ3, ?_, ht.1, HJ.out.pt.took HQ1.out⟩
    · rw [hQ3.po]; exact HJ.out.po
    · have := HJ.out.rn; have := ht.2; omega
  clear hQ3 hal hinu' b2
  rw [HE.out]
  go_simp
  refine hK1 _ _ (fun h => by cases h) ?_
  clear hK1 K1
  refine wpPre_e rfl rfl (fun K1 hK1 => ?_)
  apply Exists.intro
  refine And.intro (fun wx hx => ?_) ?_
  · go_simp
    try rfl
  go_simp
  refine hK1 _ ?_
  clear hK1 K1
  refine wpPre_nil ?_
  refine wpTr_done ?_
  go_wp2_with (go_at_call 13; refine (num_any _ _).mono ?_; rintro e w5 ⟨rfl, hw5⟩; rw [hw5]; clear hw5 w5)
  refine bodyPost_ret (v := .bool true) (by simp [results, Try.results10, go_sem]) rfl ?_
  exact ⟨rfl, K3, R1, HR.out⟩
end Go.Proofs.Ytdncnnjhfipokab
