import Derived.Test.YtdncnnjhfipokaaPack31
import Derived.Test.YtdncnnjhfipokaaKdB
import Derived.Deep.DeepCutAuto
namespace Go.Proofs.Ytdncnnjhfipokaa
open Go.RowKit
set_option maxRecDepth 8000
set_option maxHeartbeats 16000000 in
theorem plays_mark (A : Nat → Prop) (o : OpT) (w0 w : World) (pb b rb N m : Nat) (K : Bk) (R : Rb) (hX : Box w pb #[.pointer (some ⟨b, 0, none⟩), .pointer (some ⟨rb, 0, none⟩)] 67) (hJ : PJ A w0 w b rb N m K R) (hm : m ≤ 5000) (hnK : ¬ K.C b pb) (hnR : ¬ R.C rb pb) (hin : OpT.In w (fun k => k < w0.heap.size) o) (hs : OpSz o) (hk : o.kind = 2) :
    Calls Try.prog 26 #[.pointer (some ⟨pb, 0, none⟩), .agg #[.int .i64 o.kind, .int .i64 o.which, .int .i64 o.port, .int .i64 o.id, .string o.r.key, .int .i64 o.r.v.kind, .int .i64 o.r.v.int, .string o.r.v.text, .slice o.r.v.p o.r.v.n o.r.v.c, .slice o.r.p o.r.n o.r.c, .slice o.a.p o.a.n o.a.c, .slice o.q.p o.q.n o.q.c, .int .i64 o.num, .slice o.l.p o.l.n o.l.c]] w fun e w' => PlaysP A w0 w b rb N m K R e w' := by
  obtain ⟨W, hW⟩ : ∃ W, W = w.alloc (.cells #[.int .i64 o.kind, .int .i64 o.which, .int .i64 o.port, .int .i64 o.id, .string o.r.key, .int .i64 o.r.v.kind, .int .i64 o.r.v.int, .string o.r.v.text, .slice o.r.v.p o.r.v.n o.r.v.c, .slice o.r.p o.r.n o.r.c, .slice o.a.p o.a.n o.a.c, .slice o.q.p o.q.n o.q.c, .int .i64 o.num, .slice o.l.p o.l.n o.l.c] 42) := ⟨_, rfl⟩
  have hB : Below w.heap.size w W := by rw [hW]; exact (Below.refl _ _).alloc (Nat.le_refl _) _
  have hY : Box W w.heap.size #[.int .i64 o.kind, .int .i64 o.which, .int .i64 o.port, .int .i64 o.id, .string o.r.key, .int .i64 o.r.v.kind, .int .i64 o.r.v.int, .string o.r.v.text, .slice o.r.v.p o.r.v.n o.r.v.c, .slice o.r.p o.r.n o.r.c, .slice o.a.p o.a.n o.a.c, .slice o.q.p o.q.n o.q.c, .int .i64 o.num, .slice o.l.p o.l.n o.l.c] 42 := by rw [hW]; exact Box.new _ _ _
  have HB := hid hB
  have HX := hid (hX.below hB)
  have HY := hid hY
  have HJ0 := hid hJ
  obtain ⟨B, hBd⟩ : ∃ B : Nat → Prop, B = fun k => A k ∨ w.heap.size ≤ k := ⟨_, rfl⟩
  have HBn : Hid (∀ k, w.heap.size ≤ k → B k) := fun k hk => by rw [hBd]; exact .inr hk
  have HJ : Hid (PJ B w0 W b rb N m K R) := (hJ.below hB).wide (fun k _ hk => by rw [hBd]; exact .inl hk)
  have HBd := hid hBd
  clear hBd
  have HIn : Hid (∀ V, Below w0.heap.size w0 V → w.heap.size ≤ V.heap.size → OpT.In V (fun k => k < w0.heap.size) o) := fun V hV hs => hin.kept hs (fun k hk _ => (hV.block k hk).trans (hJ.pb.bok.bel.block k hk).symm)
  have HS := hid hs
  have HnK := hid hnK
  have HnR := hid hnR
  have hpl : pb < w.heap.size := hX.lt
  have HnY : Hid (¬ K.C b w.heap.size ∧ ¬ R.C rb w.heap.size) := ⟨fun e => by have := hJ.pb.bok.i.lt e; omega, fun e => by have := hJ.pb.r.lt e; omega⟩
  have hN4 := hJ.n4
  have HP4 : Hid (0 ≤ R.ports ∧ R.ports ≤ 4 ∧ K.ports ≤ 4 ∧ R.ls.n ≤ 5000) := ⟨by have := hJ.ep.ports; have := hJ.po; omega, by have := hJ.ep.ports; have := hJ.po; omega, by have := hJ.po; omega, by have := hJ.rn; omega⟩
  have p0 := HX.out.cell 0
  have p1 := HX.out.cell 1
  have pl := HX.out.lt
  simp at p0 p1
  have y0 := hY.cell 0
  have y1 := hY.cell 1
  have y2 := hY.cell 2
  have y3 := hY.cell 3
  have y4 := hY.cell 4
  have y5 := hY.cell 5
  have y6 := hY.cell 6
  have y7 := hY.cell 7
  have y8 := hY.cell 8
  have y9 := hY.cell 9
  have y10 := hY.cell 10
  have y11 := hY.cell 11
  have y12 := hY.cell 12
  have y13 := hY.cell 13
  simp at y0 y1 y2 y3 y4 y5 y6 y7 y8 y9 y10 y11 y12 y13
  have yl := hY.lt
  clear hX hJ hin hs hnK hnR hB hY
  rw [hk] at y0
  clear hk
  go_enter Try.func26, Try.ntmps26
  go_wp2_with (rw [← hW]; clear hW)
  refine wp_region_calmE 30 (fun wx => Below W.heap.size W wx) [(0, true), (1, true), (2, true), (3, false), (4, true), (5, false), (6, true), (7, false), (8, true), (9, false), (10, true), (11, false), (12, true), (13, false)] (.one 14 false [(15, true), (16, true), (17, true), (18, true), (19, true)] .done) (by kernel_rfl) (by kernel_rfl) (Below.refl _ _).drew ?_
  refine wpPre_e rfl rfl (fun K1 hK1 => ?_)
  apply Exists.intro
  refine And.intro (fun wx hx => ?_) ?_
  · go_simp
    try rfl
  go_simp
  refine hK1 _ ?_
  clear hK1 K1
  refine wpPre_e rfl rfl (fun K1 hK1 => ?_)
  apply Exists.intro
  refine And.intro (fun wx hx => ?_) ?_
  · go_simp
    try rfl
  go_simp
  refine hK1 _ ?_
  clear hK1 K1
  refine wpPre_e rfl rfl (fun K1 hK1 => ?_)
  apply Exists.intro
  refine And.intro (fun wx hx => ?_) ?_
  · go_simp
    try rfl
  go_simp
  refine hK1 _ ?_
  clear hK1 K1
  refine wpPre_e rfl rfl (fun K1 hK1 => ?_)
  apply Exists.intro
  refine And.intro (fun wx hx => ?_) ?_
  · have e0 := below_fact hx rfl p1
    have e1 := below_fact hx rfl y2
    have e2 := below_fact hx rfl y3
    have e3 := below_fact hx rfl y10
    have e4 := below_fact hx rfl y11
    have e5 := below_fact hx rfl y12
    have e6 := below_fact hx rfl y13
    go_simp
    try rfl
  go_simp
  refine hK1 _ ?_
  clear hK1 K1
  refine wpPre_e rfl rfl (fun K1 hK1 => ?_)
  apply Exists.intro
  refine And.intro (fun wx hx => ?_) ?_
  · go_simp
    try rfl
  go_simp
  refine hK1 _ ?_
  clear hK1 K1
  refine wpPre_e rfl rfl (fun K1 hK1 => ?_)
  apply Exists.intro
  refine And.intro (fun wx hx => ?_) ?_
  · have e0 := below_fact hx rfl p1
    have e1 := below_fact hx rfl y2
    have e2 := below_fact hx rfl y3
    have e3 := below_fact hx rfl y10
    have e4 := below_fact hx rfl y11
    have e5 := below_fact hx rfl y12
    have e6 := below_fact hx rfl y13
    go_simp
    try rfl
  go_simp
  refine hK1 _ ?_
  clear hK1 K1
  refine wpPre_e rfl rfl (fun K1 hK1 => ?_)
  apply Exists.intro
  refine And.intro (fun wx hx => ?_) ?_
  · go_simp
    try rfl
  go_simp
  refine hK1 _ ?_
  clear hK1 K1
  refine wpPre_e rfl rfl (fun K1 hK1 => ?_)
  apply Exists.intro
  refine And.intro (fun wx hx => ?_) ?_
  · have e0 := below_fact hx rfl p1
    have e1 := below_fact hx rfl y2
    have e2 := below_fact hx rfl y3
    have e3 := below_fact hx rfl y10
    have e4 := below_fact hx rfl y11
    have e5 := below_fact hx rfl y12
    have e6 := below_fact hx rfl y13
    go_simp
    try rfl
  go_simp
  refine hK1 _ ?_
  clear hK1 K1
  refine wpPre_e rfl rfl (fun K1 hK1 => ?_)
  apply Exists.intro
  refine And.intro (fun wx hx => ?_) ?_
  · go_simp
    try rfl
  go_simp
  refine hK1 _ ?_
  clear hK1 K1
  refine wpPre_e rfl rfl (fun K1 hK1 => ?_)
  apply Exists.intro
  refine And.intro (fun wx hx => ?_) ?_
  · have e0 := below_fact hx rfl p1
    have e1 := below_fact hx rfl y2
    have e2 := below_fact hx rfl y3
    have e3 := below_fact hx rfl y10
    have e4 := below_fact hx rfl y11
    have e5 := below_fact hx rfl y12
    have e6 := below_fact hx rfl y13
    go_simp
    try rfl
  go_simp
  refine hK1 _ ?_
  clear hK1 K1
  refine wpPre_e rfl rfl (fun K1 hK1 => ?_)
  apply Exists.intro
  refine And.intro (fun wx hx => ?_) ?_
  · go_simp
    try rfl
  go_simp
  refine hK1 _ ?_
  clear hK1 K1
  refine wpPre_e rfl rfl (fun K1 hK1 => ?_)
  apply Exists.intro
  refine And.intro (fun wx hx => ?_) ?_
  · have e0 := below_fact hx rfl p1
    have e1 := below_fact hx rfl y2
    have e2 := below_fact hx rfl y3
    have e3 := below_fact hx rfl y10
    have e4 := below_fact hx rfl y11
    have e5 := below_fact hx rfl y12
    have e6 := below_fact hx rfl y13
    go_simp
    try rfl
  go_simp
  refine hK1 _ ?_
  clear hK1 K1
  refine wpPre_e rfl rfl (fun K1 hK1 => ?_)
  apply Exists.intro
  refine And.intro (fun wx hx => ?_) ?_
  · go_simp
    try rfl
  go_simp
  refine hK1 _ ?_
  clear hK1 K1
  refine wpPre_e rfl rfl (fun K1 hK1 => ?_)
  apply Exists.intro
  refine And.intro (fun wx hx => ?_) ?_
  · have e0 := below_fact hx rfl p1
    have e1 := below_fact hx rfl y2
    have e2 := below_fact hx rfl y3
    have e3 := below_fact hx rfl y10
    have e4 := below_fact hx rfl y11
    have e5 := below_fact hx rfl y12
    have e6 := below_fact hx rfl y13
    go_simp
    try rfl
  go_simp
  refine hK1 _ ?_
  clear hK1 K1
  refine wpPre_nil ?_
  refine wpTr_e rfl (fun K1 hK1 => ?_)
  have HId := hid (HIn.out _ (HJ.out.below (Below.refl _ _).drew).pb.bok.bel HB.out.size)
  refine step_call rfl 47 #[.tmp 50, .tmp 52, .tmp 54, .tmp 56, .tmp 58, .tmp 60] _ rfl Try.f47 Try.func47 (by kernel_rfl) rfl #[.pointer (some ⟨rb, 0, none⟩), .int .i64 o.port, .int .i64 o.id, .slice o.a.p o.a.n o.a.c, .agg #[.int .i64 o.num, .slice o.l.p o.l.n o.l.c], .slice o.q.p o.q.n o.q.c] rfl _ (rmark_any o.port o.id o.a o.num o.l o.q W.drew (fun k => k < w0.heap.size) rb R (HJ.out.below (Below.refl _ _).drew).pb.r (fun k hk e => by have := HJ.out.pb.rc k e; omega) HId.out.a HId.out.l HId.out.q HS.out.a HS.out.l HS.out.q (by have := HP4.out; omega) HP4.out.1 HP4.out.2.1) (fun e w1 h1 => ?_)
  obtain ⟨R1, r1, rfl, hQ1⟩ := h1
  refine ⟨_, rfl, ?_⟩
  have HJd := hid (HJ.out.below (Below.refl W.heap.size W).drew)
  have HQ1 : Hid (RMarkQ o.port o.id o.a o.num o.l o.q W.drew rb R w1 R1 r1) := hQ1
  have HB1 := hid (HJd.out.pb.rstep hQ1.s)
  have HM1 := hid (HJd.out.pm.rmark HJd.out.pb (fun k hk => HBn.out k (Nat.le_trans HB.out.size hk)) hQ1)
  have hX1 := (HX.out.below (Below.refl _ _).drew).kept (hQ1.s.out (by have := HX.out.lt; exact this) HnR.out).1
  have hY1 := (HY.out.below (Below.refl _ _).drew).kept (hQ1.s.out (by have := HY.out.lt; exact this) HnY.out.2).1
  clear hQ1 HId
  go_simp
  refine hK1 _ _ (fun h => by cases h) ?_
  clear hK1 K1
  refine wpPre_e rfl rfl (fun K1 hK1 => ?_)
  apply Exists.intro
  refine And.intro (fun wx hx => ?_) ?_
  · go_simp
    try rfl
  go_simp
  refine hK1 _ ?_
  clear hK1 K1
  refine wpPre_e rfl rfl (fun K1 hK1 => ?_)
  apply Exists.intro
  refine And.intro (fun wx hx => ?_) ?_
  · go_simp
    try rfl
  go_simp
  refine hK1 _ ?_
  clear hK1 K1
  refine wpPre_e rfl rfl (fun K1 hK1 => ?_)
  apply Exists.intro
  refine And.intro (fun wx hx => ?_) ?_
  · go_simp
    try rfl
  go_simp
  refine hK1 _ ?_
  clear hK1 K1
  refine wpPre_e rfl rfl (fun K1 hK1 => ?_)
  apply Exists.intro
  refine And.intro (fun wx hx => ?_) ?_
  · go_simp
    try rfl
  go_simp
  refine hK1 _ ?_
  clear hK1 K1
  refine wpPre_e rfl rfl (fun K1 hK1 => ?_)
  apply Exists.intro
  refine And.intro (fun wx hx => ?_) ?_
  · go_simp
    try rfl
  go_simp
  refine hK1 _ ?_
  clear hK1 K1
  refine wpPre_nil ?_
  refine wpTr_done ?_
  clear p0 p1 y0 y1 y2 y3 y4 y5 y6 y7 y8 y9 y10 y11 y12 y13 pl yl
  have p0 := hX1.cell 0
  have pl := hX1.lt
  simp at p0
  have y2 := hY1.cell 2
  have y3 := hY1.cell 3
  have y10 := hY1.cell 10
  have y11 := hY1.cell 11
  have y12 := hY1.cell 12
  have y13 := hY1.cell 13
  simp at y2 y3 y10 y11 y12 y13
  have yl := hY1.lt
  have hsw : w.heap.size ≤ w1.heap.size := Nat.le_trans HB.out.size HQ1.out.s.but.size
  clear hX1 hY1
  go_wp2_with fail
  have HIn1 : Hid (∀ V, Below w1.heap.size w1 V → OpT.In V (fun k => k < w0.heap.size) o) := fun V hV => HIn.out V (HB1.out.bok.bel.trans (hV.mono HB1.out.bok.bel.size)) (Nat.le_trans hsw hV.size)
  refine wp_region_calmE 30 (fun wx => Below w1.heap.size w1 wx) [(0, true), (1, true), (2, true), (3, false), (4, true), (5, false), (6, true), (7, false), (8, true), (9, false), (11, true), (12, false), (14, true), (15, false)] (.one 10 true [] (.one 13 true [] (.one 16 true [] (.one 17 false [(18, true), (19, true), (20, true), (21, true), (22, true)] .done)))) (by kernel_rfl) (by kernel_rfl) (Below.refl _ _).drew ?_
  refine wpPre_e rfl rfl (fun K1 hK1 => ?_)
  apply Exists.intro
  refine And.intro (fun wx hx => ?_) ?_
  · go_simp
    try rfl
  go_simp
  refine hK1 _ ?_
  clear hK1 K1
  refine wpPre_e rfl rfl (fun K1 hK1 => ?_)
  apply Exists.intro
  refine And.intro (fun wx hx => ?_) ?_
  · go_simp
    try rfl
  go_simp
  refine hK1 _ ?_
  clear hK1 K1
  refine wpPre_e rfl rfl (fun K1 hK1 => ?_)
  apply Exists.intro
  refine And.intro (fun wx hx => ?_) ?_
  · go_simp
    try rfl
  go_simp
  refine hK1 _ ?_
  clear hK1 K1
  refine wpPre_e rfl rfl (fun K1 hK1 => ?_)
  apply Exists.intro
  refine And.intro (fun wx hx => ?_) ?_
  · have e0 := below_fact hx rfl p0
    have e1 := below_fact hx rfl y2
    have e2 := below_fact hx rfl y3
    have e3 := below_fact hx rfl y10
    have e4 := below_fact hx rfl y11
    have e5 := below_fact hx rfl y12
    have e6 := below_fact hx rfl y13
    go_simp
    try rfl
  go_simp
  refine hK1 _ ?_
  clear hK1 K1
  refine wpPre_e rfl rfl (fun K1 hK1 => ?_)
  apply Exists.intro
  refine And.intro (fun wx hx => ?_) ?_
  · go_simp
    try rfl
  go_simp
  refine hK1 _ ?_
  clear hK1 K1
  refine wpPre_e rfl rfl (fun K1 hK1 => ?_)
  apply Exists.intro
  refine And.intro (fun wx hx => ?_) ?_
  · have e0 := below_fact hx rfl p0
    have e1 := below_fact hx rfl y2
    have e2 := below_fact hx rfl y3
    have e3 := below_fact hx rfl y10
    have e4 := below_fact hx rfl y11
    have e5 := below_fact hx rfl y12
    have e6 := below_fact hx rfl y13
    go_simp
    try rfl
  go_simp
  refine hK1 _ ?_
  clear hK1 K1
  refine wpPre_e rfl rfl (fun K1 hK1 => ?_)
  apply Exists.intro
  refine And.intro (fun wx hx => ?_) ?_
  · go_simp
    try rfl
  go_simp
  refine hK1 _ ?_
  clear hK1 K1
  refine wpPre_e rfl rfl (fun K1 hK1 => ?_)
  apply Exists.intro
  refine And.intro (fun wx hx => ?_) ?_
  · have e0 := below_fact hx rfl p0
    have e1 := below_fact hx rfl y2
    have e2 := below_fact hx rfl y3
    have e3 := below_fact hx rfl y10
    have e4 := below_fact hx rfl y11
    have e5 := below_fact hx rfl y12
    have e6 := below_fact hx rfl y13
    go_simp
    try rfl
  go_simp
  refine hK1 _ ?_
  clear hK1 K1
  refine wpPre_e rfl rfl (fun K1 hK1 => ?_)
  apply Exists.intro
  refine And.intro (fun wx hx => ?_) ?_
  · go_simp
    try rfl
  go_simp
  refine hK1 _ ?_
  clear hK1 K1
  refine wpPre_e rfl rfl (fun K1 hK1 => ?_)
  apply Exists.intro
  refine And.intro (fun wx hx => ?_) ?_
  · have e0 := below_fact hx rfl p0
    have e1 := below_fact hx rfl y2
    have e2 := below_fact hx rfl y3
    have e3 := below_fact hx rfl y10
    have e4 := below_fact hx rfl y11
    have e5 := below_fact hx rfl y12
    have e6 := below_fact hx rfl y13
    go_simp
    try rfl
  go_simp
  refine hK1 _ ?_
  clear hK1 K1
  refine wpPre_e rfl rfl (fun K1 hK1 => ?_)
  apply Exists.intro
  refine And.intro (fun wx hx => ?_) ?_
  · go_simp
    try rfl
  go_simp
  refine hK1 _ ?_
  clear hK1 K1
  refine wpPre_e rfl rfl (fun K1 hK1 => ?_)
  apply Exists.intro
  refine And.intro (fun wx hx => ?_) ?_
  · have e0 := below_fact hx rfl p0
    have e1 := below_fact hx rfl y2
    have e2 := below_fact hx rfl y3
    have e3 := below_fact hx rfl y10
    have e4 := below_fact hx rfl y11
    have e5 := below_fact hx rfl y12
    have e6 := below_fact hx rfl y13
    go_simp
    try rfl
  go_simp
  refine hK1 _ ?_
  clear hK1 K1
  refine wpPre_e rfl rfl (fun K1 hK1 => ?_)
  apply Exists.intro
  refine And.intro (fun wx hx => ?_) ?_
  · go_simp
    try rfl
  go_simp
  refine hK1 _ ?_
  clear hK1 K1
  refine wpPre_e rfl rfl (fun K1 hK1 => ?_)
  apply Exists.intro
  refine And.intro (fun wx hx => ?_) ?_
  · have e0 := below_fact hx rfl p0
    have e1 := below_fact hx rfl y2
    have e2 := below_fact hx rfl y3
    have e3 := below_fact hx rfl y10
    have e4 := below_fact hx rfl y11
    have e5 := below_fact hx rfl y12
    have e6 := below_fact hx rfl y13
    go_simp
    try rfl
  go_simp
  refine hK1 _ ?_
  clear hK1 K1
  refine wpPre_nil ?_
  refine wpTr_e rfl (fun K1 hK1 => ?_)
  refine step_call rfl 41 #[.tmp 74] _ rfl Try.f41 Try.func41 (by kernel_rfl) rfl #[.slice o.a.p o.a.n o.a.c] rfl _ (copyRs o.a w1.drew (fun k => k < w0.heap.size) (HIn1.out _ (Below.refl _ _).drew).a HS.out.a) (fun e wA hA => ?_)
  obtain ⟨a1, rfl, aal, ain, ab⟩ := hA
  refine ⟨_, rfl, ?_⟩
  have bA : Below w1.heap.size w1 wA := (Below.refl w1.heap.size w1).drew.trans ab
  have HA1 : Hid (LT.Alk RT.Alike o.a a1 ∧ LT.In elRec wA (fun b => w1.heap.size ≤ b) a1 ∧ Below w1.heap.size w1 wA) := ⟨aal, ain, bA⟩
  clear aal ain ab
  go_simp
  refine hK1 _ _ (fun _ => bA) ?_
  clear hK1 K1
  refine wpPre_nil ?_
  refine wpTr_e rfl (fun K1 hK1 => ?_)
  refine step_call rfl 40 #[.tmp 77] _ rfl Try.f40 Try.func40 (by kernel_rfl) rfl #[.agg #[.int .i64 o.num, .slice o.l.p o.l.n o.l.c]] rfl _ (copyS o.num o.l wA (fun k => k < w0.heap.size) (HIn1.out _ bA).l HS.out.l) (fun e wB hB => ?_)
  obtain ⟨l1, rfl, lal, lin, lb⟩ := hB
  refine ⟨_, rfl, ?_⟩
  have bB : Below w1.heap.size w1 wB := bA.trans (lb.mono bA.size)
  have HL1 : Hid (LT.Alk VT.Alike o.l l1 ∧ LT.In elCell wB (fun b => wA.heap.size ≤ b) l1 ∧ Below wA.heap.size wA wB) := ⟨lal, lin, lb⟩
  clear lal lin lb
  go_simp
  refine hK1 _ _ (fun _ => bB) ?_
  clear hK1 K1
  refine wpPre_nil ?_
  refine wpTr_e rfl (fun K1 hK1 => ?_)
  refine step_call rfl 41 #[.tmp 80] _ rfl Try.f41 Try.func41 (by kernel_rfl) rfl #[.slice o.q.p o.q.n o.q.c] rfl _ (copyRs o.q wB (fun k => k < w0.heap.size) (HIn1.out _ bB).q HS.out.q) (fun e wC hC => ?_)
  obtain ⟨q1, rfl, qal, qin, qb⟩ := hC
  refine ⟨_, rfl, ?_⟩
  have bC : Below w1.heap.size w1 wC := bB.trans (qb.mono bB.size)
  have HQ2 : Hid (LT.Alk RT.Alike o.q q1 ∧ LT.In elRec wC (fun b => wB.heap.size ≤ b) q1 ∧ Below wB.heap.size wB wC) := ⟨qal, qin, qb⟩
  clear qal qin qb
  go_simp
  refine hK1 _ _ (fun _ => bC) ?_
  clear hK1 K1
  refine wpPre_nil ?_
  refine wpTr_e rfl (fun K1 hK1 => ?_)
  have HC : Hid (LT.In elRec wC (fun k => w1.heap.size ≤ k) a1 ∧ LT.In elCell wC (fun k => w1.heap.size ≤ k) l1 ∧ LT.In elRec wC (fun k => w1.heap.size ≤ k) q1) := by
    have sA := bA.size
    have sB := HL1.out.2.2.size
    exact ⟨(HA1.out.2.1.below HL1.out.2.2).below HQ2.out.2.2, (HL1.out.2.1.below HQ2.out.2.2).mono fun k hk _ => Nat.le_trans sA hk, HQ2.out.2.1.mono fun k hk _ => Nat.le_trans sA (Nat.le_trans sB hk)⟩
  have HBC := hid (HB1.out.below bC)
  refine step_call rfl 15 #[.tmp 68, .tmp 70, .tmp 72, .tmp 75, .tmp 78, .tmp 81] _ rfl Try.f15 Try.func15 (by kernel_rfl) rfl #[.pointer (some ⟨b, 0, none⟩), .int .i64 o.port, .int .i64 o.id, .slice a1.p a1.n a1.c, .agg #[.int .i64 o.num, .slice l1.p l1.n l1.c], .slice q1.p q1.n q1.c] rfl _ (mark_any o.port o.id a1 o.num l1 q1 wC (fun k => w1.heap.size ≤ k) b K HBC.out.bok.i (fun k hk e => by have := HB1.out.bok.i.lt e; omega) HC.out.2.1 HC.out.2.2 (HS.out.l.alk HL1.out.1) (HS.out.q.alk HQ2.out.1) HC.out.1 (HS.out.a.alk HA1.out.1) (fun i hi => by have := HJ.out.lg i hi; omega)) (fun e w3 h3 => ?_)
  obtain ⟨K3, r3, rfl, hQ3⟩ := h3
  refine ⟨_, rfl, ?_⟩
  have HE : Hid (K.refE o.port o.id = R.refE o.port o.id) := (HJ.out.ep.refE HP4.out.2.2.1 o.port o.id).symm
  have hEP := HJ.out.ep.markX hN4 HJ.out.po (hQ3.via HA1.out.1 HL1.out.1 HQ2.out.1) HQ1.out
  obtain ⟨hep, rfl⟩ := hEP
  have HR : Hid (PSet w b rb K R w3 K3 R1 ∧ PJ B w0 w3 b rb N (m + 1) K3 R1) := by
    have hid0 : R.refE o.port o.id = 0 → ¬ o.id = 0 := fun h => by
      unfold Rb.refE at h
      intro h2
      by_cases h3 : o.port < 0 ∨ R.ports ≤ o.port
      · rw [if_pos h3] at h; cases h
      · rw [if_neg h3, if_pos (.inl (by omega))] at h; cases h
    have ht := HJ.out.sz.mark HS.out.a HS.out.l HS.out.q hid0 HQ1.out
    refine ⟨(((PSet.bel (HB.out.trans ((Below.refl _ _).drew.mono HB.out.size))).trans (PSet.ofR HQ1.out.s)).trans (PSet.bel bC)).trans (PSet.ofB hQ3.s), HBC.out.bstep hQ3.s, (HM1.out.below HB1.out bC).mark HBC.out (fun k hk => HBn.out k (by have := bC.size; omega)) hQ3, hep, hN4, ?_, (HJ.out.lg.mark (HS.out.a.alk HA1.out.1) hQ3).le (by omega), ?_, ht.1, HJ.out.pt.mark HQ1.out⟩
    · rw [hQ3.po]; exact HJ.out.po
    · have := HJ.out.rn; have := ht.2; omega
  clear hQ3 hep bA bB bC HA1 HL1 HQ2 HC HBC
  rw [HE.out]
  go_simp
  refine hK1 _ _ (fun h => by cases h) ?_
  clear hK1 K1
  refine wpPre_e rfl rfl (fun K1 hK1 => ?_)
  apply Exists.intro
  refine And.intro (fun wx hx => ?_) ?_
  · go_simp
    try rfl
  go_simp
  refine hK1 _ ?_
  clear hK1 K1
  refine wpPre_e rfl rfl (fun K1 hK1 => ?_)
  apply Exists.intro
  refine And.intro (fun wx hx => ?_) ?_
  · go_simp
    try rfl
  go_simp
  refine hK1 _ ?_
  clear hK1 K1
  refine wpPre_e rfl rfl (fun K1 hK1 => ?_)
  apply Exists.intro
  refine And.intro (fun wx hx => ?_) ?_
  · go_simp
    try rfl
  go_simp
  refine hK1 _ ?_
  clear hK1 K1
  refine wpPre_e rfl rfl (fun K1 hK1 => ?_)
  apply Exists.intro
  refine And.intro (fun wx hx => ?_) ?_
  · go_simp
    try rfl
  go_simp
  refine hK1 _ ?_
  clear hK1 K1
  refine wpPre_e rfl rfl (fun K1 hK1 => ?_)
  apply Exists.intro
  refine And.intro (fun wx hx => ?_) ?_
  · go_simp
    try rfl
  go_simp
  refine hK1 _ ?_
  clear hK1 K1
  refine wpPre_nil ?_
  refine wpTr_done ?_
  go_wp2_with (go_at_call 11; refine (num_any _ _).mono ?_; rintro e w5 ⟨rfl, hw5⟩; rw [hw5]; clear hw5 w5)
  refine bodyPost_ret (v := .bool true) (by simp [results, Try.results26, go_sem]) rfl ?_
  exact ⟨rfl, K3, R1, by have e := HR.out; rw [HBd.out] at e; exact e⟩
end Go.Proofs.Ytdncnnjhfipokaa
