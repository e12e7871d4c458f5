import Derived.Test.YtikfpoabaaiegaaBgJ
namespace Go.Proofs.Ytikfpoabaaiegaa
open Go.RowKit
set_option maxRecDepth 8000
set_option maxHeartbeats 8000000 in
theorem refPutSeg_patch (g : GI) (w : World) (S : Nat → Prop) (hin : GI.In w S g) (hS : ∀ b, S b → b < w.heap.size) (hk : chkSeg g = 0) (hb0 : g.base ≠ 0) : Calls Try.prog 14 #[g.val] w fun x w' => PutP (segB g.to) w x w' := by
  obtain ⟨iI, KdI⟩ := kindI
  obtain ⟨iS, KdS⟩ := kindSt
  have HKI := hid KdI
  have HKS := hid KdS
  have ha : Below w.heap.size w (w.alloc (.cells #[.int .i64 g.id, .int .i64 g.task, .int .i64 g.base, .int .u32 (g.sum : Int), .int .i64 g.st.num, .slice g.st.p g.st.n g.st.c, .int .i64 g.dnum, .slice g.set.p g.set.n g.set.c, .slice g.gone.p g.gone.n g.gone.c, .slice g.logs.p g.logs.n g.logs.c, .slice g.pend.p g.pend.n g.pend.c] 38)) := (Below.refl _ _).alloc (Nat.le_refl _) _
  have hbx := Box.new w #[.int .i64 g.id, .int .i64 g.task, .int .i64 g.base, .int .u32 (g.sum : Int), .int .i64 g.st.num, .slice g.st.p g.st.n g.st.c, .int .i64 g.dnum, .slice g.set.p g.set.n g.set.c, .slice g.gone.p g.gone.n g.gone.c, .slice g.logs.p g.logs.n g.logs.c, .slice g.pend.p g.pend.n g.pend.c] 38
  have c0 := hbx.cell 0
  have c1 := hbx.cell 1
  have c2 := hbx.cell 2
  have c3 := hbx.cell 3
  have c4 := hbx.cell 4
  have c5 := hbx.cell 5
  have c6 := hbx.cell 6
  have c7 := hbx.cell 7
  have c8 := hbx.cell 8
  have c9 := hbx.cell 9
  have c10 := hbx.cell 10
  simp only [List.getElem?_toArray, List.getElem?_cons_zero, List.getElem?_cons_succ] at c0 c1 c2 c3 c4 c5 c6 c7 c8 c9 c10
  have HC := hid (refSegment_any g (w.alloc (.cells #[.int .i64 g.id, .int .i64 g.task, .int .i64 g.base, .int .u32 (g.sum : Int), .int .i64 g.st.num, .slice g.st.p g.st.n g.st.c, .int .i64 g.dnum, .slice g.set.p g.set.n g.set.c, .slice g.gone.p g.gone.n g.gone.c, .slice g.logs.p g.logs.n g.logs.c, .slice g.pend.p g.pend.n g.pend.c] 38)) S (hin.below ha))
  have HFG := hid (GI.to_fg hin hk)
  have HVG := hid (vg_of HFG.out.1)
  have HGT := hid (GI.to_in hin HFG.out.2.1 HFG.out.2.2.2)
  unfold GI.val at HC ⊢
  have HA := hid ha
  have HX := hid hbx
  have HIn := hid hin
  have HS := hid hS
  have HB0 := hid hb0
  have hbb : (g.base == 0) = false := by simpa using hb0
  clear ha hbx hin hS KdI KdS hb0
  go_enter Try.func14, Try.ntmps14
  go_wp2_with fail
  refine HC.out.mono ?_
  rintro x w2 ⟨rfl, hb2⟩
  have HB2 := hid (HA.out.trans (hb2.mono HA.out.size))
  have hx2 := HX.out.below hb2
  have hlt2 := hx2.lt
  have HX2 := hid hx2
  clear hb2 hx2 HC HX c0 c1 c2 c3 c4 c5 c6 c7 c8 c9 c10
  have hk' := eq_bool hk
  have hg : BGx w2 w2.heap.size (w2.alloc (.cells #[.slice none 0 0, .slice none 0 0, .slice none 0 0, .int .i64 0, .int .i64 0, .int .i64 0] 104)) [] [] [] := ⟨_, _, _, BG.start w2⟩
  have hws0 := (BG.start w2).box.lt
  obtain ⟨q, hq⟩ : ∃ q, q = w.heap.size := ⟨_, rfl⟩
  obtain ⟨rb, hrb⟩ : ∃ rb, rb = w2.heap.size := ⟨_, rfl⟩
  rw [← hq] at HX2 hlt2
  rw [← hrb] at hg hlt2 hws0
  have kept2 : ∀ b, S b → w2.heap[b]? = w.heap[b]? := fun b hb => HB2.out.block b (HS.out b hb)
  have HInS : Hid (LT.In elCell w2 S ⟨g.st.p, g.st.n, g.st.c, g.st.cell⟩) := (ST.toLT HIn.out.st.i HIn.out.st.nil).kept HB2.out.size (fun b hb _ => kept2 b hb)
  have HInD : Hid (LT.In elCell w2 S g.set) := HIn.out.set.kept HB2.out.size (fun b hb _ => kept2 b hb)
  have HInG : Hid (LT.In elStr w2 S g.gone) := HIn.out.gone.kept HB2.out.size (fun b hb _ => kept2 b hb)
  have HInL : Hid (LT.In elRecs w2 S g.logs) := HIn.out.logs.kept HB2.out.size (fun b hb _ => kept2 b hb)
  have HInP : Hid (LT.In elRec w2 S g.pend) := HIn.out.pend.kept HB2.out.size (fun b hb _ => kept2 b hb)
  have HS2 : Hid (∀ q, S q → q < rb) := fun q hq => by rw [hrb]; have := HS.out q hq; have := HB2.out.size; omega
  have HRB := hid hrb
  have HXW : Hid (∀ W, Below rb w2 W → Box W q #[.int .i64 g.id, .int .i64 g.task, .int .i64 g.base, .int .u32 (g.sum : Int), .int .i64 g.st.num, .slice g.st.p g.st.n g.st.c, .int .i64 g.dnum, .slice g.set.p g.set.n g.set.c, .slice g.gone.p g.gone.n g.gone.c, .slice g.logs.p g.logs.n g.logs.c, .slice g.pend.p g.pend.n g.pend.c] 38) := fun W hW => HX2.out.kept (hW.block q hlt2)
  have HVL : Hid (VLs g.logs) := HVG.out.logs
  have HVP : Hid (VRs g.pend) := HVG.out.pend
  rw [hk]
  clear hk kept2
  go_wp2_with fail
  rw [← hrb, ← hq]
  clear hq hrb
  obtain ⟨W, hW⟩ : ∃ W, W = w2.alloc (.cells #[.slice none 0 0, .slice none 0 0, .slice none 0 0, .int .i64 0, .int .i64 0, .int .i64 0] 104) := ⟨_, rfl⟩
  rw [← hW] at hg hws0 ⊢
  clear hW hws0
  go_cut [] (fun wx => BGx w2 rb wx (([] : List Int) ++ [g.id, g.task, g.base]) ([] : List ByteArray) ([] : List VT))
  case first =>
    obtain ⟨aN, bK, cV, h1⟩ := hg
    have hws := h1.box.lt
    have hx := HXW.out W h1.below
    have d0 := hx.cell 0
    have d1 := hx.cell 1
    have d2 := hx.cell 2
    simp at d0 d1 d2
    clear hx
    obtain ⟨pa, ca, rfl⟩ := ownsRow_slice h1.oN
    have x0 := h1.box.cell 0
    simp at x0
    refine wp_region_calm 30 (fun wx => Below W.heap.size W wx) [(0, true), (1, true), (2, true), (3, true), (4, false), (5, true), (6, false), (7, true), (8, false), (9, true), (10, false), (13, true), (14, true)] [(11, true), (12, false), (15, false)] (by kernel_rfl) (by kernel_rfl) (Below.refl _ _).drew ?_
    refine wpPre_e rfl rfl (fun K1 hK1 => ?_)
    apply Exists.intro
    refine And.intro (fun wx hx => ?_) ?_
    · go_simp
      try rfl
    go_simp
    refine hK1 _ ?_
    clear hK1 K1
    refine wpPre_e rfl rfl (fun K1 hK1 => ?_)
    apply Exists.intro
    refine And.intro (fun wx hx => ?_) ?_
    · go_simp
      try rfl
    go_simp
    refine hK1 _ ?_
    clear hK1 K1
    refine wpPre_e rfl rfl (fun K1 hK1 => ?_)
    apply Exists.intro
    refine And.intro (fun wx hx => ?_) ?_
    · go_simp
      try rfl
    go_simp
    refine hK1 _ ?_
    clear hK1 K1
    refine wpPre_e rfl rfl (fun K1 hK1 => ?_)
    apply Exists.intro
    refine And.intro (fun wx hx => ?_) ?_
    · go_simp
      try rfl
    go_simp
    refine hK1 _ ?_
    clear hK1 K1
    refine wpPre_e rfl rfl (fun K1 hK1 => ?_)
    apply Exists.intro
    refine And.intro (fun wx hx => ?_) ?_
    · have e0 := below_fact hx rfl x0; have e1 := below_fact hx rfl d0; have e2 := below_fact hx rfl d1; have e3 := below_fact hx rfl d2
      go_simp
      try rfl
    go_simp
    refine hK1 _ ?_
    clear hK1 K1
    refine wpPre_e rfl rfl (fun K1 hK1 => ?_)
    apply Exists.intro
    refine And.intro (fun wx hx => ?_) ?_
    · go_simp
      try rfl
    go_simp
    refine hK1 _ ?_
    clear hK1 K1
    refine wpPre_e rfl rfl (fun K1 hK1 => ?_)
    apply Exists.intro
    refine And.intro (fun wx hx => ?_) ?_
    · have e0 := below_fact hx rfl x0; have e1 := below_fact hx rfl d0; have e2 := below_fact hx rfl d1; have e3 := below_fact hx rfl d2
      go_simp
      try rfl
    go_simp
    refine hK1 _ ?_
    clear hK1 K1
    refine wpPre_e rfl rfl (fun K1 hK1 => ?_)
    apply Exists.intro
    refine And.intro (fun wx hx => ?_) ?_
    · go_simp
      try rfl
    go_simp
    refine hK1 _ ?_
    clear hK1 K1
    refine wpPre_e rfl rfl (fun K1 hK1 => ?_)
    apply Exists.intro
    refine And.intro (fun wx hx => ?_) ?_
    · have e0 := below_fact hx rfl x0; have e1 := below_fact hx rfl d0; have e2 := below_fact hx rfl d1; have e3 := below_fact hx rfl d2
      go_simp
      try rfl
    go_simp
    refine hK1 _ ?_
    clear hK1 K1
    refine wpPre_e rfl rfl (fun K1 hK1 => ?_)
    apply Exists.intro
    refine And.intro (fun wx hx => ?_) ?_
    · go_simp
      try rfl
    go_simp
    refine hK1 _ ?_
    clear hK1 K1
    refine wpPre_e rfl rfl (fun K1 hK1 => ?_)
    apply Exists.intro
    refine And.intro (fun wx hx => ?_) ?_
    · have e0 := below_fact hx rfl x0; have e1 := below_fact hx rfl d0; have e2 := below_fact hx rfl d1; have e3 := below_fact hx rfl d2
      go_simp
      try rfl
    go_simp
    refine hK1 _ ?_
    clear hK1 K1
    refine wpPre_e rfl rfl (fun K1 hK1 => ?_)
    apply Exists.intro
    refine And.intro (fun wx hx => ?_) ?_
    · go_simp
      try rfl
    go_simp
    refine hK1 _ ?_
    clear hK1 K1
    refine wpPre_e rfl rfl (fun K1 hK1 => ?_)
    apply Exists.intro
    refine And.intro (fun wx hx => ?_) ?_
    · go_simp
      try rfl
    go_simp
    refine hK1 _ ?_
    clear hK1 K1
    refine wpPre_nil ?_
    have hal : Below W.heap.size W ((W.alloc (.cells #[.int .i64 g.id, .int .i64 g.task, .int .i64 g.base] 3)).drew) := ((Below.refl _ _).alloc (Nat.le_refl _) _).drew
    have H1 := hid (h1.kept hal)
    have HNw := hid (new_many W [.int .i64 g.id, .int .i64 g.task, .int .i64 g.base] 3)
    refine wpSeq_e rfl (fun K1 hK1 => ?_)
    go_simp
    refine hK1 _ _ (fun _ => hal) ?_
    clear hK1 K1 hal
    refine wpSeq_e rfl (fun K1 hK1 => ?_)
    refine step_app rfl (.tmp 19) (.tmp 26) 25 3 iI _ 1 8 HKI.out rfl (rb + 1) _ ([] : List Int).length (intC ([] : List Int)) rfl H1.out.oN ⟨W.heap.size, 0, none⟩ 3 3 [.int .i64 g.id, .int .i64 g.task, .int .i64 g.base] rfl rfl HNw.out (one_ints [g.id, g.task, g.base]) (by first | omega | (simp; done)) (by first | omega | (simp; done)) (by have := h1.box.lt; simp; omega) ?_
    intro v3 w3 ho3 hg3 hn3
    obtain ⟨p3, c3, rfl⟩ := ownsRow_slice ho3
    have hx3 := H1.out.boxN hg3
    have y1 := hx3.cell 0
    have g1 := hx3.frozen 0
    simp at y1
    clear hx3
    go_simp
    refine hK1 _ _ (fun h => by cases h) ?_
    clear hK1 K1
    refine wpSeq_e rfl (fun K1 hK1 => ?_)
    go_simp
    refine hK1 _ _ (fun h => by cases h) ?_
    clear hK1 K1
    refine wpSeq_nil ?_
    go_wp2_with fail
    go_meet
    exact ⟨_, _, _, H1.out.nums (M := [g.id, g.task, g.base]) ho3 hg3 hn3⟩
  case rest =>
    clear hg
    have hg := hcut
    clear hcut
    obtain ⟨N1, hN1⟩ : ∃ N1, N1 = ([] : List Int) ++ [g.id, g.task, g.base] := ⟨_, rfl⟩
    rw [← hN1] at hg
    have HN1 := hid hN1
    have lN1 : N1.length ≤ 10 := by rw [hN1]; simp
    clear hN1
    have HNE : Hid (g.to.base ≠ 0) := by
      unfold Hid
      show g.base.toNat ≠ 0
      have := HFG.out.2.1.2.2
      have := HB0.out
      omega
    have HVD : Hid (VD g.to.d) := HVG.out.d HNE.out
    have HVS : Hid (VS g.dst) := by
      have h3 := (HFG.out.1.zero1 HNE.out).2.2.1
      have h4 : chkState ⟨((g.dnum.toNat : Nat) : Int), g.set.p, g.set.n, g.set.c, g.set.item⟩ = 0 := h3
      rw [Int.toNat_of_nonneg HFG.out.2.2.1] at h4
      exact vs_of h4
    have hg0 := hg
    obtain ⟨_, _, _, h2⟩ := hg0
    have hx := HXW.out wc h2.below
    have d2 := hx.cell 2
    simp at d2
    clear h2 hx
    go_wp2_with fail
    clear d2
    go_cut [] (fun wx => BGx w2 rb wx (N1 ++ [(g.sum : Int), g.dnum]) ([] : List ByteArray) ([] : List VT))
    case first =>
      obtain ⟨aN, bK, cV, h1⟩ := hg
      have hws := h1.box.lt
      have hx := HXW.out wc h1.below
      have d3 := hx.cell 3
      have d6 := hx.cell 6
      simp at d3 d6
      clear hx
      obtain ⟨pa, ca, rfl⟩ := ownsRow_slice h1.oN
      have x0 := h1.box.cell 0
      simp at x0
      have hwr : IntKind.i64.wrap (g.sum : Int) = (g.sum : Int) := by have := HIn.out.sum; rw [IntKind.wrap_i64]; omega
      refine wp_region_calm 30 (fun wx => Below wc.heap.size wc wx) [(0, true), (1, true), (2, true), (3, true), (4, false), (5, true), (6, false), (7, true), (8, true), (9, true), (10, false), (13, true), (14, true)] [(11, true), (12, false), (15, false)] (by kernel_rfl) (by kernel_rfl) (Below.refl _ _).drew ?_
      refine wpPre_e rfl rfl (fun K1 hK1 => ?_)
      apply Exists.intro
      refine And.intro (fun wx hx => ?_) ?_
      · go_simp
        try rfl
      go_simp
      refine hK1 _ ?_
      clear hK1 K1
      refine wpPre_e rfl rfl (fun K1 hK1 => ?_)
      apply Exists.intro
      refine And.intro (fun wx hx => ?_) ?_
      · go_simp
        try rfl
      go_simp
      refine hK1 _ ?_
      clear hK1 K1
      refine wpPre_e rfl rfl (fun K1 hK1 => ?_)
      apply Exists.intro
      refine And.intro (fun wx hx => ?_) ?_
      · go_simp
        try rfl
      go_simp
      refine hK1 _ ?_
      clear hK1 K1
      refine wpPre_e rfl rfl (fun K1 hK1 => ?_)
      apply Exists.intro
      refine And.intro (fun wx hx => ?_) ?_
      · go_simp
        try rfl
      go_simp
      refine hK1 _ ?_
      clear hK1 K1
      refine wpPre_e rfl rfl (fun K1 hK1 => ?_)
      apply Exists.intro
      refine And.intro (fun wx hx => ?_) ?_
      · have e0 := below_fact hx rfl x0; have e1 := below_fact hx rfl d3; have e2 := below_fact hx rfl d6
        go_simp
        try rfl
      go_simp
      refine hK1 _ ?_
      clear hK1 K1
      refine wpPre_e rfl rfl (fun K1 hK1 => ?_)
      apply Exists.intro
      refine And.intro (fun wx hx => ?_) ?_
      · go_simp
        try rfl
      go_simp
      refine hK1 _ ?_
      clear hK1 K1
      refine wpPre_e rfl rfl (fun K1 hK1 => ?_)
      apply Exists.intro
      refine And.intro (fun wx hx => ?_) ?_
      · have e0 := below_fact hx rfl x0; have e1 := below_fact hx rfl d3; have e2 := below_fact hx rfl d6
        go_simp
        try rfl
      go_simp
      refine hK1 _ ?_
      clear hK1 K1
      refine wpPre_e rfl rfl (fun K1 hK1 => ?_)
      apply Exists.intro
      refine And.intro (fun wx hx => ?_) ?_
      · go_simp
        try rfl
      go_simp
      refine hK1 _ ?_
      clear hK1 K1
      refine wpPre_e rfl rfl (fun K1 hK1 => ?_)
      apply Exists.intro
      refine And.intro (fun wx hx => ?_) ?_
      · go_simp
        try rfl
      go_simp
      refine hK1 _ ?_
      clear hK1 K1
      refine wpPre_e rfl rfl (fun K1 hK1 => ?_)
      apply Exists.intro
      refine And.intro (fun wx hx => ?_) ?_
      · go_simp
        try rfl
      go_simp
      refine hK1 _ ?_
      clear hK1 K1
      refine wpPre_e rfl rfl (fun K1 hK1 => ?_)
      apply Exists.intro
      refine And.intro (fun wx hx => ?_) ?_
      · have e0 := below_fact hx rfl x0; have e1 := below_fact hx rfl d3; have e2 := below_fact hx rfl d6
        go_simp
        try rfl
      go_simp
      refine hK1 _ ?_
      clear hK1 K1
      refine wpPre_e rfl rfl (fun K1 hK1 => ?_)
      apply Exists.intro
      refine And.intro (fun wx hx => ?_) ?_
      · go_simp
        try rfl
      go_simp
      refine hK1 _ ?_
      clear hK1 K1
      refine wpPre_e rfl rfl (fun K1 hK1 => ?_)
      apply Exists.intro
      refine And.intro (fun wx hx => ?_) ?_
      · go_simp
        try rfl
      go_simp
      refine hK1 _ ?_
      clear hK1 K1
      refine wpPre_nil ?_
      have hal : Below wc.heap.size wc ((wc.alloc (.cells #[.int .i64 (g.sum : Int), .int .i64 g.dnum] 3)).drew) := ((Below.refl _ _).alloc (Nat.le_refl _) _).drew
      have H1 := hid (h1.kept hal)
      have HNw := hid (new_many wc [.int .i64 (g.sum : Int), .int .i64 g.dnum] 3)
      refine wpSeq_e rfl (fun K1 hK1 => ?_)
      go_simp
      refine hK1 _ _ (fun _ => hal) ?_
      clear hK1 K1 hal
      refine wpSeq_e rfl (fun K1 hK1 => ?_)
      refine step_app rfl (.tmp 54) (.tmp 61) 25 3 iI _ 1 8 HKI.out rfl (rb + 1) _ N1.length (intC N1) rfl H1.out.oN ⟨wc.heap.size, 0, none⟩ 2 2 [.int .i64 (g.sum : Int), .int .i64 g.dnum] rfl rfl HNw.out (one_ints [(g.sum : Int), g.dnum]) (by first | omega | (simp; done)) (by first | omega | (simp; done)) (by have := h1.box.lt; simp; omega) ?_
      intro v3 w3 ho3 hg3 hn3
      obtain ⟨p3, c3, rfl⟩ := ownsRow_slice ho3
      have hx3 := H1.out.boxN hg3
      have y1 := hx3.cell 0
      have g1 := hx3.frozen 0
      simp at y1
      clear hx3
      go_simp
      refine hK1 _ _ (fun h => by cases h) ?_
      clear hK1 K1
      refine wpSeq_e rfl (fun K1 hK1 => ?_)
      go_simp
      refine hK1 _ _ (fun h => by cases h) ?_
      clear hK1 K1
      refine wpSeq_nil ?_
      go_wp2_with fail
      go_meet
      exact ⟨_, _, _, H1.out.nums (M := [(g.sum : Int), g.dnum]) ho3 hg3 hn3⟩
    case rest =>
      clear hg
      have hg := hcut
      clear hcut
      obtain ⟨N2, hN2⟩ : ∃ N2, N2 = N1 ++ [(g.sum : Int), g.dnum] := ⟨_, rfl⟩
      rw [← hN2] at hg
      have HN2 := hid hN2
      have lN2 : N2.length ≤ 20 := by rw [hN2]; rw [List.length_append]; simp; omega
      clear hN2
      have HAd := hid (addCells_any hg g.set.p g.set.n g.set.c g.set.item HInD.out HS2.out HVS.out.n HVS.out.cell (by omega) (by first | omega | (simp; done)) (by first | omega | (simp; done)))
      obtain ⟨_, _, _, h2⟩ := hg
      have hx := HXW.out wc h2.below
      have d7 := hx.cell 7
      simp at d7
      clear h2 hx
      go_wp2_with fail
      refine HAd.out.mono ?_
      rintro x w4 ⟨rfl, hg⟩
      clear HAd d7
      have hsn : g.set.n ≤ 64 := HVS.out.n
      have hgn : g.gone.n ≤ 64 := HVD.out.gn
      have hcl := celV_len g.set.item g.set.n (fun j hj => (HVS.out.cell j hj).2)
      obtain ⟨N3, hN3⟩ : ∃ N3, N3 = N2 ++ ((g.set.n : Int) :: celN g.set.item g.set.n) := ⟨_, rfl⟩
      rw [← hN3] at hg
      have HN3 := hid hN3
      have lN3 : N3.length ≤ 200 := by rw [hN3]; rw [List.length_append, List.length_cons, celN_len]; omega
      clear hN3
      obtain ⟨K3, hK3⟩ : ∃ K3, K3 = ([] : List ByteArray) ++ celK g.set.item g.set.n := ⟨_, rfl⟩
      rw [← hK3] at hg
      have HK3 := hid hK3
      have lK3 : K3.length ≤ 100 := by rw [hK3]; simp [celK]; omega
      clear hK3
      obtain ⟨V3, hV3⟩ : ∃ V3, V3 = ([] : List VT) ++ celV g.set.item g.set.n := ⟨_, rfl⟩
      rw [← hV3] at hg
      have HV3 := hid hV3
      have lV3 : V3.length ≤ 1000 := by rw [hV3]; simp; omega
      clear hV3
      clear hcl hsn
      go_wp2_with fail
      go_cut [] (fun wx => BGx w2 rb wx (N3 ++ [(g.gone.n : Int)]) K3 V3)
      case first =>
        obtain ⟨aN, bK, cV, h1⟩ := hg
        have hws := h1.box.lt
        have hx := HXW.out w4 h1.below
        have d8 := hx.cell 8
        simp at d8
        clear hx
        obtain ⟨pa, ca, rfl⟩ := ownsRow_slice h1.oN
        have x0 := h1.box.cell 0
        simp at x0
        refine wp_region_calm 30 (fun wx => Below w4.heap.size w4 wx) [(0, true), (1, true), (2, true), (3, true), (4, false), (5, true), (6, true), (7, false), (8, true), (11, true), (12, true)] [(9, true), (10, false), (13, false)] (by kernel_rfl) (by kernel_rfl) (Below.refl _ _).drew ?_
        refine wpPre_e rfl rfl (fun K1 hK1 => ?_)
        apply Exists.intro
        refine And.intro (fun wx hx => ?_) ?_
        · go_simp
          try rfl
        go_simp
        refine hK1 _ ?_
        clear hK1 K1
        refine wpPre_e rfl rfl (fun K1 hK1 => ?_)
        apply Exists.intro
        refine And.intro (fun wx hx => ?_) ?_
        · go_simp
          try rfl
        go_simp
        refine hK1 _ ?_
        clear hK1 K1
        refine wpPre_e rfl rfl (fun K1 hK1 => ?_)
        apply Exists.intro
        refine And.intro (fun wx hx => ?_) ?_
        · go_simp
          try rfl
        go_simp
        refine hK1 _ ?_
        clear hK1 K1
        refine wpPre_e rfl rfl (fun K1 hK1 => ?_)
        apply Exists.intro
        refine And.intro (fun wx hx => ?_) ?_
        · go_simp
          try rfl
        go_simp
        refine hK1 _ ?_
        clear hK1 K1
        refine wpPre_e rfl rfl (fun K1 hK1 => ?_)
        apply Exists.intro
        refine And.intro (fun wx hx => ?_) ?_
        · have e0 := below_fact hx rfl x0; have e1 := below_fact hx rfl d8
          go_simp
          try rfl
        go_simp
        refine hK1 _ ?_
        clear hK1 K1
        refine wpPre_e rfl rfl (fun K1 hK1 => ?_)
        apply Exists.intro
        refine And.intro (fun wx hx => ?_) ?_
        · go_simp
          try rfl
        go_simp
        refine hK1 _ ?_
        clear hK1 K1
        refine wpPre_e rfl rfl (fun K1 hK1 => ?_)
        apply Exists.intro
        refine And.intro (fun wx hx => ?_) ?_
        · go_simp
          try rfl
        go_simp
        refine hK1 _ ?_
        clear hK1 K1
        refine wpPre_e rfl rfl (fun K1 hK1 => ?_)
        apply Exists.intro
        refine And.intro (fun wx hx => ?_) ?_
        · have e0 := below_fact hx rfl x0; have e1 := below_fact hx rfl d8
          go_simp
          try rfl
        go_simp
        refine hK1 _ ?_
        clear hK1 K1
        refine wpPre_e rfl rfl (fun K1 hK1 => ?_)
        apply Exists.intro
        refine And.intro (fun wx hx => ?_) ?_
        · go_simp
          try rfl
        go_simp
        refine hK1 _ ?_
        clear hK1 K1
        refine wpPre_e rfl rfl (fun K1 hK1 => ?_)
        apply Exists.intro
        refine And.intro (fun wx hx => ?_) ?_
        · go_simp
          try rfl
        go_simp
        refine hK1 _ ?_
        clear hK1 K1
        refine wpPre_e rfl rfl (fun K1 hK1 => ?_)
        apply Exists.intro
        refine And.intro (fun wx hx => ?_) ?_
        · go_simp
          try rfl
        go_simp
        refine hK1 _ ?_
        clear hK1 K1
        refine wpPre_nil ?_
        have hal : Below w4.heap.size w4 ((w4.alloc (.cells #[.int .i64 (g.gone.n : Int)] 3)).drew) := ((Below.refl _ _).alloc (Nat.le_refl _) _).drew
        have H1 := hid (h1.kept hal)
        have HNw := hid (new_many w4 [.int .i64 (g.gone.n : Int)] 3)
        refine wpSeq_e rfl (fun K1 hK1 => ?_)
        go_simp
        refine hK1 _ _ (fun _ => hal) ?_
        clear hK1 K1 hal
        refine wpSeq_e rfl (fun K1 hK1 => ?_)
        refine step_app rfl (.tmp 74) (.tmp 79) 25 3 iI _ 1 8 HKI.out rfl (rb + 1) _ N3.length (intC N3) rfl H1.out.oN ⟨w4.heap.size, 0, none⟩ 1 1 [.int .i64 (g.gone.n : Int)] rfl rfl HNw.out (one_ints [(g.gone.n : Int)]) (by first | omega | (simp; done)) (by first | omega | (simp; done)) (by have := h1.box.lt; simp; omega) ?_
        intro v3 w3 ho3 hg3 hn3
        obtain ⟨p3, c3, rfl⟩ := ownsRow_slice ho3
        have hx3 := H1.out.boxN hg3
        have y1 := hx3.cell 0
        have g1 := hx3.frozen 0
        simp at y1
        clear hx3
        go_simp
        refine hK1 _ _ (fun h => by cases h) ?_
        clear hK1 K1
        refine wpSeq_e rfl (fun K1 hK1 => ?_)
        go_simp
        refine hK1 _ _ (fun h => by cases h) ?_
        clear hK1 K1
        refine wpSeq_nil ?_
        go_wp2_with fail
        go_meet
        exact ⟨_, _, _, H1.out.nums (M := [(g.gone.n : Int)]) ho3 hg3 hn3⟩
      case rest =>
        clear hg
        have hg := hcut
        clear hcut
        obtain ⟨N5, hN5⟩ : ∃ N5, N5 = N3 ++ [(g.gone.n : Int)] := ⟨_, rfl⟩
        rw [← hN5] at hg
        have HN5 := hid hN5
        have lN5 : N5.length ≤ 300 := by rw [hN5]; rw [List.length_append]; simp; omega
        clear hN5
        go_wp2_with fail
        go_cut [] (fun wx => BGx w2 rb wx N5 (K3 ++ goneK g.gone) V3)
        case first =>
          obtain ⟨aN, bK, cV, h1⟩ := hg
          have hws := h1.box.lt
          have hx := HXW.out wc h1.below
          have d8 := hx.cell 8
          simp at d8
          clear hx
          obtain ⟨pa, ca, rfl⟩ := ownsRow_slice h1.oK
          have x1 := h1.box.cell 1
          simp at x1
          have H1 := hid (h1.kept (w2 := wc.drew) (Below.refl _ _).drew)
          have HSr : Hid (Src wc.drew g.gone.p g.gone.n g.gone.c 1 (strC (goneK g.gone))) := by
            have h3 := (HInG.out.kept (w' := wc.drew) h1.below.drew.size (fun b hb _ => h1.below.drew.block b (HS2.out b hb))).src
            have e : ((List.range g.gone.n).flatMap fun j => elStr.cells (g.gone.item j)) = strC (goneK g.gone) := by
              simp only [strC, goneK, elStr, List.map_map]
              rw [List.map_eq_flatMap]
              rfl
            rw [e] at h3
            exact h3
          have HGl : Hid ((goneK g.gone).length = g.gone.n) := by unfold Hid; simp [goneK]
          refine wp_region_calm 30 (fun wx => Below wc.heap.size wc wx) [(0, true), (1, true), (2, true), (3, true), (4, false), (5, true), (6, true), (7, false), (9, true), (10, true)] [(8, false), (11, false)] (by kernel_rfl) (by kernel_rfl) (Below.refl _ _).drew ?_
          refine wpPre_e rfl rfl (fun K1 hK1 => ?_)
          apply Exists.intro
          refine And.intro (fun wx hx => ?_) ?_
          · go_simp
            try rfl
          go_simp
          refine hK1 _ ?_
          clear hK1 K1
          refine wpPre_e rfl rfl (fun K1 hK1 => ?_)
          apply Exists.intro
          refine And.intro (fun wx hx => ?_) ?_
          · go_simp
            try rfl
          go_simp
          refine hK1 _ ?_
          clear hK1 K1
          refine wpPre_e rfl rfl (fun K1 hK1 => ?_)
          apply Exists.intro
          refine And.intro (fun wx hx => ?_) ?_
          · go_simp
            try rfl
          go_simp
          refine hK1 _ ?_
          clear hK1 K1
          refine wpPre_e rfl rfl (fun K1 hK1 => ?_)
          apply Exists.intro
          refine And.intro (fun wx hx => ?_) ?_
          · go_simp
            try rfl
          go_simp
          refine hK1 _ ?_
          clear hK1 K1
          refine wpPre_e rfl rfl (fun K1 hK1 => ?_)
          apply Exists.intro
          refine And.intro (fun wx hx => ?_) ?_
          · have e0 := below_fact hx rfl x1; have e1 := below_fact hx rfl d8
            go_simp
            try rfl
          go_simp
          refine hK1 _ ?_
          clear hK1 K1
          refine wpPre_e rfl rfl (fun K1 hK1 => ?_)
          apply Exists.intro
          refine And.intro (fun wx hx => ?_) ?_
          · go_simp
            try rfl
          go_simp
          refine hK1 _ ?_
          clear hK1 K1
          refine wpPre_e rfl rfl (fun K1 hK1 => ?_)
          apply Exists.intro
          refine And.intro (fun wx hx => ?_) ?_
          · go_simp
            try rfl
          go_simp
          refine hK1 _ ?_
          clear hK1 K1
          refine wpPre_e rfl rfl (fun K1 hK1 => ?_)
          apply Exists.intro
          refine And.intro (fun wx hx => ?_) ?_
          · have e0 := below_fact hx rfl x1; have e1 := below_fact hx rfl d8
            go_simp
            try rfl
          go_simp
          refine hK1 _ ?_
          clear hK1 K1
          refine wpPre_e rfl rfl (fun K1 hK1 => ?_)
          apply Exists.intro
          refine And.intro (fun wx hx => ?_) ?_
          · go_simp
            try rfl
          go_simp
          refine hK1 _ ?_
          clear hK1 K1
          refine wpPre_e rfl rfl (fun K1 hK1 => ?_)
          apply Exists.intro
          refine And.intro (fun wx hx => ?_) ?_
          · go_simp
            try rfl
          go_simp
          refine hK1 _ ?_
          clear hK1 K1
          refine wpPre_nil ?_
          refine wpSeq_e rfl (fun K1 hK1 => ?_)
          refine step_appS rfl (.tmp 87) (.tmp 90) 32 9 iS _ 1 16 HKS.out rfl (rb + 1) _ K3.length (strC K3) rfl H1.out.oK g.gone.p g.gone.n g.gone.c (strC (goneK g.gone)) rfl HSr.out (fun u hu => by simp [strC] at hu; obtain ⟨s, _, rfl⟩ := hu; rfl) (by omega) (by omega) (by simp; omega) ?_
          intro v3 w3 ho3 hg3 hn3
          obtain ⟨p3, c3, rfl⟩ := ownsRow_slice ho3
          have hx3 := H1.out.boxK hg3
          have y1 := hx3.cell 1
          have g1 := hx3.frozen 1
          simp at y1
          clear hx3
          go_simp
          refine hK1 _ _ (fun h => by cases h) ?_
          clear hK1 K1
          refine wpSeq_e rfl (fun K1 hK1 => ?_)
          go_simp
          refine hK1 _ _ (fun h => by cases h) ?_
          clear hK1 K1
          refine wpSeq_nil ?_
          go_wp2_with fail
          go_meet
          exact ⟨_, _, _, H1.out.keys (M := goneK g.gone) (by rw [HGl.out]; exact ho3) hg3 hn3⟩
        case rest =>
          clear hg
          have hg := hcut
          clear hcut
          obtain ⟨K5, hK5⟩ : ∃ K5, K5 = K3 ++ goneK g.gone := ⟨_, rfl⟩
          rw [← hK5] at hg
          have HK5 := hid hK5
          have lK5 : K5.length ≤ 300 := by rw [hK5]; rw [List.length_append]; simp [goneK]; omega
          clear hK5
          clear hgn
          go_wp2_with fail
          go_cut [] (fun wx => BGx w2 rb wx (N5 ++ [(g.logs.n : Int)]) K5 V3)
          case first =>
            obtain ⟨aN, bK, cV, h1⟩ := hg
            have hws := h1.box.lt
            have hx := HXW.out wc h1.below
            have d9 := hx.cell 9
            simp at d9
            clear hx
            obtain ⟨pa, ca, rfl⟩ := ownsRow_slice h1.oN
            have x0 := h1.box.cell 0
            simp at x0
            refine wp_region_calm 30 (fun wx => Below wc.heap.size wc wx) [(0, true), (1, true), (2, true), (3, true), (4, false), (5, true), (6, false), (7, true), (10, true), (11, true)] [(8, true), (9, false), (12, false)] (by kernel_rfl) (by kernel_rfl) (Below.refl _ _).drew ?_
            refine wpPre_e rfl rfl (fun K1 hK1 => ?_)
            apply Exists.intro
            refine And.intro (fun wx hx => ?_) ?_
            · go_simp
              try rfl
            go_simp
            refine hK1 _ ?_
            clear hK1 K1
            refine wpPre_e rfl rfl (fun K1 hK1 => ?_)
            apply Exists.intro
            refine And.intro (fun wx hx => ?_) ?_
            · go_simp
              try rfl
            go_simp
            refine hK1 _ ?_
            clear hK1 K1
            refine wpPre_e rfl rfl (fun K1 hK1 => ?_)
            apply Exists.intro
            refine And.intro (fun wx hx => ?_) ?_
            · go_simp
              try rfl
            go_simp
            refine hK1 _ ?_
            clear hK1 K1
            refine wpPre_e rfl rfl (fun K1 hK1 => ?_)
            apply Exists.intro
            refine And.intro (fun wx hx => ?_) ?_
            · go_simp
              try rfl
            go_simp
            refine hK1 _ ?_
            clear hK1 K1
            refine wpPre_e rfl rfl (fun K1 hK1 => ?_)
            apply Exists.intro
            refine And.intro (fun wx hx => ?_) ?_
            · have e0 := below_fact hx rfl x0; have e1 := below_fact hx rfl d9
              go_simp
              try rfl
            go_simp
            refine hK1 _ ?_
            clear hK1 K1
            refine wpPre_e rfl rfl (fun K1 hK1 => ?_)
            apply Exists.intro
            refine And.intro (fun wx hx => ?_) ?_
            · go_simp
              try rfl
            go_simp
            refine hK1 _ ?_
            clear hK1 K1
            refine wpPre_e rfl rfl (fun K1 hK1 => ?_)
            apply Exists.intro
            refine And.intro (fun wx hx => ?_) ?_
            · have e0 := below_fact hx rfl x0; have e1 := below_fact hx rfl d9
              go_simp
              try rfl
            go_simp
            refine hK1 _ ?_
            clear hK1 K1
            refine wpPre_e rfl rfl (fun K1 hK1 => ?_)
            apply Exists.intro
            refine And.intro (fun wx hx => ?_) ?_
            · go_simp
              try rfl
            go_simp
            refine hK1 _ ?_
            clear hK1 K1
            refine wpPre_e rfl rfl (fun K1 hK1 => ?_)
            apply Exists.intro
            refine And.intro (fun wx hx => ?_) ?_
            · go_simp
              try rfl
            go_simp
            refine hK1 _ ?_
            clear hK1 K1
            refine wpPre_e rfl rfl (fun K1 hK1 => ?_)
            apply Exists.intro
            refine And.intro (fun wx hx => ?_) ?_
            · go_simp
              try rfl
            go_simp
            refine hK1 _ ?_
            clear hK1 K1
            refine wpPre_nil ?_
            have hal : Below wc.heap.size wc ((wc.alloc (.cells #[.int .i64 (g.logs.n : Int)] 3)).drew) := ((Below.refl _ _).alloc (Nat.le_refl _) _).drew
            have H1 := hid (h1.kept hal)
            have HNw := hid (new_many wc [.int .i64 (g.logs.n : Int)] 3)
            refine wpSeq_e rfl (fun K1 hK1 => ?_)
            go_simp
            refine hK1 _ _ (fun _ => hal) ?_
            clear hK1 K1 hal
            refine wpSeq_e rfl (fun K1 hK1 => ?_)
            refine step_app rfl (.tmp 98) (.tmp 102) 25 3 iI _ 1 8 HKI.out rfl (rb + 1) _ N5.length (intC N5) rfl H1.out.oN ⟨wc.heap.size, 0, none⟩ 1 1 [.int .i64 (g.logs.n : Int)] rfl rfl HNw.out (one_ints [(g.logs.n : Int)]) (by first | omega | (simp; done)) (by first | omega | (simp; done)) (by have := h1.box.lt; simp; omega) ?_
            intro v3 w3 ho3 hg3 hn3
            obtain ⟨p3, c3, rfl⟩ := ownsRow_slice ho3
            have hx3 := H1.out.boxN hg3
            have y1 := hx3.cell 0
            have g1 := hx3.frozen 0
            simp at y1
            clear hx3
            go_simp
            refine hK1 _ _ (fun h => by cases h) ?_
            clear hK1 K1
            refine wpSeq_e rfl (fun K1 hK1 => ?_)
            go_simp
            refine hK1 _ _ (fun h => by cases h) ?_
            clear hK1 K1
            refine wpSeq_nil ?_
            go_wp2_with fail
            go_meet
            exact ⟨_, _, _, H1.out.nums (M := [(g.logs.n : Int)]) ho3 hg3 hn3⟩
          case rest =>
            clear hg
            have hg := hcut
            clear hcut
            have hln : g.logs.n ≤ 4 := HVL.out.n
            go_wp2_with fail
            go_loopw [7] (fun x wr => ∃ j : Nat, j ≤ g.logs.n ∧ x = .int .i64 (j : Int) ∧ BGx w2 rb wr (N5 ++ [(g.logs.n : Int)] ++ lgN g.logs j) (K5 ++ lgK g.logs j) (V3 ++ lgV g.logs j)) (fun x _ => g.logs.n - (intOf x).toNat)
            case atStart => exact ⟨0, Nat.zero_le _, rfl, by simpa [lgN, lgK, lgV] using hg⟩
            case round =>
              obtain ⟨j, hj, rfl, hb⟩ := hrel
              clear hg
              have l1 := lgN_len g.logs j (fun i hi => HVL.out.each i (by omega))
              have l2 := lgK_len g.logs j (fun i hi => HVL.out.each i (by omega))
              have l3 := lgV_len g.logs j (fun i hi => HVL.out.each i (by omega))
              have HBj := hid hb
              obtain ⟨_, _, _, h5⟩ := hb
              have hbw := h5.below
              have hx := HXW.out wr hbw
              have d9 := hx.cell 9
              have d10 := hx.cell 10
              simp at d9 d10
              clear hx h5
              by_cases hlt : j < g.logs.n
              · have hlt' : (j : Int) < (g.logs.n : Int) := by omega
                obtain ⟨b1, o1, hp, hSb, hl1, ha⟩ := HInL.out.at_ (show 0 < g.logs.n by omega)
                have hca := (World.cell?_of_block (a := ⟨b1, o1 + j * elRecs.size + 0, none⟩) (hbw.block b1 (HS2.out b1 hSb))).trans (ha j hlt 0 _ rfl)
                simp [elRecs] at hca
                have HAd := hid (addRecords_any HBj.out (g.logs.item j) (show LT.In elRec w2 S (g.logs.item j) from HInL.out.each j hlt) HS2.out (HVL.out.each j hlt) (by simp; omega) (by simp; omega) (by simp; omega))
                rw [hp] at d9
                have HP := hid hp
                clear ha hp hbw HBj l1 l2 l3
                go_wp2_with fail
                refine HAd.out.mono ?_
                rintro x w6 ⟨rfl, hb6⟩
                have HF : Hid (BGx w2 rb w6 (N5 ++ [(g.logs.n : Int)] ++ lgN g.logs (j + 1)) (K5 ++ lgK g.logs (j + 1)) (V3 ++ lgV g.logs (j + 1))) := by
                  unfold Hid
                  rw [lgN_succ, lgK_succ, lgV_succ, ← List.append_assoc, ← List.append_assoc, ← List.append_assoc]
                  exact hb6
                clear hb6 HAd
                go_wp2
                go_roundw
                case rel => exact ⟨j + 1, by omega, by go_num, HF.out⟩
                case measure => simp [intOf]; omega
              · obtain rfl : j = g.logs.n := by omega
                have hlt' : ¬ (g.logs.n : Int) < (g.logs.n : Int) := by omega
                have HAd := hid (addRecords_any HBj.out g.pend HInP.out HS2.out HVP.out (by simp; omega) (by simp; omega) (by simp; omega))
                have HL1 := hid l1
                have HL2 := hid l2
                have HL3 := hid l3
                clear hbw HBj l1 l2 l3
                go_wp2_with fail
                refine HAd.out.mono ?_
                rintro x w6 ⟨rfl, hb6⟩
                have HW : Hid (Calls Try.prog 46 #[.pointer (some ⟨rb, 0, none⟩), .slice none 0 0, .string ⟨#[83, 105, 116, 105, 119, 110, 60, 99, 107, 91, 98, 118, 93, 62, 60, 99, 107, 62, 91, 112, 91, 108, 107, 118, 91, 97, 104, 93, 93, 93, 91, 108, 107, 118, 91, 97, 104, 93, 93]⟩] w6 fun e w' => ∃ v', e = .returned v' ∧ OwnBy rb w' v' (segB g.to) ∧ Below rb w2 w') := by
                  have hpl := recsN_len HVP.out
                  have hpn := HVP.out.n
                  have hbd := HFG.out.2.1
                  refine refWritten (S := S) hb6 (by rw [HRB.out]; exact Nat.le_refl _) ?_ HS2.out (by have := HL1.out; simp; omega) (by have := HL2.out; simp [rowK]; omega) (by have := HL3.out; simp [rowV]; omega) 16 ⟨#[83, 105, 116, 105, 119, 110, 60, 99, 107, 91, 98, 118, 93, 62, 60, 99, 107, 62, 91, 112, 91, 108, 107, 118, 91, 97, 104, 93, 93, 93, 91, 108, 107, 118, 91, 97, 104, 93, 93]⟩ (by decide) (segB g.to) ⟨[], [], []⟩ ?_ (segB_len HGT.out HVG.out)
                  · intro x hx
                    rw [HV3.out] at hx
                    simp only [List.mem_append] at hx
                    rcases hx with (hx | hx) | hx
                    · exact celV_in HInD.out x (by simpa using hx)
                    · exact lgV_in HInL.out x hx
                    · exact rowV_in HInP.out x hx
                  · have h := wS_patch g.id.toNat g.task.toNat g.base.toNat g.sum (by have := hbd.1; omega) (by have := hbd.2.1; omega) (by have := hbd.2.2; omega) HGT.out.sum g.dst HVS.out g.gone HVD.out.gn HVD.out.gone g.logs HVL.out.n HVL.out.each g.pend HVP.out
                    rw [show ((g.id.toNat : Nat) : Int) = g.id by have := hbd.1; omega, show ((g.task.toNat : Nat) : Int) = g.task by have := hbd.2.1; omega, show ((g.base.toNat : Nat) : Int) = g.base by have := hbd.2.2; omega] at h
                    rw [HN5.out, HK5.out, HV3.out, HN3.out, HK3.out, HN2.out, HN1.out]
                    have e1 : segB g.to = 83 :: (grpB g.id.toNat ++ (grpB g.task.toNat ++ (grpB g.base.toNat ++ (wordB g.sum ++ (stateB g.dst ++ (listB keyB g.gone.n g.gone.item ++ (listB recsB g.logs.n g.logs.item ++ recsB g.pend))))))) := by
                      have e2 : g.to.base ≠ 0 := HNE.out
                      unfold segB
                      rw [if_neg e2]
                      simp [GI.to, deltaB, stateB, GI.dst, List.append_assoc]
                    rw [e1]
                    simpa [txL, logsN, logsK, logsV, lgN, lgK, lgV, GI.dst, List.append_assoc] using h
                clear hb6 HAd
                go_wp2_with fail
                refine HW.out.mono ?_
                rintro x w7 ⟨v5, rfl, ho5, hb5⟩
                have hle : w.heap.size ≤ rb := by rw [HRB.out]; exact HB2.out.size
                have HF := hid (And.intro (ho5.mono hle) (HB2.out.trans (hb5.mono hle)))
                clear ho5 hb5 HW
                go_wp2
                refine bodyPost_ret (v := .tuple #[v5, .int .i64 0]) (by simp [results, Try.results14, go_sem]) rfl ?_
                exact ⟨_, rfl, HF.out⟩
end Go.Proofs.Ytikfpoabaaiegaa
