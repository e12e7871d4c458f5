import Derived.Test.YtkfcilandmhomaaDoorEbC
namespace Go.Proofs.YtkfcilandmhomaaDoor
open Go.RowKit
set_option maxRecDepth 8000
theorem perm_map {α β : Type} (f : α → β) : ∀ (Y : List β) (l : List α), Y.Perm (l.map f) → ∃ l' : List α, l'.Perm l ∧ l'.map f = Y
  | [], l, h => by
    have : l = [] := by have := h.length_eq; simp at this; exact List.eq_nil_of_length_eq_zero this.symm
    subst this
    exact ⟨[], List.Perm.refl _, rfl⟩
  | y :: Y, l, h => by
    have hy : y ∈ l.map f := h.mem_iff.1 (by simp)
    obtain ⟨a, ha, rfl⟩ := List.mem_map.1 hy
    obtain ⟨s, t, rfl⟩ := List.append_of_mem ha
    have h2 : (f a :: Y).Perm (f a :: (s ++ t).map f) := h.trans (by simp only [List.map_append, List.map_cons]; exact List.perm_middle)
    obtain ⟨l', h3, h4⟩ := perm_map f Y (s ++ t) (List.Perm.cons_inv h2)
    exact ⟨a :: l', (h3.cons a).trans List.perm_middle.symm, by rw [List.map_cons, h4]⟩
def elL : El ByteArray where
  ty := 69
  size := 12
  cells := labC
  len := fun _ => rfl
  one := labC_one
  In := fun _ _ _ => True
  kept := fun _ _ _ => trivial
  mono := fun _ _ => trivial
theorem flat_range (Y : List ByteArray) : Y.flatMap labC = (List.range Y.length).flatMap fun j => elL.cells (Y.getD j ⟨#[]⟩) := by
  have : Y = (List.range Y.length).map fun j => Y.getD j ⟨#[]⟩ := by
    apply List.ext_getElem?
    intro j
    by_cases h : j < Y.length
    · simp [List.getElem?_range h, List.getD_eq_getElem?_getD, List.getElem?_eq_getElem h]
    · rw [List.getElem?_eq_none (by omega), List.getElem?_eq_none (by simp; omega)]
  conv => lhs; rw [this]
  rw [List.flatMap_map]
  rfl
theorem kindFl : ∃ i, Kind 35 58 i (.agg #[.string ⟨#[]⟩, .slice none 0 0, .int .i64 0]) 3 48 := by
  obtain ⟨i0, hi, hz0, hz1, hz2⟩ := info_parts (show (Tryd.prog.info? 58).map (fun i => (i.zero, i.size, i.bytes)) = some (some (.agg #[.string ⟨#[]⟩, .slice none 0 0, .int .i64 0]), 3, 48) by kernel_rfl)
  exact ⟨i0, Tryd.underlying35, hi, hz0, hz1, hz2, rfl, by decide⟩
/-- a file as it is told -/
def outF (f : FT) (p : Option Addr) (c : Nat) : FA := ⟨f.name, p, f.zs.length, c, fun j => f.zs.getD j 0, (f.sure : Int)⟩
theorem outF_zs (f : FT) (p : Option Addr) (c : Nat) : (outF f p c).zs = f.zs := by
  show (List.range f.zs.length).map (fun j => f.zs.getD j 0) = f.zs
  apply List.ext_getElem?
  intro j
  by_cases h : j < f.zs.length
  · simp [List.getElem?_range h, List.getD_eq_getElem?_getD, List.getElem?_eq_getElem h]
  · rw [List.getElem?_eq_none (by simp; omega), List.getElem?_eq_none (by omega)]
theorem outF_key (f : FT) (p : Option Addr) (c : Nat) : (outF f p c).key = f.key := by
  unfold FA.key FT.key
  rw [outF_zs]
  rfl
theorem own_byts {base : Nat} {w : World} {p : Option Addr} {c : Nat} {zs : List Int} {S : Nat → Prop} (h : OwnBy base w (.slice p zs.length c) zs) (hS : ∀ g, (Value.slice p zs.length c).ownBlock = some g → S g) (hz : ∀ z ∈ zs, 0 ≤ z ∧ z ≤ 255) (hn : zs.length ≤ 140737488355328) : Byts w S p zs.length c (fun j => zs.getD j 0) := by
  have hlt := h.lt
  have hc := @World.ownsRow.cells _ _ _ _ _ _ _ h
  have hfit : ∀ j, j < zs.length → 0 ≤ zs.getD j 0 ∧ zs.getD j 0 < 256 := fun j hj => by
    rw [List.getD_eq_getElem?_getD, List.getElem?_eq_getElem hj, Option.getD_some]
    have := hz _ (List.getElem_mem hj)
    omega
  obtain ⟨_, ⟨hv, h0⟩ | ⟨g, cap, cur, hv, hbg, hh, hnc, hcm, _⟩⟩ := id h
  · simp only [Value.slice.injEq] at hv
    obtain ⟨rfl, h2, rfl⟩ := hv
    exact ⟨fun h => absurd h (by omega), by omega, hn, Nat.zero_le _, hfit, fun _ => ⟨h0, rfl⟩⟩
  · simp only [Value.slice.injEq, true_and] at hv
    obtain ⟨rfl, rfl⟩ := hv
    refine ⟨fun _ => ⟨g, 0, rfl, hS g rfl, (hlt g rfl).2, fun j hj => ?_⟩, hnc, hn, hcm, hfit, fun h => by cases h⟩
    have := hc (g := g) rfl j (.int .u8 (zs.getD j 0)) (by simp [List.getD_eq_getElem?_getD, List.getElem?_eq_getElem hj])
    rw [Go.WideShapes.add_plain] at this
    exact this
/-- what Files answers -/
def FilesQ (D : DK) (w : World) (e : Ending) (w' : World) : Prop :=
  ∃ (u : LT FA) (YS : List FT), e = .returned (.slice u.p u.n u.c) ∧ LT.In elF w' (fun k => w.heap.size ≤ k) u ∧ YS.Perm D.fs ∧ YS.Pairwise (fun a b => ¬ cmpN b.name a.name < 0) ∧ u.n = YS.length ∧ (∀ j, j < u.n → ∃ f, YS[j]? = some f ∧ (u.item j).key = f.key) ∧ Below w.heap.size w w'
set_option maxHeartbeats 8000000 in
theorem dfiles_any (D : DK) (w : World) (C : Nat → Prop) (db : Nat) (hD : DkI w C db D) :
    Calls Tryd.prog 12 #[.pointer (some ⟨db, 0, none⟩)] w fun e w' => FilesQ D w e w' := by
  obtain ⟨i0, Kd⟩ := kindFl
  have HKd := hid Kd
  have HD := hid hD
  have d0' := hD.bx.cell 0
  simp at d0'
  have HOr := hid (order_any w db D.mb D.ents d0' hD.mp (by have := hD.n; simp [DK.ents]; omega))
  clear hD Kd
  go_enter Tryd.func12, Tryd.ntmps12
  go_wp2_with fail
  refine HOr.out.mono ?_
  rintro e w1 ⟨p, c, Y, rfl, hperm, hpw, hrow, hb1⟩
  obtain ⟨YS, hYp, hYn⟩ := perm_map FT.name Y D.fs (by simpa [DK.ents, List.map_map, Function.comp_def] using hperm)
  have HYl : Hid (YS.length = Y.length) := by show YS.length = Y.length; rw [← hYn, List.length_map]
  have hY4 : Y.length ≤ 400 := by have h1 := hYp.length_eq; have h2 := HD.out.n; have := HYl.out; omega
  have HPw : Hid (YS.Pairwise (fun a b => ¬ cmpN b.name a.name < 0)) := by
    show List.Pairwise _ _
    rw [← hYn, List.pairwise_map] at hpw
    exact hpw.imp fun h => by omega
  rw [flat_range] at hrow
  obtain ⟨p2, c2, hv2, hLr⟩ := OwnL.in_ (E := elL) (g := fun j => Y.getD j ⟨#[]⟩) ⟨hrow, fun _ _ => trivial⟩ (by omega)
  simp only [Value.slice.injEq, true_and] at hv2
  obtain ⟨rfl, rfl⟩ := hv2
  have HLr := hid hLr
  have HY := hid (And.intro hYp hYn)
  have HW1 := hid hb1
  clear hperm hpw hrow hYp hYn hLr hb1 HOr d0'
  go_wp2_with fail
  go_loopw [3, 10] (fun v x wr => ∃ (i : Nat) (g : Nat → FA), i ≤ Y.length ∧ x = .int .i64 (i : Int) ∧ OwnL elF w1.heap.size wr v i g ∧ (∀ q, q < i → ∃ f, YS[q]? = some f ∧ (g q).key = f.key) ∧ Below w1.heap.size w1 wr) (fun _ x _ => Y.length - (intOf x).toNat)
  case atStart => exact ⟨0, fun _ => ⟨⟨#[]⟩, none, 0, 0, fun _ => 0, 0⟩, Nat.zero_le _, rfl, ⟨World.ownsRow_nil _ _ _ _, fun j hj => absurd hj (by omega)⟩, fun q hq => absurd hq (by omega), Below.refl _ _⟩
  case round =>
    obtain ⟨i, g, hi, rfl, hO, hg, hbw⟩ := hrel
    have HO := hid hO
    have HG := hid hg
    have HBw := hid hbw
    clear hO hg hbw
    by_cases hlt : i < Y.length
    · have hlt' : (i : Int) < (Y.length : Int) := by omega
      obtain ⟨bb, o, hp, hbS, hbb, hat⟩ := HLr.out.at_ (by show 0 < Y.length; omega)
      have hp' : p = some ⟨bb, o, none⟩ := hp
      subst hp'
      obtain ⟨f, hf⟩ : ∃ f, YS[i]? = some f := ⟨YS[i]'(by have := HYl.out; omega), List.getElem?_eq_getElem _⟩
      obtain ⟨s, hs⟩ : ∃ s, s = f.name := ⟨_, rfl⟩
      have hsY : Y.getD i ⟨#[]⟩ = s := by
        rw [← HY.out.2, List.getD_eq_getElem?_getD, List.getElem?_map, hf, hs]; rfl
      have hfD : f ∈ D.fs := HY.out.1.mem_iff.1 (List.mem_of_getElem? hf)
      have HFt := hid (HD.out.each f hfD)
      have HNm : Hid (Nm s) := by show Nm s; rw [hs]; exact HFt.out.nm
      have HFn : Hid (f.name = s) := hs.symm
      have HLk : Hid (lk D.ents s = some (.pointer (some ⟨f.fb, 0, none⟩))) := by
        have hnd : (D.ents.map (·.1)).Nodup := by obtain ⟨es, ck, _, hE⟩ := HD.out.mp; exact hE.nodup
        exact (lk_some hnd).2 (List.mem_map.2 ⟨f, hfD, by rw [hs]⟩)
      have HFi := hid hf
      have hce : ∀ r u, (labC s)[r]? = some u → wr.cell? ⟨bb, o + i * 12 + r, none⟩ = some u := fun r u hu => (World.cell?_of_block (a := ⟨bb, o + i * 12 + r, none⟩) (HBw.out.block bb hbb)).trans (hat i hlt r u (by show (labC (Y.getD i ⟨#[]⟩))[r]? = some u; rw [hsY]; exact hu))
      have k0 : wr.cell? ⟨bb, o + i * 12, none⟩ = some (.int .u8 (bat s 0)) := hce 0 _ rfl
      have k1 : wr.cell? ⟨bb, o + i * 12 + 1, none⟩ = some (.int .u8 (bat s 1)) := hce 1 _ rfl
      have k2 : wr.cell? ⟨bb, o + i * 12 + 2, none⟩ = some (.int .u8 (bat s 2)) := hce 2 _ rfl
      have k3 : wr.cell? ⟨bb, o + i * 12 + 3, none⟩ = some (.int .u8 (bat s 3)) := hce 3 _ rfl
      have k4 : wr.cell? ⟨bb, o + i * 12 + 4, none⟩ = some (.int .u8 (bat s 4)) := hce 4 _ rfl
      have k5 : wr.cell? ⟨bb, o + i * 12 + 5, none⟩ = some (.int .u8 (bat s 5)) := hce 5 _ rfl
      have k6 : wr.cell? ⟨bb, o + i * 12 + 6, none⟩ = some (.int .u8 (bat s 6)) := hce 6 _ rfl
      have k7 : wr.cell? ⟨bb, o + i * 12 + 7, none⟩ = some (.int .u8 (bat s 7)) := hce 7 _ rfl
      have k8 : wr.cell? ⟨bb, o + i * 12 + 8, none⟩ = some (.int .u8 (bat s 8)) := hce 8 _ rfl
      have k9 : wr.cell? ⟨bb, o + i * 12 + 9, none⟩ = some (.int .u8 (bat s 9)) := hce 9 _ rfl
      have k10 : wr.cell? ⟨bb, o + i * 12 + 10, none⟩ = some (.int .u8 (bat s 10)) := hce 10 _ rfl
      have k11 : wr.cell? ⟨bb, o + i * 12 + 11, none⟩ = some (.int .u8 (bat s 11)) := hce 11 _ rfl
      clear hce hat hp hbS hf hs hsY hfD
      obtain ⟨V1, hV1⟩ : ∃ V, V = wr.alloc (.cells #[.int .u8 (bat s 0), .int .u8 (bat s 1), .int .u8 (bat s 2), .int .u8 (bat s 3), .int .u8 (bat s 4), .int .u8 (bat s 5), .int .u8 (bat s 6), .int .u8 (bat s 7), .int .u8 (bat s 8), .int .u8 (bat s 9), .int .u8 (bat s 10), .int .u8 (bat s 11)] 69) := ⟨_, rfl⟩
      have HB1 : Hid (Below wr.heap.size wr V1) := by show Below _ _ _; rw [hV1]; exact (Below.refl _ _).alloc (Nat.le_refl _) _
      have HX1 : Hid (Box V1 wr.heap.size #[.int .u8 (bat s 0), .int .u8 (bat s 1), .int .u8 (bat s 2), .int .u8 (bat s 3), .int .u8 (bat s 4), .int .u8 (bat s 5), .int .u8 (bat s 6), .int .u8 (bat s 7), .int .u8 (bat s 8), .int .u8 (bat s 9), .int .u8 (bat s 10), .int .u8 (bat s 11)] 69) := by show Box _ _ _ _; rw [hV1]; exact Box.new _ _ _
      have HV1 := hid hV1
      have HB0 : Hid (Below w.heap.size w V1) := HW1.out.trans ((HBw.out.trans (HB1.out.mono HBw.out.size)).mono HW1.out.size)
      clear hV1
      go_upto_region 5 with fail
      rw [← HV1.out]
      clear k0 k1 k2 k3 k4 k5 k6 k7 k8 k9 k10 k11
      have HM1 : Hid (MpI V1 D.mb D.ents) := HD.out.mp.kept (HB0.out.block _ HD.out.mp.lt)
      have HD1 : Hid (Box V1 db #[.map (some D.mb), .bool D.set, .int .i64 D.units, .int .i64 D.after, .int .i64 D.calls, .bool D.down] 67) := HD.out.bx.below HB0.out
      have HF1 : Hid (FtI V1 C f) := HFt.out.kept (fun k hk => HB0.out.block k (HFt.out.blk hk).2) (fun k hk => (HFt.out.blk hk).1)
      have HF1b := hid HF1.out.bx
      have d0 := HD1.out.cell 0
      have d1 := HD1.out.cell 1
      have d2 := HD1.out.cell 2
      have d3 := HD1.out.cell 3
      have d4 := HD1.out.cell 4
      have d5 := HD1.out.cell 5
      have dl := HD1.out.lt
      simp at d0 d1 d2 d3 d4 d5
      have y0 := HX1.out.cell 0
      have y1 := HX1.out.cell 1
      have y2 := HX1.out.cell 2
      have y3 := HX1.out.cell 3
      have y4 := HX1.out.cell 4
      have y5 := HX1.out.cell 5
      have y6 := HX1.out.cell 6
      have y7 := HX1.out.cell 7
      have y8 := HX1.out.cell 8
      have y9 := HX1.out.cell 9
      have y10 := HX1.out.cell 10
      have y11 := HX1.out.cell 11
      have yl := HX1.out.lt
      simp at y0 y1 y2 y3 y4 y5 y6 y7 y8 y9 y10 y11
      have b0 := HF1b.out.cell 0
      have b1 := HF1b.out.cell 1
      have bl := HF1b.out.lt
      simp at b0 b1
      have HCl : Hid (∀ X, Below V1.heap.size V1 X → Calls Tryd.prog 28 #[.slice f.p f.zs.length f.c] X fun e w' => ∃ (p' : Option Addr) (c' : Nat), e = .returned (.slice p' f.zs.length c') ∧ OwnBy X.heap.size w' (.slice p' f.zs.length c') f.zs ∧ Below X.heap.size X w') := fun X hX =>
        bclone_any f.p f.c f.zs X (OwnBy.src (HF1.out.row.below hX) rfl) (by have := HF1.out.le; omega)
      have HOut : Hid (∀ (W4 w3 : World) (p' : Option Addr) (c' : Nat) (ob : Obj), W4 = w3.alloc ob → Below V1.heap.size V1 w3 → OwnBy V1.heap.size w3 (.slice p' f.zs.length c') f.zs → elF.In W4 (fun b => w1.heap.size ≤ b ∧ u3.ownBlock ≠ some b) (outF f p' c')) := by
        intro W4 w3 p' c' ob hW4 hb3 hr3
        have h12 := HNm.out.le
        have hfn := HFn.out
        have hle := HF1.out.le
        have hsu := HF1.out.su
        refine ⟨by show f.name.size ≤ _; rw [hfn]; omega, ?_, by show (-9223372036854775808 : Int) ≤ (f.sure : Int) ∧ (f.sure : Int) ≤ 9223372036854775807; omega⟩
        have hr4 : OwnBy V1.heap.size W4 (.slice p' f.zs.length c') f.zs := ownsRow_keep hr3 fun g _ hl => by rw [hW4]; exact Below.heap_alloc _ _ _ hl
        refine own_byts hr4 (fun g hg => ?_) HF1.out.by_ (by omega)
        have hge := (hr4.lt g hg).1
        have h1 := HBw.out.size
        have h2 := HB1.out.size
        refine ⟨by omega, fun e => ?_⟩
        have := (HO.out.own.lt g e).2
        omega
      refine wp_region_calmE 30 (fun wx => Below V1.heap.size V1 wx) [(0, true), (1, true), (2, true), (3, false), (4, false), (5, false), (6, true)] .done (by kernel_rfl) (by kernel_rfl) (Below.refl _ _).drew ?_
      refine wpPre_e rfl rfl (fun K1 hK1 => ?_)
      apply Exists.intro
      refine And.intro (fun wx hx => ?_) ?_
      · go_simp
        try rfl
      go_simp
      refine hK1 _ ?_
      clear hK1 K1
      refine wpPre_e rfl rfl (fun K1 hK1 => ?_)
      apply Exists.intro
      refine And.intro (fun wx hx => ?_) ?_
      · go_simp
        try rfl
      go_simp
      refine hK1 _ ?_
      clear hK1 K1
      refine wpPre_e rfl rfl (fun K1 hK1 => ?_)
      apply Exists.intro
      refine And.intro (fun wx hx => ?_) ?_
      · go_simp
        try rfl
      go_simp
      refine hK1 _ ?_
      clear hK1 K1
      refine wpPre_e rfl rfl (fun K1 hK1 => ?_)
      apply Exists.intro
      refine And.intro (fun wx hx => ?_) ?_
      · have e0 := below_fact hx rfl d0
        go_simp
        try rfl
      go_simp
      refine hK1 _ ?_
      clear hK1 K1
      refine wpPre_e rfl rfl (fun K1 hK1 => ?_)
      apply Exists.intro
      refine And.intro (fun wx hx => ?_) ?_
      · have e0 := below_fact hx rfl y0
        have e1 := below_fact hx rfl y1
        have e2 := below_fact hx rfl y2
        have e3 := below_fact hx rfl y3
        have e4 := below_fact hx rfl y4
        have e5 := below_fact hx rfl y5
        have e6 := below_fact hx rfl y6
        have e7 := below_fact hx rfl y7
        have e8 := below_fact hx rfl y8
        have e9 := below_fact hx rfl y9
        have e10 := below_fact hx rfl y10
        have e11 := below_fact hx rfl y11
        go_simp
        try rfl
      go_simp
      refine hK1 _ ?_
      clear hK1 K1
      refine wpPre_e rfl rfl (fun K1 hK1 => ?_)
      apply Exists.intro
      refine And.intro (fun wx hx => ?_) ?_
      · have hx2 := hx.resolve_left (by simp)
        have e0 := run_look (HM1.out.kept (hx2.block _ HM1.out.lt)) HNm.out false
        simp only [labV, labC, HLk.out, Option.getD_some, Bool.false_eq_true, if_false] at e0
        go_simp
        try rfl
      go_simp
      refine hK1 _ ?_
      clear hK1 K1
      refine wpPre_e rfl rfl (fun K1 hK1 => ?_)
      apply Exists.intro
      refine And.intro (fun wx hx => ?_) ?_
      · go_simp
        try rfl
      go_simp
      refine hK1 _ ?_
      clear hK1 K1
      refine wpPre_nil ?_
      refine wpTr_done ?_
      go_upto_region 6 with fail
      refine wp_region_calmE 30 (fun wx => Below V1.heap.size V1 wx) [(0, true), (1, false), (3, true), (4, true), (5, true), (6, false), (8, true), (9, true), (10, true), (11, false)] (.one 2 true [] (.one 7 true [(12, true)] (.one 13 true [] (.one 14 false [(15, true)] .done)))) (by kernel_rfl) (by kernel_rfl) (Below.refl _ _).drew.drew ?_
      refine wpPre_e rfl rfl (fun K1 hK1 => ?_)
      apply Exists.intro
      refine And.intro (fun wx hx => ?_) ?_
      · go_simp
        try rfl
      go_simp
      refine hK1 _ ?_
      clear hK1 K1
      refine wpPre_e rfl rfl (fun K1 hK1 => ?_)
      apply Exists.intro
      refine And.intro (fun wx hx => ?_) ?_
      · have e0 := below_fact hx rfl y0
        have e1 := below_fact hx rfl y1
        have e2 := below_fact hx rfl y2
        have e3 := below_fact hx rfl y3
        have e4 := below_fact hx rfl y4
        have e5 := below_fact hx rfl y5
        have e6 := below_fact hx rfl y6
        have e7 := below_fact hx rfl y7
        have e8 := below_fact hx rfl y8
        have e9 := below_fact hx rfl y9
        have e10 := below_fact hx rfl y10
        have e11 := below_fact hx rfl y11
        go_simp
        try rfl
      go_simp
      refine hK1 _ ?_
      clear hK1 K1
      refine wpPre_e rfl rfl (fun K1 hK1 => ?_)
      apply Exists.intro
      refine And.intro (fun wx hx => ?_) ?_
      · go_simp
        try rfl
      go_simp
      refine hK1 _ ?_
      clear hK1 K1
      refine wpPre_e rfl rfl (fun K1 hK1 => ?_)
      apply Exists.intro
      refine And.intro (fun wx hx => ?_) ?_
      · go_simp
        try rfl
      go_simp
      refine hK1 _ ?_
      clear hK1 K1
      refine wpPre_e rfl rfl (fun K1 hK1 => ?_)
      apply Exists.intro
      refine And.intro (fun wx hx => ?_) ?_
      · go_simp
        try rfl
      go_simp
      refine hK1 _ ?_
      clear hK1 K1
      refine wpPre_e rfl rfl (fun K1 hK1 => ?_)
      apply Exists.intro
      refine And.intro (fun wx hx => ?_) ?_
      · have e0 := below_fact hx rfl b0
        go_simp
        try rfl
      go_simp
      refine hK1 _ ?_
      clear hK1 K1
      refine wpPre_e rfl rfl (fun K1 hK1 => ?_)
      apply Exists.intro
      refine And.intro (fun wx hx => ?_) ?_
      · go_simp
        try rfl
      go_simp
      refine hK1 _ ?_
      clear hK1 K1
      refine wpPre_e rfl rfl (fun K1 hK1 => ?_)
      apply Exists.intro
      refine And.intro (fun wx hx => ?_) ?_
      · go_simp
        try rfl
      go_simp
      refine hK1 _ ?_
      clear hK1 K1
      refine wpPre_e rfl rfl (fun K1 hK1 => ?_)
      apply Exists.intro
      refine And.intro (fun wx hx => ?_) ?_
      · go_simp
        try rfl
      go_simp
      refine hK1 _ ?_
      clear hK1 K1
      refine wpPre_e rfl rfl (fun K1 hK1 => ?_)
      apply Exists.intro
      refine And.intro (fun wx hx => ?_) ?_
      · have e0 := below_fact hx rfl b1
        go_simp
        try rfl
      go_simp
      refine hK1 _ ?_
      clear hK1 K1
      refine wpPre_nil ?_
      refine wpTr_e rfl (fun K1 hK1 => ?_)
      refine step_call rfl 34 #[.tmp 21] _ rfl Tryd.f34 Tryd.func34 (by kernel_rfl) rfl #[.agg #[.int .u8 (bat s 0), .int .u8 (bat s 1), .int .u8 (bat s 2), .int .u8 (bat s 3), .int .u8 (bat s 4), .int .u8 (bat s 5), .int .u8 (bat s 6), .int .u8 (bat s 7), .int .u8 (bat s 8), .int .u8 (bat s 9), .int .u8 (bat s 10), .int .u8 (bat s 11)]] rfl _ (name_any s HNm.out _) (fun e w2 h2 => ?_)
      obtain ⟨rfl, hb2⟩ := h2
      have HB2 : Hid (Below V1.heap.size V1 w2) := (Below.refl _ _).drew.drew.trans hb2
      clear hb2
      refine ⟨_, rfl, ?_⟩
      go_simp
      refine hK1 _ _ (fun _ => HB2.out) ?_
      clear hK1 K1
      refine wpPre_nil ?_
      refine wpTr_e rfl (fun K1 hK1 => ?_)
      refine step_call rfl 28 #[.tmp 26] _ rfl Tryd.f28 Tryd.func28 (by kernel_rfl) rfl #[.slice f.p f.zs.length f.c] rfl _ (HCl.out _ HB2.out) (fun e w3 h3 => ?_)
      obtain ⟨p', c', rfl, hr3, hb3⟩ := h3
      have HB3 : Hid (Below V1.heap.size V1 w3) := HB2.out.trans (hb3.mono HB2.out.size)
      have HR3 : Hid (OwnBy V1.heap.size w3 (.slice p' f.zs.length c') f.zs) := own_low hr3 HB2.out.size
      clear hr3 hb3
      refine ⟨_, rfl, ?_⟩
      go_simp
      refine hK1 _ _ (fun _ => HB3.out) ?_
      clear hK1 K1
      refine wpPre_e rfl rfl (fun K1 hK1 => ?_)
      apply Exists.intro
      refine And.intro (fun wx hx => ?_) ?_
      · go_simp
        try rfl
      go_simp
      refine hK1 _ ?_
      clear hK1 K1
      refine wpPre_nil ?_
      refine wpTr_e rfl (fun K1 hK1 => ?_)
      go_simp
      have HB4 : Hid (Below V1.heap.size V1 (w3.alloc (.cells #[.string s, .slice p' f.zs.length c', .int .i64 f.sure] 58))) := HB3.out.trans (((Below.refl _ _).alloc (Nat.le_refl _) _).mono HB3.out.size)
      refine hK1 _ _ (fun _ => HB4.out) ?_
      clear hK1 K1
      refine wpPre_nil ?_
      refine wpTr_e rfl (fun K1 hK1 => ?_)
      obtain ⟨W4, hW4⟩ : ∃ V, V = w3.alloc (.cells #[.string s, .slice p' f.zs.length c', .int .i64 f.sure] 58) := ⟨_, rfl⟩
      rw [← hW4] at HB4 ⊢
      have hO4 : OwnL elF w1.heap.size W4 u3 i g := HO.out.keep (Nat.le_trans HB1.out.size HB4.out.size) fun k _ hl => (HB4.out.block k (Nat.lt_of_lt_of_le hl HB1.out.size)).trans (HB1.out.block k hl)
      have hA4 : elF.In W4 (fun b => w1.heap.size ≤ b ∧ u3.ownBlock ≠ some b) (outF f p' c') := HOut.out W4 w3 p' c' _ hW4 HB3.out HR3.out
      have hNw : ∀ j u', (elF.cells (outF f p' c'))[j]? = some u' → W4.cell? ((⟨w3.heap.size, 0, none⟩ : Addr).add j) = some u' := fun j u' hu => by
        rw [hW4, Go.WideShapes.add_plain, (Box.new w3 #[.string s, .slice p' f.zs.length c', .int .i64 f.sure] 58).cell]
        rw [show 0 + j = j by omega]
        simpa [elF, outF, HFn.out] using hu
      have hsz4 : w1.heap.size ≤ W4.heap.size := Nat.le_trans HBw.out.size (Nat.le_trans HB1.out.size HB4.out.size)
      refine step_app rfl (.tmp 20) (.tmp 33) 35 58 i0 _ 3 48 HKd.out rfl w1.heap.size u3 i _ rfl hO4.own ⟨w3.heap.size, 0, none⟩ 1 1 (elF.cells (outF f p' c')) rfl rfl hNw (elF.one _) (by omega) (by omega) hsz4 (fun v5 w5 ho5 hg5 hn5 => ?_)
      have HO5 := hid (hO4.push hA4 ho5 hg5 hn5)
      have HB5 : Hid (Below w1.heap.size w1 w5) := ((HBw.out.trans ((HB1.out.trans (HB4.out.mono HB1.out.size)).mono HBw.out.size))).grown hg5 hsz4 (fun k hk => (hO4.own.lt k hk).1)
      clear ho5 hg5 hn5 hO4 hA4 hNw hsz4
      go_simp
      refine hK1 _ _ (fun h => by cases h) ?_
      clear hK1 K1
      refine wpPre_e rfl rfl (fun K1 hK1 => ?_)
      apply Exists.intro
      refine And.intro (fun wx hx => ?_) ?_
      · go_simp
        try rfl
      go_simp
      refine hK1 _ ?_
      clear hK1 K1
      refine wpPre_nil ?_
      refine wpTr_done ?_
      have HG5 : Hid (∀ q, q < i + 1 → ∃ f_, YS[q]? = some f_ ∧ ((if q < i then g q else outF f p' c')).key = f_.key) := by
        intro q hq
        by_cases hqi : q < i
        · rw [if_pos hqi]; exact HG.out q hqi
        · rw [if_neg hqi]
          obtain rfl : q = i := by omega
          exact ⟨f, HFi.out, outF_key f p' c'⟩
      go_wp2
      go_roundw
      case rel => exact ⟨i + 1, _, by omega, by go_num, HO5.out, HG5.out, HB5.out⟩
      case measure => simp [intOf]; omega
    · have hlt' : ¬ (i : Int) < (Y.length : Int) := by omega
      have hYl := HYl.out
      obtain ⟨p3, c3, hv3, hL3⟩ := HO.out.in_ (by omega)
      subst hv3
      have HL3 := hid hL3
      clear hL3
      go_wp2
      exact bodyPost_ret (v := .slice p3 i c3) (by simp [results, Tryd.results12, go_sem]) rfl ⟨⟨p3, i, c3, g⟩, YS, rfl, HL3.out.mono fun b hb _ => Nat.le_trans HW1.out.size hb, HY.out.1, HPw.out.imp (fun h => by omega), by show i = YS.length; omega, HG.out, HW1.out.trans (HBw.out.mono HW1.out.size)⟩
end Go.Proofs.YtkfcilandmhomaaDoor
