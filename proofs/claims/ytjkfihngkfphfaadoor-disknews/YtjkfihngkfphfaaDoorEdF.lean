import Derived.Test.YtjkfihngkfphfaaDoorEdD
namespace Go.Proofs.YtjkfihngkfphfaaDoor
open Go.RowKit
set_option maxRecDepth 8000
theorem same_files {l : LT FA} {W w' : World} {pb db rb : Nat} {D : DK} {A : LT RO} (h : PrI l W w' pb db rb D A) {u v : LT FA} {YS : List FT} (hp : YS.Perm D.fs) (hs : YS.Pairwise fun a b => ¬ cmpN b.name a.name < 0) (hun : u.n = YS.length) (huk : ∀ j, j < u.n → ∃ f, YS[j]? = some f ∧ (u.item j).key = f.key) (hvn : v.n = A.n) (hvk : ∀ j, j < A.n → (v.item j).key = (A.item j).key) : v.n = u.n ∧ ∀ j, j < u.n → (v.item j).key = (u.item j).key := by
  obtain ⟨b1, _, hd⟩ := h.dk
  have hnd : (D.fs.map FT.name).Nodup := by
    obtain ⟨es, ck, _, hE⟩ := hd.mp
    simpa [DK.ents, List.map_map, Function.comp_def] using hE.nodup
  have he := files_eq l D YS h.ks (fun f hf => (hd.each f hf).nm) h.ok hnd hp hs
  have hr := h.rks
  rw [← he] at hr
  have hlen : A.n = YS.length := by
    have := congrArg List.length hr
    simpa [LT.lst] using this
  refine ⟨by omega, fun j hj => ?_⟩
  obtain ⟨f, hf, hk⟩ := huk j hj
  rw [hvk j (by omega), hk]
  have h2 := congrArg (fun L => L[j]?) hr
  simp only [LT.lst, List.map_map, List.getElem?_map, hf] at h2
  rw [List.getElem?_range (by omega)] at h2
  simpa using h2
set_option maxHeartbeats 16000000 in
theorem diskNews_walk (l : LT FA) (w : World) (hl : LT.In elF w (fun b => b < w.heap.size) l) :
    Calls Tryd.prog 3 #[.slice l.p l.n l.c] w fun e w' => e = .returned (.bool true) ∧ Below w.heap.size w w' := by
  have HL := hid hl
  have HFt := hid (lfits_any l w _ hl)
  obtain ⟨V1, hV1⟩ : ∃ V, V = w.alloc (.cells #[.pointer none, .pointer none] 28) := ⟨_, rfl⟩
  have HB1 : Hid (Below w.heap.size w V1) := by show Below _ _ _; rw [hV1]; exact (Below.refl _ _).alloc (Nat.le_refl _) _
  have HX1 : Hid (Box V1 w.heap.size #[.pointer none, .pointer none] 28) := by show Box _ _ _ _; rw [hV1]; exact Box.new _ _ _
  have HV1 := hid hV1
  clear hl hV1
  go_enter Tryd.func3, Tryd.ntmps3
  go_wp2_with fail
  refine HFt.out.mono ?_
  rintro e w0 ⟨q, rfl, hw0, hq⟩
  obtain rfl := hw0.symm
  cases q with
  | false =>
    go_wp2
    exact bodyPost_ret (v := .bool true) (by simp [results, Tryd.results3, go_sem]) rfl ⟨rfl, Below.refl _ _⟩
  | true =>
    obtain ⟨hn, hz⟩ := hq rfl
    have HBg := hid (begin_any l V1 w.heap.size HX1.out ((HL.out.kept HB1.out.size fun b _ hlt => HB1.out.block b hlt).mono fun b _ h => h) hn hz)
    clear hq hz
    go_upto_region 4 with fail
    rw [← HV1.out]
    go_wp2_with fail
    refine HBg.out.mono ?_
    rintro e V2 ⟨rfl, hbt, hc⟩
    have HBV : Hid (Below w.heap.size w V2) := HB1.out.trans (hbt.below HB1.out.size fun k hk e => by have e' : k = w.heap.size := e; omega)
    rcases hc with ⟨hb, hx⟩ | ⟨db, rb, D, A, hP⟩
    · have f0 := hx.cell 0
      have f1 := hx.cell 1
      simp at f0 f1
      clear hx hbt
      go_upto_region 6 with fail
      refine wp_region_calmE 30 (fun wx => Below V2.heap.size V2 wx) [(0, true), (1, true), (2, true), (3, false), (4, true), (5, true), (6, true), (7, true), (8, true), (9, false), (11, true), (12, true), (13, true), (14, false)] (.one 10 true [] (.one 15 true [] (.one 16 true [(17, true), (18, true)] .done))) (by kernel_rfl) (by kernel_rfl) (Below.refl _ _).drew ?_
      refine wpPre_e rfl rfl (fun K1 hK1 => ?_)
      apply Exists.intro
      refine And.intro (fun wx hx => ?_) ?_
      · go_simp
        try rfl
      go_simp
      refine hK1 _ ?_
      clear hK1 K1
      refine wpPre_e rfl rfl (fun K1 hK1 => ?_)
      apply Exists.intro
      refine And.intro (fun wx hx => ?_) ?_
      · go_simp
        try rfl
      go_simp
      refine hK1 _ ?_
      clear hK1 K1
      refine wpPre_e rfl rfl (fun K1 hK1 => ?_)
      apply Exists.intro
      refine And.intro (fun wx hx => ?_) ?_
      · go_simp
        try rfl
      go_simp
      refine hK1 _ ?_
      clear hK1 K1
      refine wpPre_e rfl rfl (fun K1 hK1 => ?_)
      apply Exists.intro
      refine And.intro (fun wx hx => ?_) ?_
      · have e0 := below_fact hx rfl f0
        have e1 := below_fact hx rfl f1
        go_simp
        try rfl
      go_simp
      refine hK1 _ ?_
      clear hK1 K1
      refine wpPre_e rfl rfl (fun K1 hK1 => ?_)
      apply Exists.intro
      refine And.intro (fun wx hx => ?_) ?_
      · go_simp
        try rfl
      go_simp
      refine hK1 _ ?_
      clear hK1 K1
      refine wpPre_e rfl rfl (fun K1 hK1 => ?_)
      apply Exists.intro
      refine And.intro (fun wx hx => ?_) ?_
      · go_simp
        try rfl
      go_simp
      refine hK1 _ ?_
      clear hK1 K1
      refine wpPre_i rfl (fun K1 hK1 => ?_)
      rw [if_neg (by go_simp; all_goals (intro h; cases h))]
      go_simp
      refine hK1 _ ?_
      clear hK1 K1
      refine wpPre_i rfl (fun K1 hK1 => ?_)
      rw [if_neg (by go_simp; all_goals (intro h; cases h))]
      go_simp
      refine hK1 _ ?_
      clear hK1 K1
      refine wpPre_i rfl (fun K1 hK1 => ?_)
      rw [if_neg (by go_simp; all_goals (intro h; cases h))]
      go_simp
      refine hK1 _ ?_
      clear hK1 K1
      refine wpPre_i rfl (fun K1 hK1 => ?_)
      rw [if_neg (by go_simp; all_goals (intro h; cases h))]
      go_simp
      refine hK1 _ ?_
      clear hK1 K1
      refine wpPre_i rfl (fun K1 hK1 => ?_)
      rw [if_neg (by go_simp; all_goals (intro h; cases h))]
      go_simp
      refine hK1 _ ?_
      clear hK1 K1
      refine wpPre_i rfl (fun K1 hK1 => ?_)
      rw [if_neg (by go_simp; all_goals (intro h; cases h))]
      go_simp
      refine hK1 _ ?_
      clear hK1 K1
      refine wpPre_i rfl (fun K1 hK1 => ?_)
      rw [if_neg (by go_simp; all_goals (intro h; cases h))]
      go_simp
      refine hK1 _ ?_
      clear hK1 K1
      refine wpPre_i rfl (fun K1 hK1 => ?_)
      rw [if_neg (by go_simp; all_goals (intro h; cases h))]
      go_simp
      refine hK1 _ ?_
      clear hK1 K1
      refine wpPre_nil ?_
      refine wpTr_e rfl (fun K1 hK1 => ?_)
      rw [if_neg (by go_simp; all_goals (intro h; cases h))]
      go_simp
      refine hK1 _ _ (fun _ => (Below.refl _ _).drew) ?_
      clear hK1 K1
      refine wpPre_nil ?_
      refine wpTr_e rfl (fun K1 hK1 => ?_)
      rw [if_neg (by go_simp; all_goals (intro h; cases h))]
      go_simp
      refine hK1 _ _ (fun _ => (Below.refl _ _).drew) ?_
      clear hK1 K1
      refine wpPre_nil ?_
      refine wpTr_e rfl (fun K1 hK1 => ?_)
      rw [if_neg (by go_simp; all_goals (intro h; cases h))]
      go_simp
      refine hK1 _ _ (fun _ => (Below.refl _ _).drew) ?_
      clear hK1 K1
      refine wpPre_e rfl rfl (fun K1 hK1 => ?_)
      apply Exists.intro
      refine And.intro (fun wx hx => ?_) ?_
      · go_simp
        try rfl
      go_simp
      refine hK1 _ ?_
      clear hK1 K1
      refine wpPre_e rfl rfl (fun K1 hK1 => ?_)
      apply Exists.intro
      refine And.intro (fun wx hx => ?_) ?_
      · go_simp
        try rfl
      go_simp
      refine hK1 _ ?_
      clear hK1 K1
      refine wpPre_nil ?_
      refine wpTr_done ?_
      go_wp2
      exact bodyPost_ret (v := .bool true) (by simp [results, Tryd.results3, go_sem]) rfl ⟨rfl, HBV.out.drew⟩
    · have f0 := hP.bx.cell 0
      have f1 := hP.bx.cell 1
      simp at f0 f1
      have HP := hid hP
      obtain ⟨b1, _, hdk⟩ := hP.dk
      have HF1 : Hid (∀ Wx, Below V2.heap.size V2 Wx → Calls Tryd.prog 7 #[.pointer (some ⟨db, 0, none⟩)] Wx fun e w' => FilesQ D Wx e w') := fun Wx hW => dfiles_any D Wx _ db (hdk.kept fun k _ hlt => hW.block k hlt)
      have HF2 : Hid (∀ Wx, Below V2.heap.size V2 Wx → Calls Tryd.prog 8 #[.pointer (some ⟨rb, 0, none⟩)] Wx fun e w' => RfilesQ A Wx e w') := fun Wx hW => by
        have hr := (hP.rbx.below hW).cell 0
        refine rfiles_any A Wx _ rb (by simpa using hr) (hP.li.kept hW.size fun b _ hlt => hW.block b hlt) ?_
        have h1 := hP.an
        have h2 := hP.n4
        omega
      clear hP hdk hbt
      go_upto_region 6 with fail
      refine wp_region_calmE 30 (fun wx => Below V2.heap.size V2 wx) [(0, true), (1, true), (2, true), (3, false), (4, true), (5, true), (6, true), (7, true), (8, true), (9, false), (11, true), (12, true), (13, true), (14, false)] (.one 10 true [] (.one 15 true [] (.one 16 true [(17, true), (18, true)] .done))) (by kernel_rfl) (by kernel_rfl) (Below.refl _ _).drew ?_
      refine wpPre_e rfl rfl (fun K1 hK1 => ?_)
      apply Exists.intro
      refine And.intro (fun wx hx => ?_) ?_
      · go_simp
        try rfl
      go_simp
      refine hK1 _ ?_
      clear hK1 K1
      refine wpPre_e rfl rfl (fun K1 hK1 => ?_)
      apply Exists.intro
      refine And.intro (fun wx hx => ?_) ?_
      · go_simp
        try rfl
      go_simp
      refine hK1 _ ?_
      clear hK1 K1
      refine wpPre_e rfl rfl (fun K1 hK1 => ?_)
      apply Exists.intro
      refine And.intro (fun wx hx => ?_) ?_
      · go_simp
        try rfl
      go_simp
      refine hK1 _ ?_
      clear hK1 K1
      refine wpPre_e rfl rfl (fun K1 hK1 => ?_)
      apply Exists.intro
      refine And.intro (fun wx hx => ?_) ?_
      · have e0 := below_fact hx rfl f0
        have e1 := below_fact hx rfl f1
        go_simp
        try rfl
      go_simp
      refine hK1 _ ?_
      clear hK1 K1
      refine wpPre_e rfl rfl (fun K1 hK1 => ?_)
      apply Exists.intro
      refine And.intro (fun wx hx => ?_) ?_
      · go_simp
        try rfl
      go_simp
      refine hK1 _ ?_
      clear hK1 K1
      refine wpPre_e rfl rfl (fun K1 hK1 => ?_)
      apply Exists.intro
      refine And.intro (fun wx hx => ?_) ?_
      · go_simp
        try rfl
      go_simp
      refine hK1 _ ?_
      clear hK1 K1
      refine wpPre_i rfl (fun K1 hK1 => ?_)
      rw [if_pos (by go_simp)]
      apply Exists.intro
      refine And.intro (fun wx hx => ?_) ?_
      · go_simp
        try rfl
      go_simp
      refine hK1 _ ?_
      clear hK1 K1
      refine wpPre_i rfl (fun K1 hK1 => ?_)
      rw [if_pos (by go_simp)]
      apply Exists.intro
      refine And.intro (fun wx hx => ?_) ?_
      · go_simp
        try rfl
      go_simp
      refine hK1 _ ?_
      clear hK1 K1
      refine wpPre_i rfl (fun K1 hK1 => ?_)
      rw [if_pos (by go_simp)]
      apply Exists.intro
      refine And.intro (fun wx hx => ?_) ?_
      · go_simp
        try rfl
      go_simp
      refine hK1 _ ?_
      clear hK1 K1
      refine wpPre_i rfl (fun K1 hK1 => ?_)
      rw [if_pos (by go_simp)]
      apply Exists.intro
      refine And.intro (fun wx hx => ?_) ?_
      · have e0 := below_fact hx rfl f0
        have e1 := below_fact hx rfl f1
        go_simp
        try rfl
      go_simp
      refine hK1 _ ?_
      clear hK1 K1
      refine wpPre_i rfl (fun K1 hK1 => ?_)
      rw [if_pos (by go_simp)]
      apply Exists.intro
      refine And.intro (fun wx hx => ?_) ?_
      · go_simp
        try rfl
      go_simp
      refine hK1 _ ?_
      clear hK1 K1
      refine wpPre_i rfl (fun K1 hK1 => ?_)
      rw [if_pos (by go_simp)]
      apply Exists.intro
      refine And.intro (fun wx hx => ?_) ?_
      · go_simp
        try rfl
      go_simp
      refine hK1 _ ?_
      clear hK1 K1
      refine wpPre_i rfl (fun K1 hK1 => ?_)
      rw [if_pos (by go_simp)]
      apply Exists.intro
      refine And.intro (fun wx hx => ?_) ?_
      · go_simp
        try rfl
      go_simp
      refine hK1 _ ?_
      clear hK1 K1
      refine wpPre_i rfl (fun K1 hK1 => ?_)
      rw [if_pos (by go_simp)]
      apply Exists.intro
      refine And.intro (fun wx hx => ?_) ?_
      · have e0 := below_fact hx rfl f0
        have e1 := below_fact hx rfl f1
        go_simp
        try rfl
      go_simp
      refine hK1 _ ?_
      clear hK1 K1
      refine wpPre_nil ?_
      refine wpTr_e rfl (fun K1 hK1 => ?_)
      refine step_callG (by first | rfl | go_simp) 7 #[.tmp 22] _ rfl Tryd.f7 Tryd.func7 (by kernel_rfl) rfl #[.pointer (some ⟨db, 0, none⟩)] rfl _ (HF1.out _ (Below.refl _ _).drew) ?_
      rintro e_ w3 ⟨u, YS, rfl, hu, hYp, hYs, hun, huk, hb3⟩
      refine ⟨_, rfl, ?_⟩
      have HU := hid hu
      have HYp := hid hYp
      have HYs := hid hYs
      have HUn := hid hun
      have HUk := hid huk
      have HB3 : Hid (Below V2.heap.size V2 w3) := (Below.refl _ _).drew.trans hb3
      clear hu hYp hYs hun huk hb3
      go_simp
      refine hK1 _ _ (fun _ => HB3.out) ?_
      clear hK1 K1
      refine wpPre_nil ?_
      refine wpTr_e rfl (fun K1 hK1 => ?_)
      refine step_callG (by first | rfl | go_simp) 8 #[.tmp 27] _ rfl Tryd.f8 Tryd.func8 (by kernel_rfl) rfl #[.pointer (some ⟨rb, 0, none⟩)] rfl _ (HF2.out _ HB3.out) ?_
      rintro e_ w4 ⟨v, rfl, hv, hvn, hvk, hb4⟩
      refine ⟨_, rfl, ?_⟩
      have HV := hid hv
      have HVn := hid hvn
      have HVk := hid hvk
      have HB34 := hid hb4
      have HB4 : Hid (Below V2.heap.size V2 w4) := HB3.out.trans (hb4.mono HB3.out.size)
      clear hv hvn hvk hb4
      go_simp
      refine hK1 _ _ (fun _ => HB4.out) ?_
      clear hK1 K1
      refine wpPre_nil ?_
      refine wpTr_e rfl (fun K1 hK1 => ?_)
      have HSame : Hid (v.n = u.n ∧ ∀ j, j < u.n → (v.item j).key = (u.item j).key) := same_files HP.out HYp.out HYs.out HUn.out HUk.out HVn.out HVk.out
      refine step_callG (by first | rfl | go_simp) 6 #[.tmp 23, .tmp 28] _ rfl Tryd.f6 Tryd.func6 (by kernel_rfl) rfl #[.slice u.p u.n u.c, .slice v.p v.n v.c] rfl _ (alike_yes u v w4 _ _ (HU.out.kept HB34.out.size fun b _ hl => HB34.out.block b hl) HV.out HSame.out.1 HSame.out.2) ?_
      rintro e_ w5 ⟨rfl, hb5⟩
      refine ⟨_, rfl, ?_⟩
      have HB5 : Hid (Below V2.heap.size V2 w5) := HB4.out.trans (hb5.mono HB4.out.size)
      clear hb5
      go_simp
      refine hK1 _ _ (fun _ => HB5.out) ?_
      clear hK1 K1
      refine wpPre_e rfl rfl (fun K1 hK1 => ?_)
      apply Exists.intro
      refine And.intro (fun wx hx => ?_) ?_
      · go_simp
        try rfl
      go_simp
      refine hK1 _ ?_
      clear hK1 K1
      refine wpPre_e rfl rfl (fun K1 hK1 => ?_)
      apply Exists.intro
      refine And.intro (fun wx hx => ?_) ?_
      · go_simp
        try rfl
      go_simp
      refine hK1 _ ?_
      clear hK1 K1
      refine wpPre_nil ?_
      refine wpTr_done ?_
      go_wp2
      exact bodyPost_ret (v := .bool true) (by simp [results, Tryd.results3, go_sem]) rfl ⟨rfl, HBV.out.trans (HB5.out.mono HBV.out.size)⟩
end Go.Proofs.YtjkfihngkfphfaaDoor
