import Derived.Test.YtkfcilandmhomaaDoorEcE
namespace Go.Proofs.YtkfcilandmhomaaDoor
open Go.RowKit
set_option maxRecDepth 8000
/-- a file of the reference as it is told -/
def tellO (o : RO) (p : Option Addr) (c : Nat) : FA := ⟨o.name, p, o.zs.length, c, fun j => o.zs.getD j 0, (o.sn : Int)⟩
theorem tellO_key (o : RO) (p : Option Addr) (c : Nat) : (tellO o p c).key = o.key := by
  have h : (tellO o p c).zs = o.zs := by
    show (List.range o.zs.length).map (fun j => o.zs.getD j 0) = o.zs
    apply List.ext_getElem?
    intro j
    by_cases h : j < o.zs.length
    · simp [List.getElem?_range h, List.getD_eq_getElem?_getD, List.getElem?_eq_getElem h]
    · rw [List.getElem?_eq_none (by simp; omega), List.getElem?_eq_none (by omega)]
  unfold FA.key RO.key
  rw [h]
  rfl
theorem RO.zs_len (o : RO) : o.zs.length = o.sn + o.ln := by simp [RO.zs]
def RfilesQ (A : LT RO) (w : World) (e : Ending) (w' : World) : Prop :=
  ∃ u : LT FA, e = .returned (.slice u.p u.n u.c) ∧ LT.In elF w' (fun k => w.heap.size ≤ k) u ∧ u.n = A.n ∧ (∀ j, j < A.n → (u.item j).key = (A.item j).key) ∧ Below w.heap.size w w'
end Go.Proofs.YtkfcilandmhomaaDoor

namespace Go.Proofs.YtkfcilandmhomaaDoor
open Go.RowKit
set_option maxRecDepth 8000
set_option maxHeartbeats 1000000 in
/-- the law's copyBytes -/
theorem cpB_any (p : Option Addr) (c : Nat) (zs : List Int) (w : World) (hs : Src w p zs.length c 1 (zs.map (.int .u8))) (hle : zs.length ≤ 100000000) :
    Calls Tryd.prog 41 #[.slice p zs.length c] w fun e w' => ∃ (p' : Option Addr) (c' : Nat), e = .returned (.slice p' zs.length c') ∧ OwnBy w.heap.size w' (.slice p' zs.length c') zs ∧ Below w.heap.size w w' := by
  obtain ⟨i0, Kd⟩ := kindB
  have hown : w.ownsRow w.heap.size 5 1 (.slice none 0 0) 0 [] := World.ownsRow_nil _ _ _ _
  go_enter Tryd.func41, Tryd.ntmps41
  go_wp2_with (at_builtin; refine wpList_appS rfl (.tmp 4) (.tmp 5) 30 5 i0 _ 1 1 Kd rfl w.heap.size _ 0 [] rfl hown p zs.length c _ rfl hs (one_u8 zs) (by omega) (by omega) (Nat.le_refl _) ?_)
  intro v' w' ho hg hn
  have HO : Hid (OwnBy w.heap.size w' v' zs) := by
    show w'.ownsRow _ _ _ _ _ _
    simpa using ho
  obtain ⟨p', c', hv⟩ := ownsRow_slice HO.out
  subst hv
  have HB : Hid (Below w.heap.size w w') := (Below.refl _ _).grown hg (Nat.le_refl _) (fun k hk => (hown.lt k hk).1)
  clear ho hg hn hs hown
  go_wp2
  exact bodyPost_ret (v := .slice p' zs.length c') (by simp [results, Tryd.results41, go_sem]) rfl ⟨p', c', rfl, HO.out, HB.out⟩
/-- the file as it is copied -/
def cpA (a : FA) (p : Option Addr) (c : Nat) : FA := ⟨a.name, p, a.zs.length, c, fun j => a.zs.getD j 0, a.sy⟩
theorem cpA_key (a : FA) (p : Option Addr) (c : Nat) : (cpA a p c).key = a.key := by
  have h : (cpA a p c).zs = a.zs := by
    show (List.range a.zs.length).map (fun j => a.zs.getD j 0) = a.zs
    apply List.ext_getElem?
    intro j
    by_cases h : j < a.zs.length
    · simp [List.getElem?_range h, List.getD_eq_getElem?_getD, List.getElem?_eq_getElem h]
    · rw [List.getElem?_eq_none (by simp; omega), List.getElem?_eq_none (by omega)]
  unfold FA.key
  rw [h]
  rfl
def CpQ (A : LT FA) (w : World) (e : Ending) (w' : World) : Prop :=
  ∃ u : LT FA, e = .returned (.slice u.p u.n u.c) ∧ LT.In elF w' (fun k => w.heap.size ≤ k) u ∧ u.n = A.n ∧ (∀ j, j < A.n → (u.item j).key = (A.item j).key) ∧ Below w.heap.size w w'
set_option maxHeartbeats 8000000 in
theorem cpF_any (A : LT FA) (w : World) (S : Nat → Prop) (hA : LT.In elF w S A) (hn : A.n ≤ 100000) (hz : ∀ j, j < A.n → (A.item j).n ≤ 100000000) :
    Calls Tryd.prog 23 #[.slice A.p A.n A.c] w fun e w' => CpQ A w e w' := by
  obtain ⟨i0, Kd⟩ := kindFl
  have HKd := hid Kd
  have HA := hid hA
  have HZ := hid hz
  clear hA Kd hz
  go_enter Tryd.func23, Tryd.ntmps23
  go_wp2_with fail
  go_loopw [3, 4] (fun v x wr => ∃ (i : Nat) (g : Nat → FA), i ≤ A.n ∧ x = .int .i64 (i : Int) ∧ OwnL elF w.heap.size wr v i g ∧ (∀ q, q < i → (g q).key = (A.item q).key) ∧ Below w.heap.size w wr) (fun _ x _ => A.n - (intOf x).toNat)
  case atStart => exact ⟨0, fun _ => ⟨⟨#[]⟩, none, 0, 0, fun _ => 0, 0⟩, Nat.zero_le _, rfl, ⟨World.ownsRow_nil _ _ _ _, fun j hj => absurd hj (by omega)⟩, fun q hq => absurd hq (by omega), Below.refl _ _⟩
  case round =>
    obtain ⟨i, g, hi, rfl, hO, hg, hbw⟩ := hrel
    have HO := hid hO
    have HG := hid hg
    have HBw := hid hbw
    clear hO hg hbw
    by_cases hlt : i < A.n
    · have hlt' : (i : Int) < (A.n : Int) := by omega
      obtain ⟨bb, o, hp, _, hbb, hat⟩ := HA.out.at_ (by omega)
      rw [hp]
      obtain ⟨f, hf⟩ : ∃ f, f = A.item i := ⟨_, rfl⟩
      have hce : ∀ q u, (elF.cells f)[q]? = some u → wr.cell? ⟨bb, o + i * 3 + q, none⟩ = some u := fun q u hu => (World.cell?_of_block (a := ⟨bb, o + i * 3 + q, none⟩) (HBw.out.block bb hbb)).trans (hat i hlt q u (by rw [← hf]; exact hu))
      have a0 : wr.cell? ⟨bb, o + i * 3, none⟩ = some (.string f.name) := hce 0 _ rfl
      have a1 : wr.cell? ⟨bb, o + i * 3 + 1, none⟩ = some (.slice f.p f.n f.c) := hce 1 _ rfl
      have a2 : wr.cell? ⟨bb, o + i * 3 + 2, none⟩ = some (.int .i64 f.sy) := hce 2 _ rfl
      have HFi : Hid (elF.In w S f) := by show elF.In w S f; rw [hf]; exact HA.out.each i hlt
      have HFz : Hid (f.zs.length ≤ 100000000) := by show f.zs.length ≤ _; rw [FA.zs_len, hf]; exact HZ.out i hlt
      have HFe := hid hf
      clear hce hat hf
      have HFn : Hid (f.zs.length = f.n) := FA.zs_len f
      obtain ⟨V1, hV1⟩ : ∃ V, V = wr.alloc (.cells #[.string f.name, .slice f.p f.n f.c, .int .i64 f.sy] 58) := ⟨_, rfl⟩
      have HB1 : Hid (Below wr.heap.size wr V1) := by show Below _ _ _; rw [hV1]; exact (Below.refl _ _).alloc (Nat.le_refl _) _
      have HX1 : Hid (Box V1 wr.heap.size #[.string f.name, .slice f.p f.n f.c, .int .i64 f.sy] 58) := by show Box _ _ _ _; rw [hV1]; exact Box.new _ _ _
      have HV1 := hid hV1
      have HBv : Hid (Below w.heap.size w V1) := HBw.out.trans (HB1.out.mono HBw.out.size)
      clear hV1
      go_upto_region 6 with fail
      rw [← HV1.out]
      clear a0 a1 a2
      have f0 := HX1.out.cell 0
      have f1 := HX1.out.cell 1
      have f2 := HX1.out.cell 2
      have fl := HX1.out.lt
      simp at f0 f1 f2
      have HFr : Hid (Calls Tryd.prog 41 #[.slice f.p f.n f.c] V1 fun e w' => ∃ (p' : Option Addr) (c' : Nat), e = .returned (.slice p' f.zs.length c') ∧ OwnBy V1.heap.size w' (.slice p' f.zs.length c') f.zs ∧ Below V1.heap.size V1 w') := by
        have hsrc : Src V1 f.p f.zs.length f.c 1 (f.zs.map (.int .u8)) := by
          rw [HFn.out]
          have h := (HFi.out.2.1.kept HBv.out.size fun b _ hl => HBv.out.block b hl).src
          simpa [FA.zs, List.map_map, Function.comp_def] using h
        have h := cpB_any f.p f.c f.zs V1 hsrc HFz.out
        rw [HFn.out] at h ⊢
        exact h
      go_wp2_with fail
      refine HFr.out.mono ?_
      rintro e w2 ⟨p2, c2, rfl, hr2, hb2⟩
      have HR2 := hid hr2
      have HX2 := hid (HX1.out.below hb2)
      have HBV2 := hid hb2
      clear f0 f1 f2 fl hr2 hb2
      obtain ⟨V3, hV3⟩ : ∃ V, V = w2.setCell ⟨wr.heap.size, 1, none⟩ (.slice p2 f.zs.length c2) := ⟨_, rfl⟩
      have HX3 : Hid (Box V3 wr.heap.size #[.string f.name, .slice p2 f.zs.length c2, .int .i64 f.sy] 58) := by
        show Box _ _ _ _
        rw [hV3]
        have h := HX2.out.set 1 (.slice p2 f.zs.length c2)
        simpa using h
      have hbt : But (fun k => k = wr.heap.size) w2 V3 := by rw [hV3]; exact (But.one _ _).setAt 1 _
      have HBt := hid hbt
      have HV3 := hid hV3
      have HB3 : Hid (Below wr.heap.size wr V3) := HB1.out.trans ((HBV2.out.mono HB1.out.size).trans (HBt.out.below (Nat.le_trans HB1.out.size HBV2.out.size) fun k hk e => by have e' : k = wr.heap.size := e; omega))
      have f1 := HX2.out.cell 1
      have fz := HX2.out.frozen 1
      have fl := HX2.out.lt
      simp at f1
      clear hbt hV3
      go_upto_region 7 with fail
      rw [← HV3.out]
      clear f1 fz fl
      have f0 := HX3.out.cell 0
      have f1 := HX3.out.cell 1
      have f2 := HX3.out.cell 2
      have fl := HX3.out.lt
      simp at f0 f1 f2
      have hal : Below V3.heap.size V3 (V3.alloc (.cells #[.string f.name, .slice p2 f.zs.length c2, .int .i64 f.sy] 58)) := (Below.refl _ _).alloc (Nat.le_refl _) _
      have hO2 := (HO.out.keep HB3.out.size (fun k _ hl => HB3.out.block k hl)).keep hal.size (fun k _ hl => hal.block k hl)
      have hu2 : elF.In (V3.alloc (.cells #[.string f.name, .slice p2 f.zs.length c2, .int .i64 f.sy] 58)) (fun b => w.heap.size ≤ b ∧ u3.ownBlock ≠ some b) (cpA f p2 c2) := by
        have h1 := HBv.out.size
        have h2 := HB1.out.size
        have hz := HFz.out
        refine ⟨HFi.out.1, ?_, HFi.out.2.2⟩
        have hge : ∀ g, (Value.slice p2 f.zs.length c2).ownBlock = some g → V1.heap.size ≤ g ∧ g < w2.heap.size := fun g hg => HR2.out.lt g hg
        have hr3 : OwnBy V1.heap.size V3 (.slice p2 f.zs.length c2) f.zs := ownsRow_keep HR2.out fun g hg hl => HBt.out.block g hl (by have := (hge g hg).1; have h3 := HX1.out.lt; show ¬ g = wr.heap.size; omega)
        have hr4 : OwnBy V1.heap.size (V3.alloc (.cells #[.string f.name, .slice p2 f.zs.length c2, .int .i64 f.sy] 58)) (.slice p2 f.zs.length c2) f.zs := ownsRow_keep hr3 fun g _ hl => hal.block g hl
        refine own_byts hr4 (fun g hg => ?_) (fun z hz => ?_) (by omega)
        · have hge := (hr4.lt g hg).1
          refine ⟨by omega, fun e => ?_⟩
          have := (HO.out.own.lt g e).2
          omega
        · obtain ⟨j, hj, rfl⟩ := List.mem_map.1 hz
          have := HFi.out.2.1.fit j (List.mem_range.1 hj)
          omega
      have hnw : ∀ j u', (elF.cells (cpA f p2 c2))[j]? = some u' → (V3.alloc (.cells #[.string f.name, .slice p2 f.zs.length c2, .int .i64 f.sy] 58)).cell? ((⟨V3.heap.size, 0, none⟩ : Addr).add j) = some u' := fun j u' hu => by
        rw [Go.WideShapes.add_plain, (Box.new V3 #[.string f.name, .slice p2 f.zs.length c2, .int .i64 f.sy] 58).cell]
        rw [show 0 + j = j by omega]
        simpa [elF, cpA] using hu
      have hbA : Below w.heap.size w (V3.alloc (.cells #[.string f.name, .slice p2 f.zs.length c2, .int .i64 f.sy] 58)) := (HBw.out.trans (HB3.out.mono HBw.out.size)).trans (hal.mono (Nat.le_trans HBw.out.size HB3.out.size))
      have HP := hid (And.intro hO2 (And.intro hu2 (And.intro hnw hbA)))
      clear hal hO2 hu2 hnw hbA
      go_wp2_with (at_builtin; refine wpList_app rfl (.tmp 20) (.tmp 22) 35 58 i0 _ 3 48 HKd.out rfl w.heap.size u3 i _ rfl HP.out.1.own ⟨V3.heap.size, 0, none⟩ 1 1 (elF.cells (cpA f p2 c2)) rfl rfl HP.out.2.2.1 (elF.one _) (by omega) (by omega) HP.out.2.2.2.size ?_)
      intro v5 w5 ho5 hg5 hn5
      have HO5 := hid (HP.out.1.push HP.out.2.1 ho5 hg5 hn5)
      have HB5 : Hid (Below w.heap.size w w5) := HP.out.2.2.2.grown hg5 HP.out.2.2.2.size (fun k hk => (HP.out.1.own.lt k hk).1)
      have HG5 : Hid (∀ q, q < i + 1 → (if q < i then g q else cpA f p2 c2).key = (A.item q).key) := by
        intro q hq
        by_cases hqi : q < i
        · rw [if_pos hqi]; exact HG.out q hqi
        · rw [if_neg hqi]
          obtain rfl : q = i := by omega
          rw [cpA_key, HFe.out]
      clear ho5 hg5 hn5 HP
      go_wp2
      go_roundw
      case rel => exact ⟨i + 1, _, by omega, by go_num, HO5.out, HG5.out, HB5.out⟩
      case measure => simp [intOf]; omega
    · have hlt' : ¬ (i : Int) < (A.n : Int) := by omega
      obtain rfl : i = A.n := by omega
      obtain ⟨p3, c3, hv3, hL3⟩ := HO.out.in_ (by omega)
      subst hv3
      have HL3 := hid hL3
      clear hL3
      go_wp2
      exact bodyPost_ret (v := .slice p3 A.n c3) (by simp [results, Tryd.results23, go_sem]) rfl ⟨⟨p3, A.n, c3, g⟩, rfl, HL3.out, rfl, HG.out, HBw.out⟩
end Go.Proofs.YtkfcilandmhomaaDoor

namespace Go.Proofs.YtkfcilandmhomaaDoor
open Go.RowKit
set_option maxRecDepth 8000
set_option maxHeartbeats 4000000 in
theorem same_yes (p q : Option Addr) (n c d : Nat) (f g : Nat → Int) (w : World) (S R : Nat → Prop) (hp : Byts w S p n c f) (hq : Byts w R q n d g) (he : ∀ j, j < n → g j = f j) :
    Calls Tryd.prog 19 #[.slice p n c, .slice q n d] w fun e w' => e = .returned (.bool true) ∧ Below w.heap.size w w' := by
  have HP := hid hp
  have HQ := hid hq
  have HE := hid he
  have hnn := hp.nn
  clear hp hq he
  go_enter Tryd.func19, Tryd.ntmps19
  go_wp2_with fail
  go_loopw [5] (fun x wr => ∃ i : Nat, i ≤ n ∧ x = .int .i64 (i : Int) ∧ Below w.heap.size w wr) (fun x _ => n - (intOf x).toNat)
  case atStart => exact ⟨0, Nat.zero_le _, rfl, Below.refl _ _⟩
  case round =>
    obtain ⟨i, hi, rfl, hbw⟩ := hrel
    have HBw := hid hbw
    clear hbw
    by_cases hlt : i < n
    · have hlt' : (i : Int) < (n : Int) := by omega
      obtain ⟨b1, o1, hp1, _, hb1, hat1⟩ := HP.out.at_ (by omega)
      obtain ⟨b2, o2, hp2, _, hb2, hat2⟩ := HQ.out.at_ (by omega)
      subst hp1 hp2
      have c0 : wr.cell? ⟨b1, o1 + i, none⟩ = some (.int .u8 (f i)) := (World.cell?_of_block (a := ⟨b1, o1 + i, none⟩) (HBw.out.block b1 hb1)).trans (hat1 i hlt)
      have c1 : wr.cell? ⟨b2, o2 + i, none⟩ = some (.int .u8 (f i)) := (World.cell?_of_block (a := ⟨b2, o2 + i, none⟩) (HBw.out.block b2 hb2)).trans ((hat2 i hlt).trans (by rw [HE.out i hlt]))
      clear hat1 hat2
      go_upto_region 6 with fail
      refine wp_region_calmE 30 (fun wx => Below wr.heap.size wr wx) [(0, true), (1, true), (2, true), (3, false), (4, true), (5, true), (6, true), (7, false), (8, true)] .done (by kernel_rfl) (by kernel_rfl) (Below.refl _ _).drew ?_
      refine wpPre_e rfl rfl (fun K1 hK1 => ?_)
      apply Exists.intro
      refine And.intro (fun wx hx => ?_) ?_
      · go_simp
        try rfl
      go_simp
      refine hK1 _ ?_
      clear hK1 K1
      refine wpPre_e rfl rfl (fun K1 hK1 => ?_)
      apply Exists.intro
      refine And.intro (fun wx hx => ?_) ?_
      · go_simp
        try rfl
      go_simp
      refine hK1 _ ?_
      clear hK1 K1
      refine wpPre_e rfl rfl (fun K1 hK1 => ?_)
      apply Exists.intro
      refine And.intro (fun wx hx => ?_) ?_
      · go_simp
        try rfl
      go_simp
      refine hK1 _ ?_
      clear hK1 K1
      refine wpPre_e rfl rfl (fun K1 hK1 => ?_)
      apply Exists.intro
      refine And.intro (fun wx hx => ?_) ?_
      · have e0 := below_fact hx rfl c0
        have e1 := below_fact hx rfl c1
        go_simp
        try rfl
      go_simp
      refine hK1 _ ?_
      clear hK1 K1
      refine wpPre_e rfl rfl (fun K1 hK1 => ?_)
      apply Exists.intro
      refine And.intro (fun wx hx => ?_) ?_
      · go_simp
        try rfl
      go_simp
      refine hK1 _ ?_
      clear hK1 K1
      refine wpPre_e rfl rfl (fun K1 hK1 => ?_)
      apply Exists.intro
      refine And.intro (fun wx hx => ?_) ?_
      · go_simp
        try rfl
      go_simp
      refine hK1 _ ?_
      clear hK1 K1
      refine wpPre_e rfl rfl (fun K1 hK1 => ?_)
      apply Exists.intro
      refine And.intro (fun wx hx => ?_) ?_
      · go_simp
        try rfl
      go_simp
      refine hK1 _ ?_
      clear hK1 K1
      refine wpPre_e rfl rfl (fun K1 hK1 => ?_)
      apply Exists.intro
      refine And.intro (fun wx hx => ?_) ?_
      · have e0 := below_fact hx rfl c0
        have e1 := below_fact hx rfl c1
        go_simp
        try rfl
      go_simp
      refine hK1 _ ?_
      clear hK1 K1
      refine wpPre_e rfl rfl (fun K1 hK1 => ?_)
      apply Exists.intro
      refine And.intro (fun wx hx => ?_) ?_
      · go_simp
        try rfl
      go_simp
      refine hK1 _ ?_
      clear hK1 K1
      refine wpPre_nil ?_
      refine wpTr_done ?_
      clear c0 c1
      go_wp2
      go_roundw
      case rel => exact ⟨i + 1, by omega, by go_num, HBw.out.drew⟩
      case measure => simp [intOf]; omega
    · have hlt' : ¬ (i : Int) < (n : Int) := by omega
      go_wp2
      exact bodyPost_ret (v := .bool true) (by simp [results, Tryd.results19, go_sem]) rfl ⟨rfl, HBw.out⟩
theorem FA.key_at {a b : FA} (h : a.key = b.key) : a.name = b.name ∧ a.n = b.n ∧ a.sy = b.sy ∧ ∀ j, j < b.n → a.f j = b.f j := by
  unfold FA.key at h
  simp only [Prod.mk.injEq] at h
  obtain ⟨h1, h2, h3⟩ := h
  have hl : a.n = b.n := by have := congrArg List.length h2; simpa [FA.zs] using this
  refine ⟨h1, hl, h3, fun j hj => ?_⟩
  have h4 := congrArg (fun l => l[j]?) h2
  simp only [FA.zs, List.getElem?_map] at h4
  rw [List.getElem?_range (by omega), List.getElem?_range (by omega)] at h4
  simpa using h4
set_option maxHeartbeats 8000000 in
theorem alike_yes (A B : LT FA) (w : World) (S R : Nat → Prop) (hA : LT.In elF w S A) (hB : LT.In elF w R B) (hn : B.n = A.n) (hk : ∀ j, j < A.n → (B.item j).key = (A.item j).key) :
    Calls Tryd.prog 17 #[.slice A.p A.n A.c, .slice B.p B.n B.c] w fun e w' => e = .returned (.bool true) ∧ Below w.heap.size w w' := by
  have HA := hid hA
  have HB := hid hB
  have HK := hid hk
  have hnn := hA.nn
  rw [hn]
  have HN := hid hn
  clear hA hB hk hn
  go_enter Tryd.func17, Tryd.ntmps17
  go_wp2_with fail
  go_loopw [5] (fun x wr => ∃ i : Nat, i ≤ A.n ∧ x = .int .i64 (i : Int) ∧ Below w.heap.size w wr) (fun x _ => A.n - (intOf x).toNat)
  case atStart => exact ⟨0, Nat.zero_le _, rfl, Below.refl _ _⟩
  case round =>
    obtain ⟨i, hi, rfl, hbw⟩ := hrel
    have HBw := hid hbw
    clear hbw
    by_cases hlt : i < A.n
    · have hlt' : (i : Int) < (A.n : Int) := by omega
      obtain ⟨k1, k2, k3, k4⟩ := FA.key_at (HK.out i hlt)
      obtain ⟨b1, o1, hp1, _, hb1, hat1⟩ := HA.out.at_ (by omega)
      obtain ⟨b2, o2, hp2, _, hb2, hat2⟩ := HB.out.at_ (by have := HN.out; omega)
      rw [hp1, hp2]
      have hlb : i < B.n := by have := HN.out; omega
      have hc1 : ∀ q u, (elF.cells (A.item i))[q]? = some u → wr.cell? ⟨b1, o1 + i * 3 + q, none⟩ = some u := fun q u hu => (World.cell?_of_block (a := ⟨b1, o1 + i * 3 + q, none⟩) (HBw.out.block b1 hb1)).trans (hat1 i hlt q u hu)
      have hc2 : ∀ q u, (elF.cells (B.item i))[q]? = some u → wr.cell? ⟨b2, o2 + i * 3 + q, none⟩ = some u := fun q u hu => (World.cell?_of_block (a := ⟨b2, o2 + i * 3 + q, none⟩) (HBw.out.block b2 hb2)).trans (hat2 i hlb q u hu)
      have a0 : wr.cell? ⟨b1, o1 + i * 3, none⟩ = some (.string (A.item i).name) := hc1 0 _ rfl
      have a1 : wr.cell? ⟨b1, o1 + i * 3 + 1, none⟩ = some (.slice (A.item i).p (A.item i).n (A.item i).c) := hc1 1 _ rfl
      have a2 : wr.cell? ⟨b1, o1 + i * 3 + 2, none⟩ = some (.int .i64 (A.item i).sy) := hc1 2 _ rfl
      have b0 : wr.cell? ⟨b2, o2 + i * 3, none⟩ = some (.string (A.item i).name) := by rw [← k1]; exact hc2 0 _ rfl
      have b1' : wr.cell? ⟨b2, o2 + i * 3 + 1, none⟩ = some (.slice (B.item i).p (A.item i).n (B.item i).c) := by rw [← k2]; exact hc2 1 _ rfl
      have b2' : wr.cell? ⟨b2, o2 + i * 3 + 2, none⟩ = some (.int .i64 (A.item i).sy) := by rw [← k3]; exact hc2 2 _ rfl
      have HSm : Hid (∀ W, Below wr.heap.size wr W → Calls Tryd.prog 19 #[.slice (A.item i).p (A.item i).n (A.item i).c, .slice (B.item i).p (A.item i).n (B.item i).c] W fun e w' => e = .returned (.bool true) ∧ Below W.heap.size W w') := by
        intro W hW
        have hb : Below w.heap.size w W := HBw.out.trans (hW.mono HBw.out.size)
        have h1 := (HA.out.each i hlt).2.1.kept hb.size fun b _ hl => hb.block b hl
        have h2 := (HB.out.each i hlb).2.1.kept hb.size fun b _ hl => hb.block b hl
        rw [k2] at h2
        exact same_yes _ _ _ _ _ _ _ W S R h1 h2 k4
      clear hc1 hc2 hat1 hat2 k1 k2 k3 k4
      go_upto_region 6 with fail
      refine wp_region_calmE 30 (fun wx => Below wr.heap.size wr wx) [(0, true), (1, true), (2, true), (3, true), (4, false), (5, true), (6, true), (7, true), (8, true), (9, false), (10, true), (11, true), (12, true), (13, true), (14, true), (15, true), (16, false), (17, true), (18, true), (19, true), (20, true), (21, false), (22, true), (23, true), (24, true), (25, true), (26, true), (27, true), (28, true), (29, false), (30, true), (31, true), (32, true), (33, true), (34, false)] (.one 35 false [(36, true), (37, true)] .done) (by kernel_rfl) (by kernel_rfl) (Below.refl _ _).drew ?_
      refine wpPre_e rfl rfl (fun K1 hK1 => ?_)
      apply Exists.intro
      refine And.intro (fun wx hx => ?_) ?_
      · go_simp
        try rfl
      go_simp
      refine hK1 _ ?_
      clear hK1 K1
      refine wpPre_e rfl rfl (fun K1 hK1 => ?_)
      apply Exists.intro
      refine And.intro (fun wx hx => ?_) ?_
      · go_simp
        try rfl
      go_simp
      refine hK1 _ ?_
      clear hK1 K1
      refine wpPre_e rfl rfl (fun K1 hK1 => ?_)
      apply Exists.intro
      refine And.intro (fun wx hx => ?_) ?_
      · go_simp
        try rfl
      go_simp
      refine hK1 _ ?_
      clear hK1 K1
      refine wpPre_e rfl rfl (fun K1 hK1 => ?_)
      apply Exists.intro
      refine And.intro (fun wx hx => ?_) ?_
      · go_simp
        try rfl
      go_simp
      refine hK1 _ ?_
      clear hK1 K1
      refine wpPre_e rfl rfl (fun K1 hK1 => ?_)
      apply Exists.intro
      refine And.intro (fun wx hx => ?_) ?_
      · have e0 := below_fact hx rfl a0
        have e1 := below_fact hx rfl a1
        have e2 := below_fact hx rfl a2
        have e3 := below_fact hx rfl b0
        have e4 := below_fact hx rfl  b1'
        have e5 := below_fact hx rfl  b2'
        go_simp
        try rfl
      go_simp
      refine hK1 _ ?_
      clear hK1 K1
      refine wpPre_e rfl rfl (fun K1 hK1 => ?_)
      apply Exists.intro
      refine And.intro (fun wx hx => ?_) ?_
      · go_simp
        try rfl
      go_simp
      refine hK1 _ ?_
      clear hK1 K1
      refine wpPre_e rfl rfl (fun K1 hK1 => ?_)
      apply Exists.intro
      refine And.intro (fun wx hx => ?_) ?_
      · go_simp
        try rfl
      go_simp
      refine hK1 _ ?_
      clear hK1 K1
      refine wpPre_e rfl rfl (fun K1 hK1 => ?_)
      apply Exists.intro
      refine And.intro (fun wx hx => ?_) ?_
      · go_simp
        try rfl
      go_simp
      refine hK1 _ ?_
      clear hK1 K1
      refine wpPre_e rfl rfl (fun K1 hK1 => ?_)
      apply Exists.intro
      refine And.intro (fun wx hx => ?_) ?_
      · go_simp
        try rfl
      go_simp
      refine hK1 _ ?_
      clear hK1 K1
      refine wpPre_e rfl rfl (fun K1 hK1 => ?_)
      apply Exists.intro
      refine And.intro (fun wx hx => ?_) ?_
      · have e0 := below_fact hx rfl a0
        have e1 := below_fact hx rfl a1
        have e2 := below_fact hx rfl a2
        have e3 := below_fact hx rfl b0
        have e4 := below_fact hx rfl  b1'
        have e5 := below_fact hx rfl  b2'
        go_simp
        try rfl
      go_simp
      refine hK1 _ ?_
      clear hK1 K1
      refine wpPre_e rfl rfl (fun K1 hK1 => ?_)
      apply Exists.intro
      refine And.intro (fun wx hx => ?_) ?_
      · go_simp
        try rfl
      go_simp
      refine hK1 _ ?_
      clear hK1 K1
      refine wpPre_e rfl rfl (fun K1 hK1 => ?_)
      apply Exists.intro
      refine And.intro (fun wx hx => ?_) ?_
      · go_simp
        try rfl
      go_simp
      refine hK1 _ ?_
      clear hK1 K1
      refine wpPre_i rfl (fun K1 hK1 => ?_)
      rw [if_pos (by go_simp)]
      apply Exists.intro
      refine And.intro (fun wx hx => ?_) ?_
      · go_simp
        try rfl
      go_simp
      refine hK1 _ ?_
      clear hK1 K1
      refine wpPre_i rfl (fun K1 hK1 => ?_)
      rw [if_pos (by go_simp)]
      apply Exists.intro
      refine And.intro (fun wx hx => ?_) ?_
      · go_simp
        try rfl
      go_simp
      refine hK1 _ ?_
      clear hK1 K1
      refine wpPre_i rfl (fun K1 hK1 => ?_)
      rw [if_pos (by go_simp)]
      apply Exists.intro
      refine And.intro (fun wx hx => ?_) ?_
      · go_simp
        try rfl
      go_simp
      refine hK1 _ ?_
      clear hK1 K1
      refine wpPre_i rfl (fun K1 hK1 => ?_)
      rw [if_pos (by go_simp)]
      apply Exists.intro
      refine And.intro (fun wx hx => ?_) ?_
      · go_simp
        try rfl
      go_simp
      refine hK1 _ ?_
      clear hK1 K1
      refine wpPre_i rfl (fun K1 hK1 => ?_)
      rw [if_pos (by go_simp)]
      apply Exists.intro
      refine And.intro (fun wx hx => ?_) ?_
      · have e0 := below_fact hx rfl a0
        have e1 := below_fact hx rfl a1
        have e2 := below_fact hx rfl a2
        have e3 := below_fact hx rfl b0
        have e4 := below_fact hx rfl  b1'
        have e5 := below_fact hx rfl  b2'
        go_simp
        try rfl
      go_simp
      refine hK1 _ ?_
      clear hK1 K1
      refine wpPre_i rfl (fun K1 hK1 => ?_)
      rw [if_pos (by go_simp)]
      apply Exists.intro
      refine And.intro (fun wx hx => ?_) ?_
      · go_simp
        try rfl
      go_simp
      refine hK1 _ ?_
      clear hK1 K1
      refine wpPre_i rfl (fun K1 hK1 => ?_)
      rw [if_pos (by go_simp)]
      apply Exists.intro
      refine And.intro (fun wx hx => ?_) ?_
      · go_simp
        try rfl
      go_simp
      refine hK1 _ ?_
      clear hK1 K1
      refine wpPre_i rfl (fun K1 hK1 => ?_)
      rw [if_pos (by go_simp)]
      apply Exists.intro
      refine And.intro (fun wx hx => ?_) ?_
      · go_simp
        try rfl
      go_simp
      refine hK1 _ ?_
      clear hK1 K1
      refine wpPre_i rfl (fun K1 hK1 => ?_)
      rw [if_pos (by go_simp)]
      apply Exists.intro
      refine And.intro (fun wx hx => ?_) ?_
      · go_simp
        try rfl
      go_simp
      refine hK1 _ ?_
      clear hK1 K1
      refine wpPre_i rfl (fun K1 hK1 => ?_)
      rw [if_pos (by go_simp)]
      apply Exists.intro
      refine And.intro (fun wx hx => ?_) ?_
      · have e0 := below_fact hx rfl a0
        have e1 := below_fact hx rfl a1
        have e2 := below_fact hx rfl a2
        have e3 := below_fact hx rfl b0
        have e4 := below_fact hx rfl  b1'
        have e5 := below_fact hx rfl  b2'
        go_simp
        try rfl
      go_simp
      refine hK1 _ ?_
      clear hK1 K1
      refine wpPre_i rfl (fun K1 hK1 => ?_)
      rw [if_pos (by go_simp)]
      apply Exists.intro
      refine And.intro (fun wx hx => ?_) ?_
      · go_simp
        try rfl
      go_simp
      refine hK1 _ ?_
      clear hK1 K1
      refine wpPre_e rfl rfl (fun K1 hK1 => ?_)
      apply Exists.intro
      refine And.intro (fun wx hx => ?_) ?_
      · go_simp
        try rfl
      go_simp
      refine hK1 _ ?_
      clear hK1 K1
      refine wpPre_e rfl rfl (fun K1 hK1 => ?_)
      apply Exists.intro
      refine And.intro (fun wx hx => ?_) ?_
      · go_simp
        try rfl
      go_simp
      refine hK1 _ ?_
      clear hK1 K1
      refine wpPre_i rfl (fun K1 hK1 => ?_)
      rw [if_pos (by go_simp)]
      apply Exists.intro
      refine And.intro (fun wx hx => ?_) ?_
      · go_simp
        try rfl
      go_simp
      refine hK1 _ ?_
      clear hK1 K1
      refine wpPre_i rfl (fun K1 hK1 => ?_)
      rw [if_pos (by go_simp)]
      apply Exists.intro
      refine And.intro (fun wx hx => ?_) ?_
      · go_simp
        try rfl
      go_simp
      refine hK1 _ ?_
      clear hK1 K1
      refine wpPre_i rfl (fun K1 hK1 => ?_)
      rw [if_pos (by go_simp)]
      apply Exists.intro
      refine And.intro (fun wx hx => ?_) ?_
      · go_simp
        try rfl
      go_simp
      refine hK1 _ ?_
      clear hK1 K1
      refine wpPre_i rfl (fun K1 hK1 => ?_)
      rw [if_pos (by go_simp)]
      apply Exists.intro
      refine And.intro (fun wx hx => ?_) ?_
      · go_simp
        try rfl
      go_simp
      refine hK1 _ ?_
      clear hK1 K1
      refine wpPre_i rfl (fun K1 hK1 => ?_)
      rw [if_pos (by go_simp)]
      apply Exists.intro
      refine And.intro (fun wx hx => ?_) ?_
      · have e0 := below_fact hx rfl a0
        have e1 := below_fact hx rfl a1
        have e2 := below_fact hx rfl a2
        have e3 := below_fact hx rfl b0
        have e4 := below_fact hx rfl  b1'
        have e5 := below_fact hx rfl  b2'
        go_simp
        try rfl
      go_simp
      refine hK1 _ ?_
      clear hK1 K1
      refine wpPre_i rfl (fun K1 hK1 => ?_)
      rw [if_pos (by go_simp)]
      apply Exists.intro
      refine And.intro (fun wx hx => ?_) ?_
      · go_simp
        try rfl
      go_simp
      refine hK1 _ ?_
      clear hK1 K1
      refine wpPre_i rfl (fun K1 hK1 => ?_)
      rw [if_pos (by go_simp)]
      apply Exists.intro
      refine And.intro (fun wx hx => ?_) ?_
      · go_simp
        try rfl
      go_simp
      refine hK1 _ ?_
      clear hK1 K1
      refine wpPre_i rfl (fun K1 hK1 => ?_)
      rw [if_pos (by go_simp)]
      apply Exists.intro
      refine And.intro (fun wx hx => ?_) ?_
      · go_simp
        try rfl
      go_simp
      refine hK1 _ ?_
      clear hK1 K1
      refine wpPre_i rfl (fun K1 hK1 => ?_)
      rw [if_pos (by go_simp)]
      apply Exists.intro
      refine And.intro (fun wx hx => ?_) ?_
      · go_simp
        try rfl
      go_simp
      refine hK1 _ ?_
      clear hK1 K1
      refine wpPre_i rfl (fun K1 hK1 => ?_)
      rw [if_pos (by go_simp)]
      apply Exists.intro
      refine And.intro (fun wx hx => ?_) ?_
      · have e0 := below_fact hx rfl a0
        have e1 := below_fact hx rfl a1
        have e2 := below_fact hx rfl a2
        have e3 := below_fact hx rfl b0
        have e4 := below_fact hx rfl  b1'
        have e5 := below_fact hx rfl  b2'
        go_simp
        try rfl
      go_simp
      refine hK1 _ ?_
      clear hK1 K1
      refine wpPre_nil ?_
      refine wpTr_e rfl (fun K1 hK1 => ?_)
      refine step_callG (by first | rfl | go_simp) 19 #[.tmp 46, .tmp 51] _ rfl Tryd.f19 Tryd.func19 (by kernel_rfl) rfl #[.slice (A.item i).p (A.item i).n (A.item i).c, .slice (B.item i).p (A.item i).n (B.item i).c] rfl _ (HSm.out _ (Below.refl _ _).drew) ?_
      rintro e_ w4 ⟨rfl, hb4⟩
      refine ⟨_, rfl, ?_⟩
      have HB4 : Hid (Below wr.heap.size wr w4) := (Below.refl _ _).drew.trans hb4
      clear hb4
      go_simp
      refine hK1 _ _ (fun h => by cases h) ?_
      clear hK1 K1
      refine wpPre_i rfl (fun K1 hK1 => ?_)
      rw [if_pos (by go_simp)]
      apply Exists.intro
      refine And.intro (fun wx hx => ?_) ?_
      · go_simp
        try rfl
      go_simp
      refine hK1 _ ?_
      clear hK1 K1
      refine wpPre_e rfl rfl (fun K1 hK1 => ?_)
      apply Exists.intro
      refine And.intro (fun wx hx => ?_) ?_
      · go_simp
        try rfl
      go_simp
      refine hK1 _ ?_
      clear hK1 K1
      refine wpPre_nil ?_
      refine wpTr_done ?_
      clear a0 a1 a2 b0 b1' b2'
      go_wp2
      go_roundw
      case rel => exact ⟨i + 1, by omega, by go_num, HBw.out.trans (HB4.out.mono HBw.out.size)⟩
      case measure => simp [intOf]; omega
    · have hlt' : ¬ (i : Int) < (A.n : Int) := by omega
      go_wp2
      exact bodyPost_ret (v := .bool true) (by simp [results, Tryd.results17, go_sem]) rfl ⟨rfl, HBw.out⟩
end Go.Proofs.YtkfcilandmhomaaDoor
