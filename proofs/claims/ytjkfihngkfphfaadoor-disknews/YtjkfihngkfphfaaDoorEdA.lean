import Derived.Test.YtjkfihngkfphfaaDoorEcF
namespace Go.Proofs.YtjkfihngkfphfaaDoor
open Go.RowKit
set_option maxRecDepth 8000
set_option maxHeartbeats 1000000 in
/-- the law's copyBytes -/
theorem cpB_any (p : Option Addr) (c : Nat) (zs : List Int) (w : World) (hs : Src w p zs.length c 1 (zs.map (.int .u8))) (hle : zs.length ≤ 100000000) :
    Calls Tryd.prog 23 #[.slice p zs.length c] w fun e w' => ∃ (p' : Option Addr) (c' : Nat), e = .returned (.slice p' zs.length c') ∧ OwnBy w.heap.size w' (.slice p' zs.length c') zs ∧ Below w.heap.size w w' := by
  obtain ⟨i0, Kd⟩ := kindB
  have hown : w.ownsRow w.heap.size 5 1 (.slice none 0 0) 0 [] := World.ownsRow_nil _ _ _ _
  go_enter Tryd.func23, Tryd.ntmps23
  go_wp2_with (at_builtin; refine wpList_appS rfl (.tmp 4) (.tmp 5) 33 5 i0 _ 1 1 Kd rfl w.heap.size _ 0 [] rfl hown p zs.length c _ rfl hs (one_u8 zs) (by omega) (by omega) (Nat.le_refl _) ?_)
  intro v' w' ho hg hn
  have HO : Hid (OwnBy w.heap.size w' v' zs) := by
    show w'.ownsRow _ _ _ _ _ _
    simpa using ho
  obtain ⟨p', c', hv⟩ := ownsRow_slice HO.out
  subst hv
  have HB : Hid (Below w.heap.size w w') := (Below.refl _ _).grown hg (Nat.le_refl _) (fun k hk => (hown.lt k hk).1)
  clear ho hg hn hs hown
  go_wp2
  exact bodyPost_ret (v := .slice p' zs.length c') (by simp [results, Tryd.results23, go_sem]) rfl ⟨p', c', rfl, HO.out, HB.out⟩
/-- the file as it is copied -/
def cpA (a : FA) (p : Option Addr) (c : Nat) : FA := ⟨a.name, p, a.zs.length, c, fun j => a.zs.getD j 0, a.sy⟩
theorem cpA_key (a : FA) (p : Option Addr) (c : Nat) : (cpA a p c).key = a.key := by
  have h : (cpA a p c).zs = a.zs := by
    show (List.range a.zs.length).map (fun j => a.zs.getD j 0) = a.zs
    apply List.ext_getElem?
    intro j
    by_cases h : j < a.zs.length
    · simp [List.getElem?_range h, List.getD_eq_getElem?_getD, List.getElem?_eq_getElem h]
    · rw [List.getElem?_eq_none (by simp; omega), List.getElem?_eq_none (by omega)]
  unfold FA.key
  rw [h]
  rfl
def CpQ (A : LT FA) (w : World) (e : Ending) (w' : World) : Prop :=
  ∃ u : LT FA, e = .returned (.slice u.p u.n u.c) ∧ LT.In elF w' (fun k => w.heap.size ≤ k) u ∧ u.n = A.n ∧ (∀ j, j < A.n → (u.item j).key = (A.item j).key) ∧ Below w.heap.size w w'
set_option maxHeartbeats 8000000 in
theorem cpF_any (A : LT FA) (w : World) (S : Nat → Prop) (hA : LT.In elF w S A) (hn : A.n ≤ 100000) (hz : ∀ j, j < A.n → (A.item j).n ≤ 100000000) :
    Calls Tryd.prog 11 #[.slice A.p A.n A.c] w fun e w' => CpQ A w e w' := by
  obtain ⟨i0, Kd⟩ := kindFl
  have HKd := hid Kd
  have HA := hid hA
  have HZ := hid hz
  clear hA Kd hz
  go_enter Tryd.func11, Tryd.ntmps11
  go_wp2_with fail
  go_loopw [3, 4] (fun v x wr => ∃ (i : Nat) (g : Nat → FA), i ≤ A.n ∧ x = .int .i64 (i : Int) ∧ OwnL elF w.heap.size wr v i g ∧ (∀ q, q < i → (g q).key = (A.item q).key) ∧ Below w.heap.size w wr) (fun _ x _ => A.n - (intOf x).toNat)
  case atStart => exact ⟨0, fun _ => ⟨⟨#[]⟩, none, 0, 0, fun _ => 0, 0⟩, Nat.zero_le _, rfl, ⟨World.ownsRow_nil _ _ _ _, fun j hj => absurd hj (by omega)⟩, fun q hq => absurd hq (by omega), Below.refl _ _⟩
  case round =>
    obtain ⟨i, g, hi, rfl, hO, hg, hbw⟩ := hrel
    have HO := hid hO
    have HG := hid hg
    have HBw := hid hbw
    clear hO hg hbw
    by_cases hlt : i < A.n
    · have hlt' : (i : Int) < (A.n : Int) := by omega
      obtain ⟨bb, o, hp, _, hbb, hat⟩ := HA.out.at_ (by omega)
      rw [hp]
      obtain ⟨f, hf⟩ : ∃ f, f = A.item i := ⟨_, rfl⟩
      have hce : ∀ q u, (elF.cells f)[q]? = some u → wr.cell? ⟨bb, o + i * 3 + q, none⟩ = some u := fun q u hu => (World.cell?_of_block (a := ⟨bb, o + i * 3 + q, none⟩) (HBw.out.block bb hbb)).trans (hat i hlt q u (by rw [← hf]; exact hu))
      have a0 : wr.cell? ⟨bb, o + i * 3, none⟩ = some (.string f.name) := hce 0 _ rfl
      have a1 : wr.cell? ⟨bb, o + i * 3 + 1, none⟩ = some (.slice f.p f.n f.c) := hce 1 _ rfl
      have a2 : wr.cell? ⟨bb, o + i * 3 + 2, none⟩ = some (.int .i64 f.sy) := hce 2 _ rfl
      have HFi : Hid (elF.In w S f) := by show elF.In w S f; rw [hf]; exact HA.out.each i hlt
      have HFz : Hid (f.zs.length ≤ 100000000) := by show f.zs.length ≤ _; rw [FA.zs_len, hf]; exact HZ.out i hlt
      have HFe := hid hf
      clear hce hat hf
      have HFn : Hid (f.zs.length = f.n) := FA.zs_len f
      obtain ⟨V1, hV1⟩ : ∃ V, V = wr.alloc (.cells #[.string f.name, .slice f.p f.n f.c, .int .i64 f.sy] 35) := ⟨_, rfl⟩
      have HB1 : Hid (Below wr.heap.size wr V1) := by show Below _ _ _; rw [hV1]; exact (Below.refl _ _).alloc (Nat.le_refl _) _
      have HX1 : Hid (Box V1 wr.heap.size #[.string f.name, .slice f.p f.n f.c, .int .i64 f.sy] 35) := by show Box _ _ _ _; rw [hV1]; exact Box.new _ _ _
      have HV1 := hid hV1
      have HBv : Hid (Below w.heap.size w V1) := HBw.out.trans (HB1.out.mono HBw.out.size)
      clear hV1
      go_upto_region 6 with fail
      rw [← HV1.out]
      clear a0 a1 a2
      have f0 := HX1.out.cell 0
      have f1 := HX1.out.cell 1
      have f2 := HX1.out.cell 2
      have fl := HX1.out.lt
      simp at f0 f1 f2
      have HFr : Hid (Calls Tryd.prog 23 #[.slice f.p f.n f.c] V1 fun e w' => ∃ (p' : Option Addr) (c' : Nat), e = .returned (.slice p' f.zs.length c') ∧ OwnBy V1.heap.size w' (.slice p' f.zs.length c') f.zs ∧ Below V1.heap.size V1 w') := by
        have hsrc : Src V1 f.p f.zs.length f.c 1 (f.zs.map (.int .u8)) := by
          rw [HFn.out]
          have h := (HFi.out.2.1.kept HBv.out.size fun b _ hl => HBv.out.block b hl).src
          simpa [FA.zs, List.map_map, Function.comp_def] using h
        have h := cpB_any f.p f.c f.zs V1 hsrc HFz.out
        rw [HFn.out] at h ⊢
        exact h
      go_wp2_with fail
      refine HFr.out.mono ?_
      rintro e w2 ⟨p2, c2, rfl, hr2, hb2⟩
      have HR2 := hid hr2
      have HX2 := hid (HX1.out.below hb2)
      have HBV2 := hid hb2
      clear f0 f1 f2 fl hr2 hb2
      obtain ⟨V3, hV3⟩ : ∃ V, V = w2.setCell ⟨wr.heap.size, 1, none⟩ (.slice p2 f.zs.length c2) := ⟨_, rfl⟩
      have HX3 : Hid (Box V3 wr.heap.size #[.string f.name, .slice p2 f.zs.length c2, .int .i64 f.sy] 35) := by
        show Box _ _ _ _
        rw [hV3]
        have h := HX2.out.set 1 (.slice p2 f.zs.length c2)
        simpa using h
      have hbt : But (fun k => k = wr.heap.size) w2 V3 := by rw [hV3]; exact (But.one _ _).setAt 1 _
      have HBt := hid hbt
      have HV3 := hid hV3
      have HB3 : Hid (Below wr.heap.size wr V3) := HB1.out.trans ((HBV2.out.mono HB1.out.size).trans (HBt.out.below (Nat.le_trans HB1.out.size HBV2.out.size) fun k hk e => by have e' : k = wr.heap.size := e; omega))
      have f1 := HX2.out.cell 1
      have fz := HX2.out.frozen 1
      have fl := HX2.out.lt
      simp at f1
      clear hbt hV3
      go_upto_region 7 with fail
      rw [← HV3.out]
      clear f1 fz fl
      have f0 := HX3.out.cell 0
      have f1 := HX3.out.cell 1
      have f2 := HX3.out.cell 2
      have fl := HX3.out.lt
      simp at f0 f1 f2
      have hal : Below V3.heap.size V3 (V3.alloc (.cells #[.string f.name, .slice p2 f.zs.length c2, .int .i64 f.sy] 35)) := (Below.refl _ _).alloc (Nat.le_refl _) _
      have hO2 := (HO.out.keep HB3.out.size (fun k _ hl => HB3.out.block k hl)).keep hal.size (fun k _ hl => hal.block k hl)
      have hu2 : elF.In (V3.alloc (.cells #[.string f.name, .slice p2 f.zs.length c2, .int .i64 f.sy] 35)) (fun b => w.heap.size ≤ b ∧ u3.ownBlock ≠ some b) (cpA f p2 c2) := by
        have h1 := HBv.out.size
        have h2 := HB1.out.size
        have hz := HFz.out
        refine ⟨HFi.out.1, ?_, HFi.out.2.2⟩
        have hge : ∀ g, (Value.slice p2 f.zs.length c2).ownBlock = some g → V1.heap.size ≤ g ∧ g < w2.heap.size := fun g hg => HR2.out.lt g hg
        have hr3 : OwnBy V1.heap.size V3 (.slice p2 f.zs.length c2) f.zs := ownsRow_keep HR2.out fun g hg hl => HBt.out.block g hl (by have := (hge g hg).1; have h3 := HX1.out.lt; show ¬ g = wr.heap.size; omega)
        have hr4 : OwnBy V1.heap.size (V3.alloc (.cells #[.string f.name, .slice p2 f.zs.length c2, .int .i64 f.sy] 35)) (.slice p2 f.zs.length c2) f.zs := ownsRow_keep hr3 fun g _ hl => hal.block g hl
        refine own_byts hr4 (fun g hg => ?_) (fun z hz => ?_) (by omega)
        · have hge := (hr4.lt g hg).1
          refine ⟨by omega, fun e => ?_⟩
          have := (HO.out.own.lt g e).2
          omega
        · obtain ⟨j, hj, rfl⟩ := List.mem_map.1 hz
          have := HFi.out.2.1.fit j (List.mem_range.1 hj)
          omega
      have hnw : ∀ j u', (elF.cells (cpA f p2 c2))[j]? = some u' → (V3.alloc (.cells #[.string f.name, .slice p2 f.zs.length c2, .int .i64 f.sy] 35)).cell? ((⟨V3.heap.size, 0, none⟩ : Addr).add j) = some u' := fun j u' hu => by
        rw [Go.WideShapes.add_plain, (Box.new V3 #[.string f.name, .slice p2 f.zs.length c2, .int .i64 f.sy] 35).cell]
        rw [show 0 + j = j by omega]
        simpa [elF, cpA] using hu
      have hbA : Below w.heap.size w (V3.alloc (.cells #[.string f.name, .slice p2 f.zs.length c2, .int .i64 f.sy] 35)) := (HBw.out.trans (HB3.out.mono HBw.out.size)).trans (hal.mono (Nat.le_trans HBw.out.size HB3.out.size))
      have HP := hid (And.intro hO2 (And.intro hu2 (And.intro hnw hbA)))
      clear hal hO2 hu2 hnw hbA
      go_wp2_with (at_builtin; refine wpList_app rfl (.tmp 20) (.tmp 22) 22 35 i0 _ 3 48 HKd.out rfl w.heap.size u3 i _ rfl HP.out.1.own ⟨V3.heap.size, 0, none⟩ 1 1 (elF.cells (cpA f p2 c2)) rfl rfl HP.out.2.2.1 (elF.one _) (by omega) (by omega) HP.out.2.2.2.size ?_)
      intro v5 w5 ho5 hg5 hn5
      have HO5 := hid (HP.out.1.push HP.out.2.1 ho5 hg5 hn5)
      have HB5 : Hid (Below w.heap.size w w5) := HP.out.2.2.2.grown hg5 HP.out.2.2.2.size (fun k hk => (HP.out.1.own.lt k hk).1)
      have HG5 : Hid (∀ q, q < i + 1 → (if q < i then g q else cpA f p2 c2).key = (A.item q).key) := by
        intro q hq
        by_cases hqi : q < i
        · rw [if_pos hqi]; exact HG.out q hqi
        · rw [if_neg hqi]
          obtain rfl : q = i := by omega
          rw [cpA_key, HFe.out]
      clear ho5 hg5 hn5 HP
      go_wp2
      go_roundw
      case rel => exact ⟨i + 1, _, by omega, by go_num, HO5.out, HG5.out, HB5.out⟩
      case measure => simp [intOf]; omega
    · have hlt' : ¬ (i : Int) < (A.n : Int) := by omega
      obtain rfl : i = A.n := by omega
      obtain ⟨p3, c3, hv3, hL3⟩ := HO.out.in_ (by omega)
      subst hv3
      have HL3 := hid hL3
      clear hL3
      go_wp2
      exact bodyPost_ret (v := .slice p3 A.n c3) (by simp [results, Tryd.results11, go_sem]) rfl ⟨⟨p3, A.n, c3, g⟩, rfl, HL3.out, rfl, HG.out, HBw.out⟩
end Go.Proofs.YtjkfihngkfphfaaDoor
