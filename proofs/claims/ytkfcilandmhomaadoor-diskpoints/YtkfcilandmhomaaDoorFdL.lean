import Derived.Test.YtkfcilandmhomaaDoorFdI
namespace Go.Proofs.YtkfcilandmhomaaDoor
open Go.RowKit
set_option maxRecDepth 8000
/-- how many bytes of a file survive -/
def svL (f : FA) (u : Int) : Nat := f.sy.toNat + (min (max u 0) ((f.n : Int) - f.sy)).toNat
theorem surv_at {f g : FA} {u : Int} (h0 : 0 ≤ f.sy ∧ f.sy ≤ (f.n : Int)) (h : g.key = rsK f.key u) : ((svL f u : Nat) : Int) = f.sy + min (max u 0) ((f.n : Int) - f.sy) ∧ svL f u ≤ f.n ∧ g.name = f.name ∧ g.n = svL f u ∧ g.sy = (svL f u : Int) ∧ ∀ j, j < svL f u → f.f j = g.f j := by
  have hN : ((svL f u : Nat) : Int) = f.sy + min (max u 0) ((f.n : Int) - f.sy) := by unfold svL; omega
  have hle : svL f u ≤ f.n := by omega
  have hz : f.zs.length = f.n := FA.zs_len f
  have e : rsK f.key u = (f.name, f.zs.take (svL f u), ((f.zs.take (svL f u)).length : Int)) := by
    unfold rsK svL
    simp only [FA.key]
    rw [hz]
  rw [e] at h
  unfold FA.key at h
  simp only [Prod.mk.injEq] at h
  obtain ⟨h1, h2, h3⟩ := h
  have hl : (f.zs.take (svL f u)).length = svL f u := by rw [List.length_take, hz]; omega
  have hgn : g.n = svL f u := by rw [← FA.zs_len g, h2, hl]
  refine ⟨hN, hle, h1, hgn, by rw [h3, hl], fun j hj => ?_⟩
  have h4 := congrArg (fun l => l[j]?) h2
  simp only [FA.zs, List.getElem?_map] at h4
  rw [List.getElem?_range (by omega), List.getElem?_take_of_lt hj, List.getElem?_map, List.getElem?_range (by omega)] at h4
  simpa using h4.symm
theorem byts_cut {w : World} {S : Nat → Prop} {p : Option Addr} {n c : Nat} {f : Nat → Int} (h : Byts w S p n c f) (m : Nat) (hm : m ≤ n) : Byts w S p m c f :=
  ⟨fun h0 => by obtain ⟨b, o, e, hS, hl, ha⟩ := h.at_ (by omega); exact ⟨b, o, e, hS, hl, fun j hj => ha j (by omega)⟩, Nat.le_trans hm h.nc, Nat.le_trans hm h.nn, h.cc, fun j hj => h.fit j (by omega), fun e => ⟨by have := (h.nil e).1; omega, (h.nil e).2⟩⟩
theorem bw_call {W : World} {fn : Nat} {args : Array Value} {v : Value} (h : ∀ V, Below W.heap.size W V → Calls Tryd.prog fn args V fun e w' => e = .returned v ∧ Below V.heap.size V w') : ∀ u : BW W, Calls Tryd.prog fn args u.val fun e w' => e = .returned v ∧ ∃ u' : BW W, w' = u'.val :=
  fun u => (h u.val u.prop).mono fun _ _ hq => ⟨hq.1, u.ret hq.2⟩
set_option maxHeartbeats 8000000 in
/-- survives: what lies behind a restart is what survives of what lay ahead of it -/
theorem survives_any (U G : LT FA) (K : LT Int) (w : World) (S R Q : Nat → Prop) (hU : LT.In elF w S U) (hG : LT.In elF w R G) (hK : LT.In elInt w Q K) (hn : G.n = U.n) (h0 : ∀ j, j < U.n → 0 ≤ (U.item j).sy ∧ (U.item j).sy ≤ ((U.item j).n : Int)) (hk : ∀ j, j < U.n → (G.item j).key = rsK (U.item j).key (kpU K j)) :
    Calls Tryd.prog 14 #[.slice U.p U.n U.c, .slice G.p G.n G.c, .slice K.p K.n K.c] w fun e w' => e = .returned (.bool true) ∧ Below w.heap.size w w' := by
  have HU := hid hU
  have HG := hid hG
  have HK := hid hK
  have H0 := hid h0
  have HKy := hid hk
  have hnn := hU.nn
  have hkn := hK.nn
  rw [hn]
  have HN := hid hn
  clear hU hG hK h0 hk hn
  go_enter Tryd.func14, Tryd.ntmps14
  go_wp2_with fail
  go_loopw [7] (fun x wr => ∃ i : Nat, i ≤ U.n ∧ x = .int .i64 (i : Int) ∧ Below w.heap.size w wr) (fun x _ => U.n - (intOf x).toNat)
  case atStart => exact ⟨0, Nat.zero_le _, rfl, Below.refl _ _⟩
  case round =>
    obtain ⟨i, hi, rfl, hbw⟩ := hrel
    have HBw := hid hbw
    clear hbw
    by_cases hlt : i < U.n
    · have hlt' : (i : Int) < (U.n : Int) := by omega
      have hlg : i < G.n := by have := HN.out; omega
      obtain ⟨b1, o1, hp1, _, hb1, hat1⟩ := HU.out.at_ (by omega)
      obtain ⟨b2, o2, hp2, _, hb2, hat2⟩ := HG.out.at_ (by have := HN.out; omega)
      rw [hp1, hp2]
      have hce1 : ∀ q u, (elF.cells (U.item i))[q]? = some u → wr.cell? ⟨b1, o1 + i * 3 + q, none⟩ = some u := fun q u hu => (World.cell?_of_block (a := ⟨b1, o1 + i * 3 + q, none⟩) (HBw.out.block b1 hb1)).trans (hat1 i hlt q u hu)
      have hce2 : ∀ q u, (elF.cells (G.item i))[q]? = some u → wr.cell? ⟨b2, o2 + i * 3 + q, none⟩ = some u := fun q u hu => (World.cell?_of_block (a := ⟨b2, o2 + i * 3 + q, none⟩) (HBw.out.block b2 hb2)).trans (hat2 i hlg q u hu)
      obtain ⟨f, hf⟩ : ∃ f, f = U.item i := ⟨_, rfl⟩
      obtain ⟨g, hg⟩ : ∃ g, g = G.item i := ⟨_, rfl⟩
      rw [← hf] at hce1
      rw [← hg] at hce2
      have a0 : wr.cell? ⟨b1, o1 + i * 3, none⟩ = some (.string f.name) := hce1 0 _ rfl
      have a1 : wr.cell? ⟨b1, o1 + i * 3 + 1, none⟩ = some (.slice f.p f.n f.c) := hce1 1 _ rfl
      have a2 : wr.cell? ⟨b1, o1 + i * 3 + 2, none⟩ = some (.int .i64 f.sy) := hce1 2 _ rfl
      have HM0 : Hid (0 ≤ f.sy ∧ f.sy ≤ (f.n : Int) ∧ f.n ≤ 140737488355328) := by
        show 0 ≤ f.sy ∧ f.sy ≤ (f.n : Int) ∧ f.n ≤ 140737488355328
        rw [hf]
        exact ⟨(H0.out i hlt).1, (H0.out i hlt).2, (HU.out.each i hlt).2.1.nn⟩
      have hke : g.key = rsK f.key (kpU K i) := by rw [hf, hg]; exact HKy.out i hlt
      obtain ⟨k1, k2, k3, k4, k5, k6⟩ := surv_at ⟨HM0.out.1, HM0.out.2.1⟩ hke
      obtain ⟨m, hm⟩ : ∃ m, m = svL f (kpU K i) := ⟨_, rfl⟩
      rw [← hm] at k1 k2 k4 k5 k6
      have b0 : wr.cell? ⟨b2, o2 + i * 3, none⟩ = some (.string f.name) := by rw [← k3]; exact hce2 0 _ rfl
      have b1' : wr.cell? ⟨b2, o2 + i * 3 + 1, none⟩ = some (.slice g.p m g.c) := by rw [← k4]; exact hce2 1 _ rfl
      have b2' : wr.cell? ⟨b2, o2 + i * 3 + 2, none⟩ = some (.int .i64 (m : Int)) := by rw [← k5]; exact hce2 2 _ rfl
      have HM1 := hid k1
      have HM2 := hid k2
      have HSm : Hid (∀ W, Below wr.heap.size wr W → Calls Tryd.prog 19 #[.slice g.p m g.c, .slice f.p m f.c] W fun e w' => e = .returned (.bool true) ∧ Below W.heap.size W w') := by
        intro W hW
        have hb : Below w.heap.size w W := HBw.out.trans (hW.mono HBw.out.size)
        have h1 := (HU.out.each i hlt).2.1.kept hb.size fun b _ hl => hb.block b hl
        have h2 := (HG.out.each i hlg).2.1.kept hb.size fun b _ hl => hb.block b hl
        rw [← hf] at h1
        rw [← hg, k4] at h2
        exact same_yes _ _ _ _ _ _ _ W R S h2 (byts_cut h1 m k2) k6
      obtain ⟨V1, hV1⟩ : ∃ V, V = wr.alloc (.cells #[.string f.name, .slice f.p f.n f.c, .int .i64 f.sy] 58) := ⟨_, rfl⟩
      have HB1 : Hid (Below wr.heap.size wr V1) := by show Below _ _ _; rw [hV1]; exact (Below.refl _ _).alloc (Nat.le_refl _) _
      have HX1 : Hid (Box V1 wr.heap.size #[.string f.name, .slice f.p f.n f.c, .int .i64 f.sy] 58) := by show Box _ _ _ _; rw [hV1]; exact Box.new _ _ _
      have HV1 := hid hV1
      obtain ⟨V2, hV2⟩ : ∃ V, V = V1.alloc (.cells #[.string f.name, .slice g.p m g.c, .int .i64 (m : Int)] 58) := ⟨_, rfl⟩
      have HB2 : Hid (Below V1.heap.size V1 V2) := by show Below _ _ _; rw [hV2]; exact (Below.refl _ _).alloc (Nat.le_refl _) _
      have HX2 : Hid (Box V2 V1.heap.size #[.string f.name, .slice g.p m g.c, .int .i64 (m : Int)] 58) := by show Box _ _ _ _; rw [hV2]; exact Box.new _ _ _
      have HV2 := hid hV2
      have HBr : Hid (Below wr.heap.size wr V2) := HB1.out.trans (HB2.out.mono HB1.out.size)
      have HS2 : Hid (∀ u : BW V2, Calls Tryd.prog 19 #[.slice g.p m g.c, .slice f.p m f.c] u.val fun e w' => e = .returned (.bool true) ∧ ∃ u' : BW V2, w' = u'.val) := bw_call fun V hV => HSm.out V (HBr.out.trans (hV.mono HBr.out.size))
      have kcv : 0 < K.n → ∃ kb ko, K.p = some ⟨kb, ko, none⟩ ∧ V1.cell? ⟨kb, ko + i % K.n, none⟩ = some (.int .i64 (K.item (i % K.n))) := by
        intro hk0
        obtain ⟨kb, ko, hkp, _, hkl, hkat⟩ := HK.out.at_ hk0
        refine ⟨kb, ko, hkp, ?_⟩
        have h := hkat (i % K.n) (Nat.mod_lt _ hk0) 0 (.int .i64 (K.item (i % K.n))) rfl
        have e : ko + i % K.n * elInt.size + 0 = ko + i % K.n := by show ko + i % K.n * 1 + 0 = _; omega
        rw [e] at h
        exact (World.cell?_of_block (a := ⟨kb, ko + i % K.n, none⟩) ((HB1.out.block kb (Nat.lt_of_lt_of_le hkl HBw.out.size)).trans (HBw.out.block kb hkl))).trans h
      have hb1w := (World.cell?_of_block (a := ⟨b2, o2 + i * 3, none⟩) (HB1.out.block b2 (Nat.lt_of_lt_of_le hb2 HBw.out.size))).trans b0
      have hb2w := (World.cell?_of_block (a := ⟨b2, o2 + i * 3 + 1, none⟩) (HB1.out.block b2 (Nat.lt_of_lt_of_le hb2 HBw.out.size))).trans b1'
      have hb3w := (World.cell?_of_block (a := ⟨b2, o2 + i * 3 + 2, none⟩) (HB1.out.block b2 (Nat.lt_of_lt_of_le hb2 HBw.out.size))).trans b2'
      have HKc := hid kcv
      have HMc : Hid (f.n ≤ f.c) := by show f.n ≤ f.c; rw [hf]; exact (HU.out.each i hlt).2.1.nc
      have HA := hid (And.intro hb1w (And.intro hb2w hb3w))
      clear hV1 hV2 hce1 hce2 hat1 hat2 k1 k2 k3 k4 k5 k6 hke hm hf hg b0 b1' b2' HSm kcv hb1w hb2w hb3w
      by_cases hk0 : K.n = 0
      · have hk0' : ¬ (0 : Int) < (K.n : Int) := by omega
        have HKu : Hid ((0 : Int) = kpU K i) := by show (0 : Int) = kpU K i; rw [kpU, if_pos hk0]
        go_upto_region 7 with fail
        rw [← HV1.out]
        clear a0 a1 a2
        go_upto_region 10 with fail
        have x0 := HX1.out.cell 0
        have x1 := HX1.out.cell 1
        have x2 := HX1.out.cell 2
        have xl := HX1.out.lt
        simp at x0 x1 x2
        obtain ⟨g0, g1, g2⟩ := HA.out
        have hw1 : wrap64 ((f.n : Int) - f.sy) = (f.n : Int) - f.sy := by have := HM0.out; rw [wrap64]; omega
        have hw2 : wrap64 (f.sy + min 0 ((f.n : Int) - f.sy)) = (m : Int) := by have h1 := HM0.out; have h2 := HM2.out; have h3 := HM1.out; rw [← HKu.out] at h3; rw [wrap64]; omega
        go_upto_region 14 with fail
        clear g0 g1 g2
        rw [← HV2.out]
        have y0 := HX2.out.cell 0
        have y1 := HX2.out.cell 1
        have y2 := HX2.out.cell 2
        have yl := HX2.out.lt
        have z0 := (World.cell?_of_block (a := ⟨wr.heap.size, 0, none⟩) (HB2.out.block _ xl)).trans x0
        have z1 := (World.cell?_of_block (a := ⟨wr.heap.size, 1, none⟩) (HB2.out.block _ xl)).trans x1
        have z2 := (World.cell?_of_block (a := ⟨wr.heap.size, 2, none⟩) (HB2.out.block _ xl)).trans x2
        have zl : wr.heap.size < V2.heap.size := Nat.lt_of_lt_of_le xl HB2.out.size
        simp at y0 y1 y2
        clear x0 x1 x2 xl
        have hmle := HM2.out
        have hmc : m ≤ f.c := Nat.le_trans hmle HMc.out
        have E0 := fun u : BW V2 => u.fact y0 yl
        have E1 := fun u : BW V2 => u.fact y1 yl
        have E2 := fun u : BW V2 => u.fact y2 yl
        have E3 := fun u : BW V2 => u.fact z0 zl
        have E4 := fun u : BW V2 => u.fact z1 zl
        have E5 := fun u : BW V2 => u.fact z2 zl
        refine wp_region_bw V2 (Below.refl _ _).drew (by kernel_rfl) (by kernel_rfl) ?_
        repeat (go_big_quiet_step (fail))
        go_big_quiet_step (exact HS2.out _)
        repeat (go_big_quiet_step (fail))
        refine wpQuiet_nil ?_
        rintro w7 ⟨u0, hw0⟩
        have hb7 : Below V2.heap.size V2 w7 := by rw [hw0]; exact u0.prop
        clear hw0 u0
        clear E0 E1 E2 E3 E4 E5
        clear y0 y1 y2 yl z0 z1 z2 zl hmle hmc
        have HBe : Hid (Below w.heap.size w w7) := HBw.out.trans ((HBr.out.trans (hb7.mono HBr.out.size)).mono HBw.out.size)
        clear hb7
        go_wp2
        go_roundw
        case rel => exact ⟨i + 1, by omega, by go_num, HBe.out⟩
        case measure => simp [intOf]; omega
      · have hk0' : (0 : Int) < (K.n : Int) := by omega
        obtain ⟨kb, ko, hkp, kc⟩ := HKc.out (by omega)
        rw [hkp]
        go_upto_region 7 with fail
        rw [← HV1.out]
        clear a0 a1 a2
        obtain ⟨mm, hmm⟩ : ∃ mm, mm = i % K.n := ⟨_, rfl⟩
        obtain ⟨uu, huu⟩ : ∃ uu, uu = K.item mm := ⟨_, rfl⟩
        have HKu : Hid (uu = kpU K i) := by show uu = kpU K i; rw [huu, kpU, if_neg hk0, hmm]
        rw [← hmm, ← huu] at kc
        have hrem : (i : Int).tmod (K.n : Int) = (mm : Int) := by rw [hmm, Int.tmod_eq_emod_of_nonneg (by omega)]; exact (Int.natCast_emod _ _).symm
        have hmlt : mm < K.n := by rw [hmm]; exact Nat.mod_lt _ (by omega)
        clear hmm huu
        go_upto_region 10 with fail
        clear kc hrem
        have x0 := HX1.out.cell 0
        have x1 := HX1.out.cell 1
        have x2 := HX1.out.cell 2
        have xl := HX1.out.lt
        simp at x0 x1 x2
        obtain ⟨g0, g1, g2⟩ := HA.out
        have hw1 : wrap64 ((f.n : Int) - f.sy) = (f.n : Int) - f.sy := by have := HM0.out; rw [wrap64]; omega
        have hw2 : wrap64 (f.sy + min (max uu 0) ((f.n : Int) - f.sy)) = (m : Int) := by have h1 := HM0.out; have h2 := HM2.out; have h3 := HM1.out; rw [← HKu.out] at h3; rw [wrap64]; omega
        go_upto_region 14 with fail
        clear g0 g1 g2
        rw [← HV2.out]
        have y0 := HX2.out.cell 0
        have y1 := HX2.out.cell 1
        have y2 := HX2.out.cell 2
        have yl := HX2.out.lt
        have z0 := (World.cell?_of_block (a := ⟨wr.heap.size, 0, none⟩) (HB2.out.block _ xl)).trans x0
        have z1 := (World.cell?_of_block (a := ⟨wr.heap.size, 1, none⟩) (HB2.out.block _ xl)).trans x1
        have z2 := (World.cell?_of_block (a := ⟨wr.heap.size, 2, none⟩) (HB2.out.block _ xl)).trans x2
        have zl : wr.heap.size < V2.heap.size := Nat.lt_of_lt_of_le xl HB2.out.size
        simp at y0 y1 y2
        clear x0 x1 x2 xl
        have hmle := HM2.out
        have hmc : m ≤ f.c := Nat.le_trans hmle HMc.out
        have E0 := fun u : BW V2 => u.fact y0 yl
        have E1 := fun u : BW V2 => u.fact y1 yl
        have E2 := fun u : BW V2 => u.fact y2 yl
        have E3 := fun u : BW V2 => u.fact z0 zl
        have E4 := fun u : BW V2 => u.fact z1 zl
        have E5 := fun u : BW V2 => u.fact z2 zl
        refine wp_region_bw V2 (Below.refl _ _).drew (by kernel_rfl) (by kernel_rfl) ?_
        repeat (go_big_quiet_step (fail))
        go_big_quiet_step (exact HS2.out _)
        repeat (go_big_quiet_step (fail))
        refine wpQuiet_nil ?_
        rintro w7 ⟨u0, hw0⟩
        have hb7 : Below V2.heap.size V2 w7 := by rw [hw0]; exact u0.prop
        clear hw0 u0
        clear E0 E1 E2 E3 E4 E5
        clear y0 y1 y2 yl z0 z1 z2 zl hmle hmc
        have HBe : Hid (Below w.heap.size w w7) := HBw.out.trans ((HBr.out.trans (hb7.mono HBr.out.size)).mono HBw.out.size)
        clear hb7
        go_wp2
        go_roundw
        case rel => exact ⟨i + 1, by omega, by go_num, HBe.out⟩
        case measure => simp [intOf]; omega
    · have hlt' : ¬ (i : Int) < (U.n : Int) := by omega
      go_wp2
      exact bodyPost_ret (v := .bool true) (by simp [results, Tryd.results14, go_sem]) rfl ⟨rfl, HBw.out⟩
end Go.Proofs.YtkfcilandmhomaaDoor
