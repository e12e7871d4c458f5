import Derived.Test.YtkfcilandmhomaaDoorFdQ
namespace Go.Proofs.YtkfcilandmhomaaDoor
open Go.RowKit
set_option maxRecDepth 8000
theorem srtK_eq {u l : LT FA} : ∀ {n : Nat}, (∀ j, j < n → (u.item j).key = (l.item j).key) → srtK u n = srtK l n
  | 0, _ => rfl
  | n + 1, h => by
    show insK _ _ = insK _ _
    rw [h n (by omega), srtK_eq fun j hj => h j (by omega)]
set_option maxHeartbeats 16000000 in
theorem diskFails_walk (U : LT FA) (af nf : Int) (P : LT OpD) (w : World) (haf : -9223372036854775808 ≤ af ∧ af ≤ 9223372036854775807) (hnf : -9223372036854775808 ≤ nf ∧ nf ≤ 9223372036854775807) (hU : LT.In elF w (fun b => b < w.heap.size) U) (hP : LT.In elD w (fun b => b < w.heap.size) P) :
    Calls Tryd.prog 6 #[.slice U.p U.n U.c, .int .i64 af, .int .i64 nf, .slice P.p P.n P.c] w fun e w' => e = .returned (.bool true) ∧ Below w.heap.size w w' := by
  obtain ⟨Z, hZ⟩ : ∃ Z : Nat → Prop, Z = fun k => k < w.heap.size := ⟨_, rfl⟩
  have HZP : Hid (LT.In elD w Z P) := by show LT.In _ _ _ _; rw [hZ]; exact hP
  have HZU : Hid (LT.In elF w Z U) := by show LT.In _ _ _ _; rw [hZ]; exact hU
  have HLo : Hid (∀ W, Fr Z w W → Below w.heap.size w W) := by intro W h; rw [hZ] at h; exact fr_below h
  have HZl : Hid (∀ k, Z k → k < w.heap.size) := by intro k hk; rw [hZ] at hk; exact hk
  have HP := hid hP
  have hpn := hP.nn
  have hun := hU.nn
  have HFt := hid (sfits_any U P w _ _ hU hP)
  clear hP hU hZ
  go_enter Tryd.func6, Tryd.ntmps6
  go_wp2_with fail
  refine HFt.out.mono ?_
  rintro e w0 ⟨q, rfl, hb0, hq⟩
  have HB0 := hid hb0
  clear hb0 HFt
  cases q with
  | false =>
    as_aux_lemma =>
    go_wp2
    exact bodyPost_ret (v := .bool true) (by simp [results, Tryd.results6, go_sem]) rfl (⟨rfl, HB0.out⟩)
  | true =>
    obtain ⟨⟨hu5, hzU⟩, hp4, hzP⟩ := hq rfl
    have HzU := hid hzU
    have HzP : Hid (∀ j, j < P.n → (P.item j).zs.length ≤ 524288) := fun j hj => (hzP j hj).1
    clear hq hzU hzP
    by_cases h300 : 300 < U.n
    · as_aux_lemma =>
      have h300' : (300 : Int) < (U.n : Int) := by omega
      go_wp2
      exact bodyPost_ret (v := .bool true) (by simp [results, Tryd.results6, go_sem]) rfl (⟨rfl, HB0.out⟩)
    · as_aux_lemma =>
      have h300' : ¬ (300 : Int) < (U.n : Int) := by omega
      have HNw := hid (ds_nil (w := w0) (Z := Z) (l := []) fun k hk => Nat.lt_of_lt_of_le (HZl.out k hk) HB0.out.size)
      go_upto_region 3 with fail
      go_wp2_with fail
      refine HNw.out.mono ?_
      rintro e w1 ⟨d0, rfl, hm1, hb1⟩
      have HWk := hid (ds_works hm1)
      have HN1 := hid (num_any 0 w1)
      have HF1 : Hid (Fr Z w w1) := Fr.of (HB0.out.trans (hb1.mono HB0.out.size))
      clear hm1 hb1 HNw
      go_wp2_with fail
      refine HN1.out.mono ?_
      rintro e w1' ⟨rfl, rfl⟩
      clear HN1
      go_wp2_with fail
      refine HWk.out.mono ?_
      rintro e w2 ⟨rfl, hm2, hf2⟩
      have HF2 : Hid (Fr Z w w2) := HF1.out.trans hf2
      have HD2 := hid hm2.drop
      clear hm2 hf2 HWk HF1
      have HCp := hid (cpF_any U w2 Z (HZU.out.kept (HLo.out w2 HF2.out).size fun b hb hl => (HLo.out w2 HF2.out).block b hl) (by omega) fun j hj => Nat.le_trans (HzU.out j hj) (by omega))
      go_upto_region 6 with fail
      go_wp2_with fail
      refine HCp.out.mono ?_
      rintro e w3 ⟨u, rfl, hu, hun, huk, hb3⟩
      have HD3 := hid (HD2.out.bel hb3)
      have HF3 : Hid (Fr Z w w3) := HF2.out.trans (Fr.of hb3)
      have HNb : Hid (newB u = newB U) := newB_eq u U hun huk
      have HKs : Hid (srtK u u.n = srtK U U.n) := by show srtK u u.n = _; rw [hun]; exact srtK_eq huk
      have HNw := hid (ds_new HD3.out u (hu.mono fun k _ hl => hl))
      clear hu hun huk hb3 HCp HD2 HF2
      go_wp2_with fail
      refine HNw.out.mono ?_
      rintro e w4 ⟨hb4, h40, h41⟩
      have HF4 : Hid (Fr Z w w4) := HF3.out.trans (Fr.of hb4)
      clear HNw HD3 hb4
      cases hB : newB U with
      | false =>
        as_aux_lemma =>
        rw [h40 (HNb.out.trans hB)]
        have HN4 := hid (num_any 105 w4)
        clear h40 h41
        go_wp2_with fail
        refine HN4.out.mono ?_
        rintro e w4' ⟨rfl, rfl⟩
        clear HN4
        have HN5 := hid (num_any 105 w4')
        go_wp2_with fail
        refine HN5.out.mono ?_
        rintro e w5 ⟨rfl, rfl⟩
        go_wp2
        exact bodyPost_ret (v := .bool true) (by simp [results, Tryd.results6, go_sem]) rfl (⟨rfl, HLo.out _ HF4.out⟩)
      | true =>
        as_aux_lemma =>
        obtain ⟨db, rfl, hm4⟩ := h41 (HNb.out.trans hB)
        rw [HKs.out] at hm4
        have HM4 := hid hm4
        have HN4 := hid (num_any 0 w4)
        clear h40 h41 hm4 HNb HKs
        go_wp2_with fail
        refine HN4.out.mono ?_
        rintro e w4' ⟨rfl, rfl⟩
        clear HN4
        have HCq := hid (cpF_any U w4' Z (HZU.out.kept (HLo.out w4' HF4.out).size fun b hb hl => (HLo.out w4' HF4.out).block b hl) (by omega) fun j hj => Nat.le_trans (HzU.out j hj) (by omega))
        go_upto_region 9 with fail
        go_wp2_with fail
        refine HCq.out.mono ?_
        rintro e w5 ⟨v, rfl, hv, hvn, hvk, hb5⟩
        have HD5 := hid (HM4.out.bel hb5)
        have HF5 : Hid (Fr Z w w5) := HF4.out.trans (Fr.of hb5)
        have HNb : Hid (newB v = true) := (newB_eq v U hvn hvk).trans hB
        have HKs : Hid (srtK v v.n = srtK U U.n) := by show srtK v v.n = _; rw [hvn]; exact srtK_eq hvk
        have HNw := hid (ds_new HD5.out v (hv.mono fun k _ hl => hl))
        clear hv hvn hvk hb5 HCq HM4 HF4
        go_wp2_with fail
        refine HNw.out.mono ?_
        rintro e w6 ⟨hb6, -, h61⟩
        obtain ⟨pl, rfl, hm6⟩ := h61 HNb.out
        rw [HKs.out] at hm6
        have HM6 := hid hm6.swap
        have HF6 : Hid (Fr Z w w6) := HF5.out.trans (Fr.of hb6)
        have HN6 := hid (num_any 0 w6)
        clear h61 hb6 hm6 HNw HD5 HF5 HNb HKs
        go_upto_region 10 with fail
        go_wp2_with fail
        refine HN6.out.mono ?_
        rintro e w6' ⟨rfl, rfl⟩
        clear HN6
        have HFl := hid (ds_fail HM6.out af nf haf.2 hnf.2)
        go_upto_region 12 with fail
        go_wp2_with fail
        refine HFl.out.mono ?_
        rintro e w7 ⟨rfl, hm7, hf7⟩
        have HS7 := hid (And.intro hm7 (fails_new (srtK U U.n) af nf))
        have HF9 : Hid (Fr Z w w7) := HF6.out.trans hf7
        clear hm7 hf7 HFl HM6 HF6
        go_upto_region 13 with fail
        go_cut [80] (fun c wx => c = .bool (decide (af < 0 ∨ nf ≤ 0)) ∧ wx = w7)
        case first =>
          as_aux_lemma =>
          by_cases h1 : af < 0
          · go_wp2_with fail
            go_meet
            exact ⟨by simp [h1], rfl⟩
          · by_cases h2 : nf ≤ 0
            · go_wp2_with fail
              go_meet
              exact ⟨by simp [h2], rfl⟩
            · go_wp2_with fail
              go_meet
              exact ⟨by simp [h1, h2], rfl⟩
        case rest =>
        as_aux_lemma =>
        obtain ⟨rfl, rfl⟩ := hcut
        obtain ⟨cb, hcb⟩ : ∃ cb, cb = decide (af < 0 ∨ nf ≤ 0) := ⟨_, rfl⟩
        rw [← hcb]
        have HCb := hid hcb
        clear hcb
        go_upto_if 80 with fail
        go_cut [1, 2] (fun y1 y2 wx => ∃ a m : Int, y1 = .int .i64 a ∧ y2 = .int .i64 m ∧ (a = if af < 0 ∨ nf ≤ 0 then 0 else af) ∧ (m = if af < 0 ∨ nf ≤ 0 then 0 else nf) ∧ wx = wc)
        case first =>
          as_aux_lemma =>
          cases cb with
          | true =>
            have h1 := of_decide_eq_true HCb.out.symm
            go_wp2_with fail
            go_meet
            exact ⟨0, 0, rfl, rfl, by rw [if_pos h1], by rw [if_pos h1], rfl⟩
          | false =>
            have h1 := of_decide_eq_false HCb.out.symm
            have HH := hid h1
            clear h1
            go_wp2_with fail
            go_meet
            exact ⟨af, nf, rfl, rfl, by rw [if_neg HH.out], by rw [if_neg HH.out], rfl⟩
        case rest =>
          as_aux_lemma =>
          obtain ⟨a, m, rfl, rfl, ha, hm, rfl⟩ := hcut
          have hHS := HS7.out
          rw [← ha, ← hm] at hHS
          have HS9 := hid hHS
          have hab : 0 ≤ a ∧ a ≤ 9223372036854775807 := by split at ha <;> omega
          have hmb : 0 ≤ m ∧ m ≤ 9223372036854775807 := by split at hm <;> omega
          clear ha hm hHS HS7
          go_wp2_with fail
          go_loopw [15, 16] (fun y x wr => ∃ (i : Nat) (dn : Int), i ≤ P.n ∧ (0 ≤ dn ∧ dn ≤ (i : Int)) ∧ x = .int .i64 (i : Int) ∧ y = .int .i64 dn ∧ (∃ A B : AK, Ds wr Z [(db, A), (pl, B)] ∧ FInv A B a m dn) ∧ Fr Z w wr) (fun _ x _ => P.n - (intOf x).toNat)
          case atStart => exact ⟨0, 0, Nat.zero_le _, by omega, rfl, rfl, ⟨_, _, HS9.out⟩, HF9.out⟩
          case round =>
            obtain ⟨i, dn, hi, hdn, rfl, rfl, ⟨A, B, hM, hIv⟩, hf⟩ := hrel
            have HM := hid hM
            have HIv := hid hIv
            have HF := hid hf
            clear hM hIv hf HS9 HF9
            by_cases hlt : i < P.n
            · as_aux_lemma =>
              have hlt' : (i : Int) < (P.n : Int) := by omega
              obtain ⟨bb, bo, hp, _, hbb, hat⟩ := HP.out.at_ (by omega)
              rw [hp]
              obtain ⟨o, ho⟩ : ∃ o, o = P.item i := ⟨_, rfl⟩
              have hce : ∀ r u, (elD.cells o)[r]? = some u → wr.cell? ⟨bb, bo + i * 7 + r, none⟩ = some u := fun r u hu => (World.cell?_of_block (a := ⟨bb, bo + i * 7 + r, none⟩) ((HLo.out wr HF.out).block bb hbb)).trans (hat i hlt r u (by rw [← ho]; exact hu))
              have c0 : wr.cell? ⟨bb, bo + i * 7, none⟩ = some (.int .i64 o.kind) := hce 0 _ rfl
              have c1 : wr.cell? ⟨bb, bo + i * 7 + 1, none⟩ = some (.int .i64 o.which) := hce 1 _ rfl
              have c2 : wr.cell? ⟨bb, bo + i * 7 + 2, none⟩ = some (.string o.name) := hce 2 _ rfl
              have c3 : wr.cell? ⟨bb, bo + i * 7 + 3, none⟩ = some (.int .i64 o.n) := hce 3 _ rfl
              have c4 : wr.cell? ⟨bb, bo + i * 7 + 4, none⟩ = some (.int .i64 o.after) := hce 4 _ rfl
              have c5 : wr.cell? ⟨bb, bo + i * 7 + 5, none⟩ = some (.slice o.bp o.zs.length o.bc) := hce 5 _ rfl
              have c6 : wr.cell? ⟨bb, bo + i * 7 + 6, none⟩ = some (.slice o.K.p o.K.n o.K.c) := hce 6 _ rfl
              have HO0 : Hid (OpI w Z o.name o.n o.after o.bp o.zs o.bc o.K) := by show OpI _ _ _ _ _ _ _ _ _; rw [ho]; exact op_in (HZP.out.each i hlt) (HzP.out i hlt)
              have HO : Hid (OpI wr Z o.name o.n o.after o.bp o.zs o.bc o.K) := HO0.out.fr HF.out
              clear hce hat ho HO0
              obtain ⟨V1, hV1⟩ : ∃ V, V = wr.alloc (.cells #[.int .i64 o.kind, .int .i64 o.which, .string o.name, .int .i64 o.n, .int .i64 o.after, .slice o.bp o.zs.length o.bc, .slice o.K.p o.K.n o.K.c] 33) := ⟨_, rfl⟩
              have HB1 : Hid (Below wr.heap.size wr V1) := by show Below _ _ _; rw [hV1]; exact (Below.refl _ _).alloc (Nat.le_refl _) _
              have HX1 : Hid (Box V1 wr.heap.size #[.int .i64 o.kind, .int .i64 o.which, .string o.name, .int .i64 o.n, .int .i64 o.after, .slice o.bp o.zs.length o.bc, .slice o.K.p o.K.n o.K.c] 33) := by show Box _ _ _ _; rw [hV1]; exact Box.new _ _ _
              have HV1 := hid hV1
              clear hV1
              go_upto_region 21 with fail
              rw [← HV1.out]
              clear c0 c1 c2 c3 c4 c5 c6
              have o0 := HX1.out.cell 0
              have o1 := HX1.out.cell 1
              have o2 := HX1.out.cell 2
              have o3 := HX1.out.cell 3
              have o4 := HX1.out.cell 4
              have o5 := HX1.out.cell 5
              have o6 := HX1.out.cell 6
              have ol := HX1.out.lt
              simp at o0 o1 o2 o3 o4 o5 o6
              by_cases hk1 : o.kind < 1
              · as_aux_lemma =>
                have HMe : Hid (Ds V1 Z [(db, A), (pl, B)]) := HM.out.bel HB1.out
                have HFe : Hid (Fr Z w V1) := HF.out.trans (Fr.of HB1.out)
                go_wp2
                go_roundw
                case rel => exact ⟨i + 1, dn, by omega, by omega, by go_num, rfl, ⟨_, _, HMe.out, HIv.out⟩, HFe.out⟩
                case measure => simp [intOf]; omega
              by_cases hk5 : 5 < o.kind
              · as_aux_lemma =>
                have HMe : Hid (Ds V1 Z [(db, A), (pl, B)]) := HM.out.bel HB1.out
                have HFe : Hid (Fr Z w V1) := HF.out.trans (Fr.of HB1.out)
                go_wp2
                go_roundw
                case rel => exact ⟨i + 1, dn, by omega, by omega, by go_num, rfl, ⟨_, _, HMe.out, HIv.out⟩, HFe.out⟩
                case measure => simp [intOf]; omega
              by_cases hk : o.kind = 5
              · as_aux_lemma =>
                have HI : Hid (doesE A o.kind o.name o.n o.zs.length = doesE B o.kind o.name o.n o.zs.length ∧ FInv (doesK A o.kind o.name o.n o.after o.zs o.K) (doesK B o.kind o.name o.n o.after o.zs o.K) a m dn) := by
                  show _ ∧ _
                  rw [hk]
                  exact HIv.out.read o.name o.n o.after o.zs o.K
                rw [hk] at o0
                clear hk hk1 hk5
                go_upto_region 22 with fail
                have HFi := hid (ds_files (HM.out.bel HB1.out))
                go_upto_region 25 with fail
                go_wp2_with fail
                refine HFi.out.mono ?_
                rintro e w3 ⟨u, rfl, hu, hun, huk, hb3⟩
                have HU := hid hu
                have HUk := hid (And.intro hun huk)
                have HB13 : Hid (Below wr.heap.size wr w3) := HB1.out.trans (hb3.mono HB1.out.size)
                have HX3 := hid (HX1.out.below hb3)
                have hs1 : wr.heap.size < V1.heap.size := HX1.out.lt
                have hs3 := hb3.size
                obtain ⟨Y, hY⟩ : ∃ Y : Nat → Prop, Y = fun k => Z k ∨ (wr.heap.size ≤ k ∧ k < w3.heap.size) := ⟨_, rfl⟩
                have HYZ : Hid (∀ k, Z k → Y k) := by intro k hk; rw [hY]; exact .inl hk
                have HYn : Hid (∀ k, wr.heap.size ≤ k → k < w3.heap.size → Y k) := by intro k h1 h2; rw [hY]; exact .inr ⟨h1, h2⟩
                have HM3 : Hid (Ds w3 Y [(db, A), (pl, B)]) := by show Ds _ _ _; rw [hY]; exact HM.out.more HB13.out
                have HO3 : Hid (OpI w3 Y o.name o.n o.after o.bp o.zs o.bc o.K) := (HO.out.fr (Fr.of HB13.out)).mono HYZ.out
                have HFr3 : Hid (Fr Z w w3) := HF.out.trans (Fr.of HB13.out)
                have HUY : Hid (LT.In elF w3 Y u) := HU.out.mono fun k hk hl => HYn.out k (by omega) hl
                have HXY : Hid (Y wr.heap.size) := HYn.out _ (Nat.le_refl _) (by omega)
                have HDo := hid (ds_does HM3.out o.kind o.which o.name o.n o.after o.bp o.zs o.bc o.K HO3.out)
                clear hu hun huk hb3 hY hs1 hs3 HU HFi HB13 o0 o1 o2 o3 o4 o5 o6 ol
                have o0 := HX3.out.cell 0
                have o1 := HX3.out.cell 1
                have o2 := HX3.out.cell 2
                have o3 := HX3.out.cell 3
                have o4 := HX3.out.cell 4
                have o5 := HX3.out.cell 5
                have o6 := HX3.out.cell 6
                have ol := HX3.out.lt
                simp at o0 o1 o2 o3 o4 o5 o6
                go_wp2_with fail
                refine HDo.out.mono ?_
                rintro e w4 ⟨rfl, hm4, hf4⟩
                have HM4 := hid hm4
                have HFr4 : Hid (Fr Z w w4) := HFr3.out.trans (hf4.less HYZ.out)
                have HU4 : Hid (LT.In elF w4 Y u) := HUY.out.kept hf4.size fun b hy hl => hf4.block b hl fun e => e hy
                have HX4 := hid (HX3.out.kept (hf4.block _ HX3.out.lt fun e => e HXY.out))
                have HO4 := hid (HO3.out.fr hf4)
                clear hm4 hf4 HDo o0 o1 o2 o3 o4 o5 o6 ol
                obtain ⟨x, hx⟩ : ∃ x, x = doesE A o.kind o.name o.n o.zs.length := ⟨_, rfl⟩
                rw [← hx]
                have HXe := hid hx
                clear hx
                have o0 := HX4.out.cell 0
                have o1 := HX4.out.cell 1
                have o2 := HX4.out.cell 2
                have o3 := HX4.out.cell 3
                have o4 := HX4.out.cell 4
                have o5 := HX4.out.cell 5
                have o6 := HX4.out.cell 6
                have ol := HX4.out.lt
                simp at o0 o1 o2 o3 o4 o5 o6
                go_upto_region 27 with fail
                have HD2 := hid (ds_does HM4.out.swap o.kind o.which o.name o.n o.after o.bp o.zs o.bc o.K HO4.out)
                go_wp2_with fail
                refine HD2.out.mono ?_
                rintro e w5 ⟨rfl, hm5, hf5⟩
                rw [← HI.out.1, ← HXe.out]
                have HM5 := hid hm5.swap
                have HFr5 : Hid (Fr Z w w5) := HFr4.out.trans (hf5.less HYZ.out)
                clear hm5 hf5 HD2 HXe o0 o1 o2 o3 o4 o5 o6 ol
                have HFa := hid (ds_files HM5.out)
                go_wp2_with fail
                refine HFa.out.mono ?_
                rintro e w6 ⟨u6, rfl, hu6, hun6, huk6, hb6⟩
                have HU6 := hid hu6
                have HUk6 := hid (And.intro hun6 huk6)
                have HB6 := hid hb6
                have HFb := hid (ds_files (HM5.out.bel hb6).swap)
                clear hu6 hun6 huk6 hb6 HFa
                go_wp2_with fail
                refine HFb.out.mono ?_
                rintro e w7 ⟨v7, rfl, hv7, hvn7, hvk7, hb7⟩
                rw [← HI.out.2.ks] at hvn7 hvk7
                have HSa := hid (alike_files HUk6.out.1 HUk6.out.2 hvn7 hvk7)
                have HAl := hid (alike_yes u6 v7 w7 _ _ (HU6.out.below hb7) hv7 HSa.out.1 HSa.out.2)
                have HB57 : Hid (Below w5.heap.size w5 w7) := HB6.out.trans (hb7.mono HB6.out.size)
                clear hv7 hvn7 hvk7 hb7 HFb HU6 HUk6 HB6 HSa
                go_wp2_with fail
                refine HAl.out.mono ?_
                rintro e w8 ⟨rfl, hb8⟩
                have HB8 : Hid (Below w5.heap.size w5 w8) := HB57.out.trans (hb8.mono HB57.out.size)
                have HMe : Hid (Ds w8 Z [(db, doesK A o.kind o.name o.n o.after o.zs o.K), (pl, doesK B o.kind o.name o.n o.after o.zs o.K)]) := (HM5.out.bel HB8.out).less HYZ.out
                have HFe : Hid (Fr Z w w8) := HFr5.out.trans (Fr.of HB8.out)
                clear hb8 HAl HB57 HB8 HM5 HFr5
                go_wp2
                go_roundw
                case rel => exact ⟨i + 1, dn, by omega, by omega, by go_num, rfl, ⟨_, _, HMe.out, HI.out.2⟩, HFe.out⟩
                case measure => simp [intOf]; omega
              have hk' : (o.kind == 5) = false := by simpa using hk
              have hkd : 1 ≤ o.kind ∧ o.kind ≤ 4 := by omega
              have HNm := hid (named_any o.name V1 HO.out.hs)
              go_upto_region 22 with fail
              go_wp2_with fail
              refine HNm.out.mono ?_
              rintro e w2' ⟨rfl, rfl⟩
              clear HNm
              cases hnb : nmB o.name with
              | false =>
                as_aux_lemma =>
                have HI := hid (HIv.out.bad o.name o.n o.after o.zs o.K hkd hnb)
                have HFi := hid (ds_files (HM.out.bel HB1.out))
                go_upto_region 25 with fail
                go_wp2_with fail
                refine HFi.out.mono ?_
                rintro e w3 ⟨u, rfl, hu, hun, huk, hb3⟩
                have HU := hid hu
                have HUk := hid (And.intro hun huk)
                have HB13 : Hid (Below wr.heap.size wr w3) := HB1.out.trans (hb3.mono HB1.out.size)
                have HX3 := hid (HX1.out.below hb3)
                have hs1 : wr.heap.size < w2'.heap.size := HX1.out.lt
                have hs3 := hb3.size
                obtain ⟨Y, hY⟩ : ∃ Y : Nat → Prop, Y = fun k => Z k ∨ (wr.heap.size ≤ k ∧ k < w3.heap.size) := ⟨_, rfl⟩
                have HYZ : Hid (∀ k, Z k → Y k) := by intro k hk; rw [hY]; exact .inl hk
                have HYn : Hid (∀ k, wr.heap.size ≤ k → k < w3.heap.size → Y k) := by intro k h1 h2; rw [hY]; exact .inr ⟨h1, h2⟩
                have HM3 : Hid (Ds w3 Y [(db, A), (pl, B)]) := by show Ds _ _ _; rw [hY]; exact HM.out.more HB13.out
                have HO3 : Hid (OpI w3 Y o.name o.n o.after o.bp o.zs o.bc o.K) := (HO.out.fr (Fr.of HB13.out)).mono HYZ.out
                have HFr3 : Hid (Fr Z w w3) := HF.out.trans (Fr.of HB13.out)
                have HUY : Hid (LT.In elF w3 Y u) := HU.out.mono fun k hk hl => HYn.out k (by omega) hl
                have HXY : Hid (Y wr.heap.size) := HYn.out _ (Nat.le_refl _) (by omega)
                have HDo := hid (ds_does HM3.out o.kind o.which o.name o.n o.after o.bp o.zs o.bc o.K HO3.out)
                clear hu hun huk hb3 hY hs1 hs3 HU HFi HB13 o0 o1 o2 o3 o4 o5 o6 ol
                have o0 := HX3.out.cell 0
                have o1 := HX3.out.cell 1
                have o2 := HX3.out.cell 2
                have o3 := HX3.out.cell 3
                have o4 := HX3.out.cell 4
                have o5 := HX3.out.cell 5
                have o6 := HX3.out.cell 6
                have ol := HX3.out.lt
                simp at o0 o1 o2 o3 o4 o5 o6
                go_wp2_with fail
                refine HDo.out.mono ?_
                rintro e w4 ⟨rfl, hm4, hf4⟩
                have HM4 := hid hm4
                have HFr4 : Hid (Fr Z w w4) := HFr3.out.trans (hf4.less HYZ.out)
                have HU4 : Hid (LT.In elF w4 Y u) := HUY.out.kept hf4.size fun b hy hl => hf4.block b hl fun e => e hy
                have HX4 := hid (HX3.out.kept (hf4.block _ HX3.out.lt fun e => e HXY.out))
                have HO4 := hid (HO3.out.fr hf4)
                clear hm4 hf4 HDo o0 o1 o2 o3 o4 o5 o6 ol
                obtain ⟨x, hx⟩ : ∃ x, x = doesE A o.kind o.name o.n o.zs.length := ⟨_, rfl⟩
                rw [← hx]
                have HXe := hid hx
                clear hx
                have o0 := HX4.out.cell 0
                have o1 := HX4.out.cell 1
                have o2 := HX4.out.cell 2
                have o3 := HX4.out.cell 3
                have o4 := HX4.out.cell 4
                have o5 := HX4.out.cell 5
                have o6 := HX4.out.cell 6
                have ol := HX4.out.lt
                simp at o0 o1 o2 o3 o4 o5 o6
                go_upto_region 27 with fail
                have HD2 := hid (ds_does HM4.out.swap o.kind o.which o.name o.n o.after o.bp o.zs o.bc o.K HO4.out)
                go_wp2_with fail
                refine HD2.out.mono ?_
                rintro e w5 ⟨rfl, hm5, hf5⟩
                rw [← HI.out.1, ← HXe.out]
                have HM5 := hid hm5.swap
                have HFr5 : Hid (Fr Z w w5) := HFr4.out.trans (hf5.less HYZ.out)
                clear hm5 hf5 HD2 HXe o0 o1 o2 o3 o4 o5 o6 ol
                have HFa := hid (ds_files HM5.out)
                go_wp2_with fail
                refine HFa.out.mono ?_
                rintro e w6 ⟨u6, rfl, hu6, hun6, huk6, hb6⟩
                have HU6 := hid hu6
                have HUk6 := hid (And.intro hun6 huk6)
                have HB6 := hid hb6
                have HFb := hid (ds_files (HM5.out.bel hb6).swap)
                clear hu6 hun6 huk6 hb6 HFa
                go_wp2_with fail
                refine HFb.out.mono ?_
                rintro e w7 ⟨v7, rfl, hv7, hvn7, hvk7, hb7⟩
                rw [← HI.out.2.ks] at hvn7 hvk7
                have HSa := hid (alike_files HUk6.out.1 HUk6.out.2 hvn7 hvk7)
                have HAl := hid (alike_yes u6 v7 w7 _ _ (HU6.out.below hb7) hv7 HSa.out.1 HSa.out.2)
                have HB57 : Hid (Below w5.heap.size w5 w7) := HB6.out.trans (hb7.mono HB6.out.size)
                clear hv7 hvn7 hvk7 hb7 HFb HU6 HUk6 HB6 HSa
                go_wp2_with fail
                refine HAl.out.mono ?_
                rintro e w8 ⟨rfl, hb8⟩
                have HB8 : Hid (Below w5.heap.size w5 w8) := HB57.out.trans (hb8.mono HB57.out.size)
                have HMe : Hid (Ds w8 Z [(db, doesK A o.kind o.name o.n o.after o.zs o.K), (pl, doesK B o.kind o.name o.n o.after o.zs o.K)]) := (HM5.out.bel HB8.out).less HYZ.out
                have HFe : Hid (Fr Z w w8) := HFr5.out.trans (Fr.of HB8.out)
                clear hb8 HAl HB57 HB8 HM5 HFr5
                go_wp2
                go_roundw
                case rel => exact ⟨i + 1, dn, by omega, by omega, by go_num, rfl, ⟨_, _, HMe.out, HI.out.2⟩, HFe.out⟩
                case measure => simp [intOf]; omega
              | true =>
                have hw1 : wrap64 (dn + 1) = dn + 1 := by rw [wrap64]; omega
                have hw2 : wrap64 (dn + 1 - a) = dn + 1 - a := by rw [wrap64]; omega
                by_cases hc1 : a < dn + 1
                · by_cases hc2 : dn + 1 - a ≤ m
                  · as_aux_lemma =>
                    have HI := hid (HIv.out.fail o.name o.n o.after o.zs o.K hkd hnb ⟨hc1, hc2⟩)
                    have HFi := hid (ds_files (HM.out.bel HB1.out))
                    go_upto_region 25 with fail
                    go_wp2_with fail
                    refine HFi.out.mono ?_
                    rintro e w3 ⟨u, rfl, hu, hun, huk, hb3⟩
                    have HU := hid hu
                    have HUk := hid (And.intro hun huk)
                    have HB13 : Hid (Below wr.heap.size wr w3) := HB1.out.trans (hb3.mono HB1.out.size)
                    have HX3 := hid (HX1.out.below hb3)
                    have hs1 : wr.heap.size < w2'.heap.size := HX1.out.lt
                    have hs3 := hb3.size
                    obtain ⟨Y, hY⟩ : ∃ Y : Nat → Prop, Y = fun k => Z k ∨ (wr.heap.size ≤ k ∧ k < w3.heap.size) := ⟨_, rfl⟩
                    have HYZ : Hid (∀ k, Z k → Y k) := by intro k hk; rw [hY]; exact .inl hk
                    have HYn : Hid (∀ k, wr.heap.size ≤ k → k < w3.heap.size → Y k) := by intro k h1 h2; rw [hY]; exact .inr ⟨h1, h2⟩
                    have HM3 : Hid (Ds w3 Y [(db, A), (pl, B)]) := by show Ds _ _ _; rw [hY]; exact HM.out.more HB13.out
                    have HO3 : Hid (OpI w3 Y o.name o.n o.after o.bp o.zs o.bc o.K) := (HO.out.fr (Fr.of HB13.out)).mono HYZ.out
                    have HFr3 : Hid (Fr Z w w3) := HF.out.trans (Fr.of HB13.out)
                    have HUY : Hid (LT.In elF w3 Y u) := HU.out.mono fun k hk hl => HYn.out k (by omega) hl
                    have HXY : Hid (Y wr.heap.size) := HYn.out _ (Nat.le_refl _) (by omega)
                    have HDo := hid (ds_does HM3.out o.kind o.which o.name o.n o.after o.bp o.zs o.bc o.K HO3.out)
                    clear hu hun huk hb3 hY hs1 hs3 HU HFi HB13 o0 o1 o2 o3 o4 o5 o6 ol
                    have o0 := HX3.out.cell 0
                    have o1 := HX3.out.cell 1
                    have o2 := HX3.out.cell 2
                    have o3 := HX3.out.cell 3
                    have o4 := HX3.out.cell 4
                    have o5 := HX3.out.cell 5
                    have o6 := HX3.out.cell 6
                    have ol := HX3.out.lt
                    simp at o0 o1 o2 o3 o4 o5 o6
                    go_wp2_with fail
                    refine HDo.out.mono ?_
                    rintro e w4 ⟨rfl, hm4, hf4⟩
                    have HM4 := hid hm4
                    have HFr4 : Hid (Fr Z w w4) := HFr3.out.trans (hf4.less HYZ.out)
                    have HU4 : Hid (LT.In elF w4 Y u) := HUY.out.kept hf4.size fun b hy hl => hf4.block b hl fun e => e hy
                    have HX4 := hid (HX3.out.kept (hf4.block _ HX3.out.lt fun e => e HXY.out))
                    have HO4 := hid (HO3.out.fr hf4)
                    clear hm4 hf4 HDo o0 o1 o2 o3 o4 o5 o6 ol
                    rw [HI.out.1]
                    have o0 := HX4.out.cell 0
                    have o1 := HX4.out.cell 1
                    have o2 := HX4.out.cell 2
                    have o3 := HX4.out.cell 3
                    have o4 := HX4.out.cell 4
                    have o5 := HX4.out.cell 5
                    have o6 := HX4.out.cell 6
                    have ol := HX4.out.lt
                    simp at o0 o1 o2 o3 o4 o5 o6
                    go_upto_region 28 with fail
                    clear o0 o1 o2 o3 o4 o5 o6 ol
                    have HFa := hid (ds_files HM4.out)
                    go_wp2_with fail
                    refine HFa.out.mono ?_
                    rintro e w6 ⟨u6, rfl, hu6, hun6, huk6, hb6⟩
                    rw [HI.out.2.1] at hun6 huk6
                    have HSa := hid (alike_files hun6 huk6 HUk.out.1 HUk.out.2)
                    have HAl := hid (alike_yes u6 u w6 _ _ hu6 (HU4.out.kept hb6.size fun b _ hl => hb6.block b hl) HSa.out.1 HSa.out.2)
                    have HB6 := hid hb6
                    clear hu6 hun6 huk6 hb6 HFa HSa
                    go_wp2_with fail
                    refine HAl.out.mono ?_
                    rintro e w8 ⟨rfl, hb8⟩
                    have HB8 : Hid (Below w4.heap.size w4 w8) := HB6.out.trans (hb8.mono HB6.out.size)
                    have HMe : Hid (Ds w8 Z [(db, doesK A o.kind o.name o.n o.after o.zs o.K), (pl, B)]) := (HM4.out.bel HB8.out).less HYZ.out
                    have HFe : Hid (Fr Z w w8) := HFr4.out.trans (Fr.of HB8.out)
                    clear hb8 HAl HB6 HB8
                    go_wp2
                    go_roundw
                    case rel => exact ⟨i + 1, (dn + 1), by omega, by omega, by go_num, by go_num, ⟨_, _, HMe.out, HI.out.2.2⟩, HFe.out⟩
                    case measure => simp [intOf]; omega
                  · as_aux_lemma =>
                    have HI := hid (HIv.out.good o.name o.n o.after o.zs o.K hkd hnb fun e => hc2 e.2)
                    have HFi := hid (ds_files (HM.out.bel HB1.out))
                    go_upto_region 25 with fail
                    go_wp2_with fail
                    refine HFi.out.mono ?_
                    rintro e w3 ⟨u, rfl, hu, hun, huk, hb3⟩
                    have HU := hid hu
                    have HUk := hid (And.intro hun huk)
                    have HB13 : Hid (Below wr.heap.size wr w3) := HB1.out.trans (hb3.mono HB1.out.size)
                    have HX3 := hid (HX1.out.below hb3)
                    have hs1 : wr.heap.size < w2'.heap.size := HX1.out.lt
                    have hs3 := hb3.size
                    obtain ⟨Y, hY⟩ : ∃ Y : Nat → Prop, Y = fun k => Z k ∨ (wr.heap.size ≤ k ∧ k < w3.heap.size) := ⟨_, rfl⟩
                    have HYZ : Hid (∀ k, Z k → Y k) := by intro k hk; rw [hY]; exact .inl hk
                    have HYn : Hid (∀ k, wr.heap.size ≤ k → k < w3.heap.size → Y k) := by intro k h1 h2; rw [hY]; exact .inr ⟨h1, h2⟩
                    have HM3 : Hid (Ds w3 Y [(db, A), (pl, B)]) := by show Ds _ _ _; rw [hY]; exact HM.out.more HB13.out
                    have HO3 : Hid (OpI w3 Y o.name o.n o.after o.bp o.zs o.bc o.K) := (HO.out.fr (Fr.of HB13.out)).mono HYZ.out
                    have HFr3 : Hid (Fr Z w w3) := HF.out.trans (Fr.of HB13.out)
                    have HUY : Hid (LT.In elF w3 Y u) := HU.out.mono fun k hk hl => HYn.out k (by omega) hl
                    have HXY : Hid (Y wr.heap.size) := HYn.out _ (Nat.le_refl _) (by omega)
                    have HDo := hid (ds_does HM3.out o.kind o.which o.name o.n o.after o.bp o.zs o.bc o.K HO3.out)
                    clear hu hun huk hb3 hY hs1 hs3 HU HFi HB13 o0 o1 o2 o3 o4 o5 o6 ol
                    have o0 := HX3.out.cell 0
                    have o1 := HX3.out.cell 1
                    have o2 := HX3.out.cell 2
                    have o3 := HX3.out.cell 3
                    have o4 := HX3.out.cell 4
                    have o5 := HX3.out.cell 5
                    have o6 := HX3.out.cell 6
                    have ol := HX3.out.lt
                    simp at o0 o1 o2 o3 o4 o5 o6
                    go_wp2_with fail
                    refine HDo.out.mono ?_
                    rintro e w4 ⟨rfl, hm4, hf4⟩
                    have HM4 := hid hm4
                    have HFr4 : Hid (Fr Z w w4) := HFr3.out.trans (hf4.less HYZ.out)
                    have HU4 : Hid (LT.In elF w4 Y u) := HUY.out.kept hf4.size fun b hy hl => hf4.block b hl fun e => e hy
                    have HX4 := hid (HX3.out.kept (hf4.block _ HX3.out.lt fun e => e HXY.out))
                    have HO4 := hid (HO3.out.fr hf4)
                    clear hm4 hf4 HDo o0 o1 o2 o3 o4 o5 o6 ol
                    obtain ⟨x, hx⟩ : ∃ x, x = doesE A o.kind o.name o.n o.zs.length := ⟨_, rfl⟩
                    rw [← hx]
                    have HXe := hid hx
                    clear hx
                    have o0 := HX4.out.cell 0
                    have o1 := HX4.out.cell 1
                    have o2 := HX4.out.cell 2
                    have o3 := HX4.out.cell 3
                    have o4 := HX4.out.cell 4
                    have o5 := HX4.out.cell 5
                    have o6 := HX4.out.cell 6
                    have ol := HX4.out.lt
                    simp at o0 o1 o2 o3 o4 o5 o6
                    go_upto_region 27 with fail
                    have HD2 := hid (ds_does HM4.out.swap o.kind o.which o.name o.n o.after o.bp o.zs o.bc o.K HO4.out)
                    go_wp2_with fail
                    refine HD2.out.mono ?_
                    rintro e w5 ⟨rfl, hm5, hf5⟩
                    rw [← HI.out.1, ← HXe.out]
                    have HM5 := hid hm5.swap
                    have HFr5 : Hid (Fr Z w w5) := HFr4.out.trans (hf5.less HYZ.out)
                    clear hm5 hf5 HD2 HXe o0 o1 o2 o3 o4 o5 o6 ol
                    have HFa := hid (ds_files HM5.out)
                    go_wp2_with fail
                    refine HFa.out.mono ?_
                    rintro e w6 ⟨u6, rfl, hu6, hun6, huk6, hb6⟩
                    have HU6 := hid hu6
                    have HUk6 := hid (And.intro hun6 huk6)
                    have HB6 := hid hb6
                    have HFb := hid (ds_files (HM5.out.bel hb6).swap)
                    clear hu6 hun6 huk6 hb6 HFa
                    go_wp2_with fail
                    refine HFb.out.mono ?_
                    rintro e w7 ⟨v7, rfl, hv7, hvn7, hvk7, hb7⟩
                    rw [← HI.out.2.ks] at hvn7 hvk7
                    have HSa := hid (alike_files HUk6.out.1 HUk6.out.2 hvn7 hvk7)
                    have HAl := hid (alike_yes u6 v7 w7 _ _ (HU6.out.below hb7) hv7 HSa.out.1 HSa.out.2)
                    have HB57 : Hid (Below w5.heap.size w5 w7) := HB6.out.trans (hb7.mono HB6.out.size)
                    clear hv7 hvn7 hvk7 hb7 HFb HU6 HUk6 HB6 HSa
                    go_wp2_with fail
                    refine HAl.out.mono ?_
                    rintro e w8 ⟨rfl, hb8⟩
                    have HB8 : Hid (Below w5.heap.size w5 w8) := HB57.out.trans (hb8.mono HB57.out.size)
                    have HMe : Hid (Ds w8 Z [(db, doesK A o.kind o.name o.n o.after o.zs o.K), (pl, doesK B o.kind o.name o.n o.after o.zs o.K)]) := (HM5.out.bel HB8.out).less HYZ.out
                    have HFe : Hid (Fr Z w w8) := HFr5.out.trans (Fr.of HB8.out)
                    clear hb8 HAl HB57 HB8 HM5 HFr5
                    go_wp2
                    go_roundw
                    case rel => exact ⟨i + 1, (dn + 1), by omega, by omega, by go_num, by go_num, ⟨_, _, HMe.out, HI.out.2⟩, HFe.out⟩
                    case measure => simp [intOf]; omega
                · as_aux_lemma =>
                  have HI := hid (HIv.out.good o.name o.n o.after o.zs o.K hkd hnb fun e => hc1 e.1)
                  have HFi := hid (ds_files (HM.out.bel HB1.out))
                  go_upto_region 25 with fail
                  go_wp2_with fail
                  refine HFi.out.mono ?_
                  rintro e w3 ⟨u, rfl, hu, hun, huk, hb3⟩
                  have HU := hid hu
                  have HUk := hid (And.intro hun huk)
                  have HB13 : Hid (Below wr.heap.size wr w3) := HB1.out.trans (hb3.mono HB1.out.size)
                  have HX3 := hid (HX1.out.below hb3)
                  have hs1 : wr.heap.size < w2'.heap.size := HX1.out.lt
                  have hs3 := hb3.size
                  obtain ⟨Y, hY⟩ : ∃ Y : Nat → Prop, Y = fun k => Z k ∨ (wr.heap.size ≤ k ∧ k < w3.heap.size) := ⟨_, rfl⟩
                  have HYZ : Hid (∀ k, Z k → Y k) := by intro k hk; rw [hY]; exact .inl hk
                  have HYn : Hid (∀ k, wr.heap.size ≤ k → k < w3.heap.size → Y k) := by intro k h1 h2; rw [hY]; exact .inr ⟨h1, h2⟩
                  have HM3 : Hid (Ds w3 Y [(db, A), (pl, B)]) := by show Ds _ _ _; rw [hY]; exact HM.out.more HB13.out
                  have HO3 : Hid (OpI w3 Y o.name o.n o.after o.bp o.zs o.bc o.K) := (HO.out.fr (Fr.of HB13.out)).mono HYZ.out
                  have HFr3 : Hid (Fr Z w w3) := HF.out.trans (Fr.of HB13.out)
                  have HUY : Hid (LT.In elF w3 Y u) := HU.out.mono fun k hk hl => HYn.out k (by omega) hl
                  have HXY : Hid (Y wr.heap.size) := HYn.out _ (Nat.le_refl _) (by omega)
                  have HDo := hid (ds_does HM3.out o.kind o.which o.name o.n o.after o.bp o.zs o.bc o.K HO3.out)
                  clear hu hun huk hb3 hY hs1 hs3 HU HFi HB13 o0 o1 o2 o3 o4 o5 o6 ol
                  have o0 := HX3.out.cell 0
                  have o1 := HX3.out.cell 1
                  have o2 := HX3.out.cell 2
                  have o3 := HX3.out.cell 3
                  have o4 := HX3.out.cell 4
                  have o5 := HX3.out.cell 5
                  have o6 := HX3.out.cell 6
                  have ol := HX3.out.lt
                  simp at o0 o1 o2 o3 o4 o5 o6
                  go_wp2_with fail
                  refine HDo.out.mono ?_
                  rintro e w4 ⟨rfl, hm4, hf4⟩
                  have HM4 := hid hm4
                  have HFr4 : Hid (Fr Z w w4) := HFr3.out.trans (hf4.less HYZ.out)
                  have HU4 : Hid (LT.In elF w4 Y u) := HUY.out.kept hf4.size fun b hy hl => hf4.block b hl fun e => e hy
                  have HX4 := hid (HX3.out.kept (hf4.block _ HX3.out.lt fun e => e HXY.out))
                  have HO4 := hid (HO3.out.fr hf4)
                  clear hm4 hf4 HDo o0 o1 o2 o3 o4 o5 o6 ol
                  obtain ⟨x, hx⟩ : ∃ x, x = doesE A o.kind o.name o.n o.zs.length := ⟨_, rfl⟩
                  rw [← hx]
                  have HXe := hid hx
                  clear hx
                  have o0 := HX4.out.cell 0
                  have o1 := HX4.out.cell 1
                  have o2 := HX4.out.cell 2
                  have o3 := HX4.out.cell 3
                  have o4 := HX4.out.cell 4
                  have o5 := HX4.out.cell 5
                  have o6 := HX4.out.cell 6
                  have ol := HX4.out.lt
                  simp at o0 o1 o2 o3 o4 o5 o6
                  go_upto_region 27 with fail
                  have HD2 := hid (ds_does HM4.out.swap o.kind o.which o.name o.n o.after o.bp o.zs o.bc o.K HO4.out)
                  go_wp2_with fail
                  refine HD2.out.mono ?_
                  rintro e w5 ⟨rfl, hm5, hf5⟩
                  rw [← HI.out.1, ← HXe.out]
                  have HM5 := hid hm5.swap
                  have HFr5 : Hid (Fr Z w w5) := HFr4.out.trans (hf5.less HYZ.out)
                  clear hm5 hf5 HD2 HXe o0 o1 o2 o3 o4 o5 o6 ol
                  have HFa := hid (ds_files HM5.out)
                  go_wp2_with fail
                  refine HFa.out.mono ?_
                  rintro e w6 ⟨u6, rfl, hu6, hun6, huk6, hb6⟩
                  have HU6 := hid hu6
                  have HUk6 := hid (And.intro hun6 huk6)
                  have HB6 := hid hb6
                  have HFb := hid (ds_files (HM5.out.bel hb6).swap)
                  clear hu6 hun6 huk6 hb6 HFa
                  go_wp2_with fail
                  refine HFb.out.mono ?_
                  rintro e w7 ⟨v7, rfl, hv7, hvn7, hvk7, hb7⟩
                  rw [← HI.out.2.ks] at hvn7 hvk7
                  have HSa := hid (alike_files HUk6.out.1 HUk6.out.2 hvn7 hvk7)
                  have HAl := hid (alike_yes u6 v7 w7 _ _ (HU6.out.below hb7) hv7 HSa.out.1 HSa.out.2)
                  have HB57 : Hid (Below w5.heap.size w5 w7) := HB6.out.trans (hb7.mono HB6.out.size)
                  clear hv7 hvn7 hvk7 hb7 HFb HU6 HUk6 HB6 HSa
                  go_wp2_with fail
                  refine HAl.out.mono ?_
                  rintro e w8 ⟨rfl, hb8⟩
                  have HB8 : Hid (Below w5.heap.size w5 w8) := HB57.out.trans (hb8.mono HB57.out.size)
                  have HMe : Hid (Ds w8 Z [(db, doesK A o.kind o.name o.n o.after o.zs o.K), (pl, doesK B o.kind o.name o.n o.after o.zs o.K)]) := (HM5.out.bel HB8.out).less HYZ.out
                  have HFe : Hid (Fr Z w w8) := HFr5.out.trans (Fr.of HB8.out)
                  clear hb8 HAl HB57 HB8 HM5 HFr5
                  go_wp2
                  go_roundw
                  case rel => exact ⟨i + 1, (dn + 1), by omega, by omega, by go_num, by go_num, ⟨_, _, HMe.out, HI.out.2⟩, HFe.out⟩
                  case measure => simp [intOf]; omega
            · as_aux_lemma =>
              have hlt' : ¬ (i : Int) < (P.n : Int) := by omega
              go_wp2
              exact bodyPost_ret (v := .bool true) (by simp [results, Tryd.results6, go_sem]) rfl (⟨rfl, HLo.out _ HF.out⟩)
end Go.Proofs.YtkfcilandmhomaaDoor
