import Derived.Test.YtkfcilandmhomaaDoorFdO
namespace Go.Proofs.YtkfcilandmhomaaDoor
open Go.RowKit
set_option maxRecDepth 8000
theorem alike_files {A : AK} {u v : LT FA} (hun : u.n = A.ks.length) (huk : ∀ j k, A.ks[j]? = some k → (u.item j).key = k) (hvn : v.n = A.ks.length) (hvk : ∀ j k, A.ks[j]? = some k → (v.item j).key = k) : v.n = u.n ∧ ∀ j, j < u.n → (v.item j).key = (u.item j).key := by
  refine ⟨hvn.trans hun.symm, fun j hj => ?_⟩
  have h1 : A.ks[j]? = some (A.ks[j]'(by omega)) := List.getElem?_eq_getElem _
  rw [huk j _ h1, hvk j _ h1]
theorem Ds.readB {w : World} {Z : Nat → Prop} {d : Nat} {A : AK} {l : List (Nat × AK)} (h : Ds w Z ((d, A) :: l)) (s : ByteArray) : (∀ z ∈ readK A s, 0 ≤ z ∧ z ≤ 255) ∧ (readK A s).length ≤ 140737488355328 := by
  obtain ⟨D, C, hI, hr, -, -⟩ := h
  unfold readK
  split
  · cases hk : lkK A s with
    | none => exact ⟨fun z hz => by simp at hz, by simp⟩
    | some k =>
      have hm : k ∈ A.ks := List.mem_of_find?_eq_some hk
      obtain ⟨f, hf, rfl⟩ := List.mem_map.1 (hr.pm.mem_iff.2 hm)
      have hF := hI.each f hf
      exact ⟨fun z hz => hF.by_ z hz, by have := hF.le; show f.zs.length ≤ _; omega⟩
  · exact ⟨fun z hz => by simp at hz, by simp⟩
theorem Byts.below {w w' : World} {S : Nat → Prop} {p : Option Addr} {n c : Nat} {f : Nat → Int} (h : Byts w S p n c f) (hb : Below w.heap.size w w') : Byts w' S p n c f := h.kept hb.size fun b _ hl => hb.block b hl
set_option maxHeartbeats 16000000 in
theorem diskWhole_walk (P : LT OpD) (K : LT Int) (T : LT OpD) (w : World) (hP : LT.In elD w (fun b => b < w.heap.size) P) (hK : LT.In elInt w (fun b => b < w.heap.size) K) (hT : LT.In elD w (fun b => b < w.heap.size) T) :
    Calls Tryd.prog 4 #[.slice P.p P.n P.c, .slice K.p K.n K.c, .slice T.p T.n T.c] w fun e w' => e = .returned (.bool true) ∧ Below w.heap.size w w' := by
  obtain ⟨Z, hZ⟩ : ∃ Z : Nat → Prop, Z = fun k => k < w.heap.size := ⟨_, rfl⟩
  have HZP : Hid (LT.In elD w Z P) := by show LT.In _ _ _ _; rw [hZ]; exact hP
  have HZT : Hid (LT.In elD w Z T) := by show LT.In _ _ _ _; rw [hZ]; exact hT
  have HZK : Hid (LT.In elInt w Z K) := by show LT.In _ _ _ _; rw [hZ]; exact hK
  have HLo : Hid (∀ W, Fr Z w W → Below w.heap.size w W) := by intro W h; rw [hZ] at h; exact fr_below h
  have HZl : Hid (∀ k, Z k → k < w.heap.size) := by intro k hk; rw [hZ] at hk; exact hk
  have HP := hid hP
  have HT := hid hT
  have hpn := hP.nn
  have htn := hT.nn
  have HFt := hid (fits_nil P w _ hP)
  clear hP hT hK hZ
  go_enter Tryd.func4, Tryd.ntmps4
  go_wp2_with fail
  refine HFt.out.mono ?_
  rintro e w0 ⟨q, rfl, hb0, hq⟩
  have HB0 := hid hb0
  clear hb0 HFt
  cases q with
  | false =>
    go_wp2
    exact bodyPost_ret (v := .bool true) (by simp [results, Tryd.results4, go_sem]) rfl (⟨rfl, HB0.out⟩)
  | true =>
    obtain ⟨hp4, hzP⟩ := hq rfl
    have HzP := hid hzP
    have HFu := hid (fits_nil T w0 _ (HT.out.below HB0.out))
    clear hq hzP
    go_wp2_with fail
    refine HFu.out.mono ?_
    rintro e w0' ⟨q', rfl, hb0', hq'⟩
    have HB0' : Hid (Below w.heap.size w w0') := HB0.out.trans (hb0'.mono HB0.out.size)
    clear hb0' HFu
    cases q' with
    | false =>
      go_wp2
      exact bodyPost_ret (v := .bool true) (by simp [results, Tryd.results4, go_sem]) rfl (⟨rfl, HB0'.out⟩)
    | true =>
      obtain ⟨ht4, hzT⟩ := hq' rfl
      have HzT := hid hzT
      clear hq' hzT
      have HNw := hid (ds_nil (w := w0') (Z := Z) (l := []) fun k hk => Nat.lt_of_lt_of_le (HZl.out k hk) HB0'.out.size)
      go_wp2_with fail
      refine HNw.out.mono ?_
      rintro e w1 ⟨db, rfl, hm1, hb1⟩
      have HWk := hid (ds_works hm1)
      have HN1 := hid (num_any 0 w1)
      have HF1 : Hid (Fr Z w w1) := Fr.of (HB0'.out.trans (hb1.mono HB0'.out.size))
      clear hm1 hb1 HNw
      go_wp2_with fail
      refine HN1.out.mono ?_
      rintro e w1' ⟨rfl, rfl⟩
      clear HN1
      go_wp2_with fail
      refine HWk.out.mono ?_
      rintro e w2 ⟨rfl, hm2, hf2⟩
      have HF2 : Hid (Fr Z w w2) := HF1.out.trans hf2
      have HS2 : Hid (∃ A : AK, Ds w2 Z [(db, A)]) := ⟨A0, hm2⟩
      clear hm2 hf2 HWk HF1
      go_wp2_with fail
      go_loopw [9] (fun x wr => ∃ i : Nat, i ≤ P.n ∧ x = .int .i64 (i : Int) ∧ (∃ A : AK, Ds wr Z [(db, A)]) ∧ Fr Z w wr) (fun x _ => P.n - (intOf x).toNat)
      case atStart => exact ⟨0, Nat.zero_le _, rfl, HS2.out, HF2.out⟩
      case round =>
        obtain ⟨i, hi, rfl, ⟨A, hM⟩, hf⟩ := hrel
        have HM := hid hM
        have HF := hid hf
        clear hM hf HS2 HF2
        by_cases hlt : i < P.n
        · as_aux_lemma =>
          have hlt' : (i : Int) < (P.n : Int) := by omega
          obtain ⟨bb, bo, hp, _, hbb, hat⟩ := HP.out.at_ (by omega)
          rw [hp]
          obtain ⟨o, ho⟩ : ∃ o, o = P.item i := ⟨_, rfl⟩
          have hce : ∀ r u, (elD.cells o)[r]? = some u → wr.cell? ⟨bb, bo + i * 7 + r, none⟩ = some u := fun r u hu => (World.cell?_of_block (a := ⟨bb, bo + i * 7 + r, none⟩) ((HLo.out wr HF.out).block bb hbb)).trans (hat i hlt r u (by rw [← ho]; exact hu))
          have c0 : wr.cell? ⟨bb, bo + i * 7, none⟩ = some (.int .i64 o.kind) := hce 0 _ rfl
          have c1 : wr.cell? ⟨bb, bo + i * 7 + 1, none⟩ = some (.int .i64 o.which) := hce 1 _ rfl
          have c2 : wr.cell? ⟨bb, bo + i * 7 + 2, none⟩ = some (.string o.name) := hce 2 _ rfl
          have c3 : wr.cell? ⟨bb, bo + i * 7 + 3, none⟩ = some (.int .i64 o.n) := hce 3 _ rfl
          have c4 : wr.cell? ⟨bb, bo + i * 7 + 4, none⟩ = some (.int .i64 o.after) := hce 4 _ rfl
          have c5 : wr.cell? ⟨bb, bo + i * 7 + 5, none⟩ = some (.slice o.bp o.zs.length o.bc) := hce 5 _ rfl
          have c6 : wr.cell? ⟨bb, bo + i * 7 + 6, none⟩ = some (.slice o.K.p o.K.n o.K.c) := hce 6 _ rfl
          have HO0 : Hid (OpI w Z o.name o.n o.after o.bp o.zs o.bc o.K) := by show OpI _ _ _ _ _ _ _ _ _; rw [ho]; exact op_in (HZP.out.each i hlt) (HzP.out i hlt)
          have HO : Hid (OpI wr Z o.name o.n o.after o.bp o.zs o.bc o.K) := HO0.out.fr HF.out
          clear hce hat ho HO0
          have HDo := hid (ds_does HM.out o.kind o.which o.name o.n o.after o.bp o.zs o.bc o.K HO.out)
          go_wp2_with fail
          refine HDo.out.mono ?_
          rintro e w3 ⟨rfl, hm3, hf3⟩
          have HM3 := hid hm3
          have HF3 : Hid (Fr Z w w3) := HF.out.trans hf3
          clear hm3 hf3 HDo c0 c1 c2 c3 c4 c5 c6
          go_wp2
          go_roundw
          case rel => exact ⟨i + 1, by omega, by go_num, ⟨_, HM3.out⟩, HF3.out⟩
          case measure => simp [intOf]; omega
        · as_aux_lemma =>
          have hlt' : ¬ (i : Int) < (P.n : Int) := by omega
          have HRs := hid (ds_restart HM.out K (HZK.out.kept (HLo.out wr HF.out).size fun b hb hl => (HLo.out wr HF.out).block b hl))
          go_upto_region 10 with fail
          go_wp2_with fail
          refine HRs.out.mono ?_
          rintro e w3 ⟨rfl, hm3, hf3⟩
          have HM3 : Hid (Ds w3 Z [(db, ⟨(rstK A K).ks, false, -1, 0, 0⟩)]) := hm3.rel fun D h => h.aft rfl 0
          have HF3 : Hid (Fr Z w w3) := HF.out.trans hf3
          have HFi := hid (ds_files HM3.out)
          clear hm3 hf3 HRs
          go_upto_region 11 with fail
          go_wp2_with fail
          refine HFi.out.mono ?_
          rintro e w4 ⟨u, rfl, hu, hun, huk, hb4⟩
          have HM4 := hid (HM3.out.bel hb4)
          have HF4 : Hid (Fr Z w w4) := HF3.out.trans (Fr.of hb4)
          have HNb := hid (HM3.out.files_new hun huk)
          have HNw := hid (ds_new HM4.out u (hu.mono fun k _ hl => hl))
          clear hu hun huk hb4 HFi
          go_wp2_with fail
          refine HNw.out.mono ?_
          rintro e w5 ⟨hb5, -, h5⟩
          obtain ⟨tw, rfl, hm5⟩ := h5 HNb.out.1
          rw [HNb.out.2] at hm5
          have HF9 : Hid (Fr Z w w5) := HF4.out.trans (Fr.of hb5)
          have HS9 : Hid (∃ A : AK, Ds w5 Z [(db, A), (tw, A)]) := ⟨_, hm5.swap⟩
          have HN5 := hid (num_any 0 w5)
          clear h5 hb5 hm5 HNw HM4 HF4
          go_upto_region 12 with fail
          go_wp2_with fail
          refine HN5.out.mono ?_
          rintro e w5' ⟨rfl, rfl⟩
          clear HN5
          go_wp2_with fail
          go_loopw [12] (fun x wr => ∃ i : Nat, i ≤ T.n ∧ x = .int .i64 (i : Int) ∧ (∃ A : AK, Ds wr Z [(db, A), (tw, A)]) ∧ Fr Z w wr) (fun x _ => T.n - (intOf x).toNat)
          case atStart => exact ⟨0, Nat.zero_le _, rfl, HS9.out, HF9.out⟩
          case round =>
            obtain ⟨i, hi, rfl, ⟨A, hM⟩, hf⟩ := hrel
            have HM := hid hM
            have HF := hid hf
            clear hM hf HS9 HF9
            by_cases hlt : i < T.n
            · as_aux_lemma =>
              have hlt' : (i : Int) < (T.n : Int) := by omega
              obtain ⟨bb, bo, hp, _, hbb, hat⟩ := HT.out.at_ (by omega)
              rw [hp]
              obtain ⟨o, ho⟩ : ∃ o, o = T.item i := ⟨_, rfl⟩
              have hce : ∀ r u, (elD.cells o)[r]? = some u → wr.cell? ⟨bb, bo + i * 7 + r, none⟩ = some u := fun r u hu => (World.cell?_of_block (a := ⟨bb, bo + i * 7 + r, none⟩) ((HLo.out wr HF.out).block bb hbb)).trans (hat i hlt r u (by rw [← ho]; exact hu))
              have c0 : wr.cell? ⟨bb, bo + i * 7, none⟩ = some (.int .i64 o.kind) := hce 0 _ rfl
              have c1 : wr.cell? ⟨bb, bo + i * 7 + 1, none⟩ = some (.int .i64 o.which) := hce 1 _ rfl
              have c2 : wr.cell? ⟨bb, bo + i * 7 + 2, none⟩ = some (.string o.name) := hce 2 _ rfl
              have c3 : wr.cell? ⟨bb, bo + i * 7 + 3, none⟩ = some (.int .i64 o.n) := hce 3 _ rfl
              have c4 : wr.cell? ⟨bb, bo + i * 7 + 4, none⟩ = some (.int .i64 o.after) := hce 4 _ rfl
              have c5 : wr.cell? ⟨bb, bo + i * 7 + 5, none⟩ = some (.slice o.bp o.zs.length o.bc) := hce 5 _ rfl
              have c6 : wr.cell? ⟨bb, bo + i * 7 + 6, none⟩ = some (.slice o.K.p o.K.n o.K.c) := hce 6 _ rfl
              have HO0 : Hid (OpI w Z o.name o.n o.after o.bp o.zs o.bc o.K) := by show OpI _ _ _ _ _ _ _ _ _; rw [ho]; exact op_in (HZT.out.each i hlt) (HzT.out i hlt)
              have HO : Hid (OpI wr Z o.name o.n o.after o.bp o.zs o.bc o.K) := HO0.out.fr HF.out
              clear hce hat ho HO0
              obtain ⟨V1, hV1⟩ : ∃ V, V = wr.alloc (.cells #[.int .i64 o.kind, .int .i64 o.which, .string o.name, .int .i64 o.n, .int .i64 o.after, .slice o.bp o.zs.length o.bc, .slice o.K.p o.K.n o.K.c] 33) := ⟨_, rfl⟩
              have HB1 : Hid (Below wr.heap.size wr V1) := by show Below _ _ _; rw [hV1]; exact (Below.refl _ _).alloc (Nat.le_refl _) _
              have HX1 : Hid (Box V1 wr.heap.size #[.int .i64 o.kind, .int .i64 o.which, .string o.name, .int .i64 o.n, .int .i64 o.after, .slice o.bp o.zs.length o.bc, .slice o.K.p o.K.n o.K.c] 33) := by show Box _ _ _ _; rw [hV1]; exact Box.new _ _ _
              have HV1 := hid hV1
              clear hV1
              have HFV : Hid (Fr Z w V1) := HF.out.trans (Fr.of HB1.out)
              obtain ⟨Y, hY⟩ : ∃ Y : Nat → Prop, Y = fun k => Z k ∨ (wr.heap.size ≤ k ∧ k < V1.heap.size) := ⟨_, rfl⟩
              have HYZ : Hid (∀ k, Z k → Y k) := by intro k hk; rw [hY]; exact .inl hk
              have HXY : Hid (Y wr.heap.size) := by show Y _; rw [hY]; exact .inr ⟨Nat.le_refl _, HX1.out.lt⟩
              have HMY : Hid (Ds V1 Y [(db, A), (tw, A)]) := by show Ds _ _ _; rw [hY]; exact HM.out.more HB1.out
              have HOY : Hid (OpI V1 Y o.name o.n o.after o.bp o.zs o.bc o.K) := (HO.out.fr (Fr.of HB1.out)).mono HYZ.out
              have HD1 := hid (ds_does (HMY.out.bel (Below.refl _ _).drew) o.kind o.which o.name o.n o.after o.bp o.zs o.bc o.K (HOY.out.fr (Fr.of (Below.refl _ _).drew)))
              clear hY
              have HLd : Hid (∀ wx, Fr Y V1 wx → wx.cell? ⟨wr.heap.size, 0, none⟩ = some (.int .i64 o.kind) ∧ wx.cell? ⟨wr.heap.size, 1, none⟩ = some (.int .i64 o.which) ∧ wx.cell? ⟨wr.heap.size, 2, none⟩ = some (.string o.name) ∧ wx.cell? ⟨wr.heap.size, 3, none⟩ = some (.int .i64 o.n) ∧ wx.cell? ⟨wr.heap.size, 4, none⟩ = some (.int .i64 o.after) ∧ wx.cell? ⟨wr.heap.size, 5, none⟩ = some (.slice o.bp o.zs.length o.bc) ∧ wx.cell? ⟨wr.heap.size, 6, none⟩ = some (.slice o.K.p o.K.n o.K.c)) := by
                intro wx hx
                have hb := HX1.out.kept (hx.block _ HX1.out.lt fun e => e HXY.out)
                exact ⟨hb.cell 0, hb.cell 1, hb.cell 2, hb.cell 3, hb.cell 4, hb.cell 5, hb.cell 6⟩
              go_upto_region 18 with fail
              rw [← HV1.out]
              clear c0 c1 c2 c3 c4 c5 c6
              refine wp_region_calmE 30 (fun wx => Fr Y V1 wx) [(0, true), (1, false), (3, true), (4, false)] (.one 2 true [] (.one 5 true [(6, true)] .done)) (by kernel_rfl) (by kernel_rfl) (Fr.of (Below.refl _ _).drew) ?_
              refine wpPre_e rfl rfl (fun K1 hK1 => ?_)
              apply Exists.intro
              refine And.intro (fun wx hx => ?_) ?_
              · go_simp
                try rfl
              go_simp
              refine hK1 _ ?_
              clear hK1 K1
              refine wpPre_e rfl rfl (fun K1 hK1 => ?_)
              apply Exists.intro
              refine And.intro (fun wx hx => ?_) ?_
              · have e0 := HLd.out wx (hx.resolve_left (by simp))
                obtain ⟨e0, e1, e2, e3, e4, e5, e6⟩ := e0
                go_simp
                try rfl
              go_simp
              refine hK1 _ ?_
              clear hK1 K1
              refine wpPre_e rfl rfl (fun K1 hK1 => ?_)
              apply Exists.intro
              refine And.intro (fun wx hx => ?_) ?_
              · go_simp
                try rfl
              go_simp
              refine hK1 _ ?_
              clear hK1 K1
              refine wpPre_e rfl rfl (fun K1 hK1 => ?_)
              apply Exists.intro
              refine And.intro (fun wx hx => ?_) ?_
              · have e0 := HLd.out wx (hx.resolve_left (by simp))
                obtain ⟨e0, e1, e2, e3, e4, e5, e6⟩ := e0
                go_simp
                try rfl
              go_simp
              refine hK1 _ ?_
              clear hK1 K1
              refine wpPre_nil ?_
              refine wpTr_e rfl (fun K1 hK1 => ?_)
              refine step_callG (by first | rfl | go_simp) 11 #[.tmp 76, .tmp 77] _ rfl Tryd.f11 Tryd.func11 (by kernel_rfl) rfl #[.pointer (some ⟨db, 0, none⟩), .agg #[.int .i64 o.kind, .int .i64 o.which, .string o.name, .int .i64 o.n, .int .i64 o.after, .slice o.bp o.zs.length o.bc, .slice o.K.p o.K.n o.K.c]] rfl _ (HD1.out) ?_
              rintro e_ w4 ⟨rfl, hm4, hf4⟩
              refine ⟨_, rfl, ?_⟩
              have HF4 : Hid (Fr Y V1 w4) := (Fr.of (Below.refl _ _).drew).trans hf4
              have HM4 := hid hm4
              clear hm4 hf4
              go_simp
              refine hK1 _ _ (fun _ => HF4.out) ?_
              clear hK1 K1
              refine wpPre_nil ?_
              refine wpTr_e rfl (fun K1 hK1 => ?_)
              have HD2 := hid (ds_does HM4.out.swap o.kind o.which o.name o.n o.after o.bp o.zs o.bc o.K (HOY.out.fr HF4.out))
              refine step_callG (by first | rfl | go_simp) 11 #[.tmp 79, .tmp 80] _ rfl Tryd.f11 Tryd.func11 (by kernel_rfl) rfl #[.pointer (some ⟨tw, 0, none⟩), .agg #[.int .i64 o.kind, .int .i64 o.which, .string o.name, .int .i64 o.n, .int .i64 o.after, .slice o.bp o.zs.length o.bc, .slice o.K.p o.K.n o.K.c]] rfl _ (HD2.out) ?_
              rintro e_ w5 ⟨rfl, hm5, hf5⟩
              refine ⟨_, rfl, ?_⟩
              have HF5 : Hid (Fr Y V1 w5) := HF4.out.trans hf5
              have HM5 := hid hm5.swap
              clear hm5 hf5
              go_simp
              refine hK1 _ _ (fun _ => HF5.out) ?_
              clear hK1 K1
              refine wpPre_e rfl rfl (fun K1 hK1 => ?_)
              apply Exists.intro
              refine And.intro (fun wx hx => ?_) ?_
              · go_simp
                try rfl
              go_simp
              refine hK1 _ ?_
              clear hK1 K1
              refine wpPre_nil ?_
              refine wpTr_done ?_
              clear HD1 HM4 HF4 HD2
              have HX5 := hid (HX1.out.kept (HF5.out.block _ HX1.out.lt fun e => e HXY.out))
              have o0 := HX5.out.cell 0
              have o2 := HX5.out.cell 2
              have ol := HX5.out.lt
              simp at o0 o2
              by_cases h12 : o.kind = 12
              · as_aux_lemma =>
                have h12' : (o.kind == 12) = true := by simpa using h12
                have h5' : (o.kind == 5) = false := by simp; omega
                have HFa := hid (ds_files HM5.out)
                go_wp2_with fail
                refine HFa.out.mono ?_
                rintro e w6 ⟨u, rfl, hu, hun, huk, hb6⟩
                have HU := hid hu
                have HUk := hid (And.intro hun huk)
                have HB6 := hid hb6
                have HFb := hid (ds_files (HM5.out.bel hb6).swap)
                clear hu hun huk hb6 HFa o0 o2 ol
                go_wp2_with fail
                refine HFb.out.mono ?_
                rintro e w7 ⟨v, rfl, hv, hvn, hvk, hb7⟩
                have HSa := hid (alike_files HUk.out.1 HUk.out.2 hvn hvk)
                have HAl := hid (alike_yes u v w7 _ _ (HU.out.below hb7) hv HSa.out.1 HSa.out.2)
                have HB57 : Hid (Below w5.heap.size w5 w7) := HB6.out.trans (hb7.mono HB6.out.size)
                clear hv hvn hvk hb7 HFb HU HUk HB6 HSa
                go_wp2_with fail
                refine HAl.out.mono ?_
                rintro e w8 ⟨rfl, hb8⟩
                have HB8 : Hid (Below w5.heap.size w5 w8) := HB57.out.trans (hb8.mono HB57.out.size)
                have HMe : Hid (Ds w8 Z [(db, doesK A o.kind o.name o.n o.after o.zs o.K), (tw, doesK A o.kind o.name o.n o.after o.zs o.K)]) := (HM5.out.bel HB8.out).less HYZ.out
                have HFe : Hid (Fr Z w w8) := HFV.out.trans ((HF5.out.trans (Fr.of HB8.out)).less HYZ.out)
                have HX8 := hid (HX5.out.below HB8.out)
                clear hb8 HAl HB57 HB8
                have o0 := HX8.out.cell 0
                have o2 := HX8.out.cell 2
                have ol := HX8.out.lt
                simp at o0 o2
                go_wp2
                go_roundw
                case rel => exact ⟨i + 1, by omega, by go_num, ⟨_, HMe.out⟩, HFe.out⟩
                case measure => simp [intOf]; omega
              have h12' : (o.kind == 12) = false := by simpa using h12
              by_cases h5 : o.kind = 5
              · as_aux_lemma =>
                have h5' : (o.kind == 5) = true := by simpa using h5
                have hra := ds_read HM5.out o.name HO.out.hs
                have hrb := fun (wx : World) (hx : Below w5.heap.size w5 wx) => ds_read (HM5.out.bel hx).swap o.name HO.out.hs
                have hbz := HM5.out.readB o.name
                obtain ⟨zz, hzz⟩ : ∃ zz, zz = readK (doesK A o.kind o.name o.n o.after o.zs o.K) o.name := ⟨_, rfl⟩
                obtain ⟨ra, hre⟩ : ∃ ra, ra = readA (doesK A o.kind o.name o.n o.after o.zs o.K) o.name := ⟨_, rfl⟩
                rw [← hzz, ← hre] at hra
                rw [← hzz] at hbz
                simp only [← hzz, ← hre] at hrb
                have HRa := hid hra
                have HRb0 := hid hrb
                have HBz := hid hbz
                clear hra hrb hbz hzz hre
                go_upto_region 23 with fail
                go_wp2_with fail
                refine HRa.out.mono ?_
                rintro e w6 ⟨p6, d6, rfl, hr6, hb6⟩
                have HR6 := hid hr6
                have HB6 := hid hb6
                have HX6 := hid (HX5.out.below hb6)
                have HRb := hid (HRb0.out w6 hb6)
                clear hr6 hb6 HRa o0 o2 ol
                have o0 := HX6.out.cell 0
                have o2 := HX6.out.cell 2
                have ol := HX6.out.lt
                simp at o0 o2
                go_wp2_with fail
                refine HRb.out.mono ?_
                rintro e w7 ⟨p7, d7, rfl, hr7, hb7⟩
                have HSm := hid (same_yes p6 p7 _ d6 d7 _ _ w7 _ _ ((own_byts (S := fun _ => True) HR6.out (fun _ _ => trivial) HBz.out.1 HBz.out.2).below hb7) (own_byts (S := fun _ => True) hr7 (fun _ _ => trivial) HBz.out.1 HBz.out.2) fun j _ => rfl)
                have HB57 : Hid (Below w5.heap.size w5 w7) := HB6.out.trans (hb7.mono HB6.out.size)
                clear hr7 hb7 HRb HR6 HB6 o0 o2 ol HBz
                go_wp2_with fail
                refine HSm.out.mono ?_
                rintro e w8 ⟨rfl, hb8⟩
                have HB8 : Hid (Below w5.heap.size w5 w8) := HB57.out.trans (hb8.mono HB57.out.size)
                have HMe : Hid (Ds w8 Z [(db, doesK A o.kind o.name o.n o.after o.zs o.K), (tw, doesK A o.kind o.name o.n o.after o.zs o.K)]) := (HM5.out.bel HB8.out).less HYZ.out
                have HFe : Hid (Fr Z w w8) := HFV.out.trans ((HF5.out.trans (Fr.of HB8.out)).less HYZ.out)
                clear hb8 HSm HB57 HB8
                go_wp2
                go_roundw
                case rel => exact ⟨i + 1, by omega, by go_num, ⟨_, HMe.out⟩, HFe.out⟩
                case measure => simp [intOf]; omega
              · as_aux_lemma =>
                have h5' : (o.kind == 5) = false := by simpa using h5
                have HMe : Hid (Ds w5 Z [(db, doesK A o.kind o.name o.n o.after o.zs o.K), (tw, doesK A o.kind o.name o.n o.after o.zs o.K)]) := HM5.out.less HYZ.out
                have HFe : Hid (Fr Z w w5) := HFV.out.trans (HF5.out.less HYZ.out)
                go_wp2
                go_roundw
                case rel => exact ⟨i + 1, by omega, by go_num, ⟨_, HMe.out⟩, HFe.out⟩
                case measure => simp [intOf]; omega
            · as_aux_lemma =>
              have hlt' : ¬ (i : Int) < (T.n : Int) := by omega
              have HFa := hid (ds_files HM.out)
              go_wp2_with fail
              refine HFa.out.mono ?_
              rintro e w6 ⟨u, rfl, hu, hun, huk, hb6⟩
              have HU := hid hu
              have HUk := hid (And.intro hun huk)
              have HB6 := hid hb6
              have HFb := hid (ds_files (HM.out.bel hb6).swap)
              clear hu hun huk hb6 HFa
              go_wp2_with fail
              refine HFb.out.mono ?_
              rintro e w7 ⟨v, rfl, hv, hvn, hvk, hb7⟩
              have HSa := hid (alike_files HUk.out.1 HUk.out.2 hvn hvk)
              have HAl := hid (alike_yes u v w7 _ _ (HU.out.below hb7) hv HSa.out.1 HSa.out.2)
              have HB7 : Hid (Below wr.heap.size wr w7) := HB6.out.trans (hb7.mono HB6.out.size)
              clear hv hvn hvk hb7 HFb HU HUk HB6 HSa
              go_wp2_with fail
              refine HAl.out.mono ?_
              rintro e w8 ⟨rfl, hb8⟩
              have HBe : Hid (Below w.heap.size w w8) := HLo.out w8 (HF.out.trans (Fr.of (HB7.out.trans (hb8.mono HB7.out.size))))
              clear hb8 HAl HB7
              go_wp2
              exact bodyPost_ret (v := .bool true) (by simp [results, Tryd.results4, go_sem]) rfl (⟨rfl, HBe.out⟩)
end Go.Proofs.YtkfcilandmhomaaDoor
