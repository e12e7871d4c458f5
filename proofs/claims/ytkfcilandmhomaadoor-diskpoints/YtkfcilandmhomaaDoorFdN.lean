import Derived.Test.YtkfcilandmhomaaDoorFdM
import Derived.Test.YtkfcilandmhomaaDoorOpnG
namespace Go.Proofs.YtkfcilandmhomaaDoor
open Go.RowKit
set_option maxRecDepth 8000
theorem fr_below {w w' : World} (h : Fr (fun k => k < w.heap.size) w w') : Below w.heap.size w w' := But.below h (Nat.le_refl _) fun _ hk e => e hk
def sN : ByteArray := ⟨#[110, 111, 110, 101, 45, 115, 117, 99, 104, 45, 49, 50]⟩
theorem nm_sN : nmB sN = true := by decide
theorem rst_len (A : AK) (K : LT Int) : (rstK A K).ks.length = A.ks.length := by simp [rstK, rstKs]
theorem updK_len (s : ByteArray) (k : Key) (ks : List Key) : (updK s k ks).length = ks.length := by simp [updK]
/-- a Sync on a disk that is up and has no rigs: there is no such file, or it is sure now; as many files as before -/
theorem sync_free {A : AK} {s : ByteArray} (hn : nmB s = true) (hd : A.down = false) (hl : A.left = -1) (hf : A.fails = 0) : (chA A s = 103 ∨ chA A s = 0) ∧ (syncK A s).ks.length = A.ks.length := by
  have hb : begA A s = 0 := by
    unfold begA
    rw [if_neg (by rw [hn]; simp), if_neg (by rw [hd]; simp), if_pos hf]
  have hk : begK A s = A := by
    unfold begK
    rw [if_neg (fun h => h.2.2 hf)]
  have hp : payA A 1 = 0 := by
    unfold payA
    rw [if_pos (.inl hl)]
  have hpk : payK A 1 = A := by
    unfold payK
    rw [if_pos hl]
  have hck : chK A s = A := by
    unfold chK
    rw [hk, hpk]
    split <;> rfl
  refine ⟨?_, ?_⟩
  · unfold chA
    rw [if_pos hb, hk, hp]
    split
    · exact .inr rfl
    · exact .inl rfl
  · unfold syncK
    rw [hck]
    split
    · unfold putK
      split
      · exact updK_len _ _ _
      · rfl
    · rfl
set_option maxHeartbeats 16000000 in
theorem diskSure_walk (P : LT OpD) (w : World) (hP : LT.In elD w (fun b => b < w.heap.size) P) :
    Calls Tryd.prog 3 #[.slice P.p P.n P.c] w fun e w' => e = .returned (.bool true) ∧ Below w.heap.size w w' := by
  obtain ⟨Z, hZ⟩ : ∃ Z : Nat → Prop, Z = fun k => k < w.heap.size := ⟨_, rfl⟩
  have HPZ : Hid (LT.In elD w Z P) := by show LT.In _ _ _ _; rw [hZ]; exact hP
  have HLo : Hid (∀ W, Fr Z w W → Below w.heap.size w W) := by intro W h; rw [hZ] at h; exact fr_below h
  have HZl : Hid (∀ k, Z k → k < w.heap.size) := by intro k hk; rw [hZ] at hk; exact hk
  have HP := hid hP
  have hpn := hP.nn
  have HFt := hid (fits_nil P w _ hP)
  clear hP hZ
  go_enter Tryd.func3, Tryd.ntmps3
  go_wp2_with fail
  refine HFt.out.mono ?_
  rintro e w0 ⟨q, rfl, hb0, hq⟩
  have HB0 := hid hb0
  clear hb0 HFt
  cases q with
  | false =>
    go_wp2
    exact bodyPost_ret (v := .bool true) (by simp [results, Tryd.results3, go_sem]) rfl (⟨rfl, HB0.out⟩)
  | true =>
    obtain ⟨hp4, hpz⟩ := hq rfl
    have HPz := hid hpz
    clear hq hpz
    have HNw := hid (new_nil w0)
    go_wp2_with fail
    refine HNw.out.mono ?_
    rintro e w1 ⟨db, D0, rfl, hM0, hr0, hb1⟩
    have HWk := hid (works_any Z w1 db D0 (hM0.less fun k hk => Nat.lt_of_lt_of_le (HZl.out k hk) HB0.out.size) hr0)
    have HN1 := hid (num_any 0 w1)
    have HF1 : Hid (Fr Z w w1) := Fr.of (HB0.out.trans (hb1.mono HB0.out.size))
    clear hM0 hr0 hb1 HNw
    go_wp2_with fail
    refine HN1.out.mono ?_
    rintro e w1' ⟨rfl, rfl⟩
    clear HN1
    go_wp2_with fail
    refine HWk.out.mono ?_
    rintro e w2 ⟨rfl, ⟨D2, hM2, hr2⟩, hf2⟩
    have HF2 : Hid (Fr Z w w2) := HF1.out.trans hf2
    have HS2 : Hid (∃ (D : DK) (A : AK), DM Z w2 db D ∧ Rel D A) := ⟨D2, A0, hM2, hr2⟩
    clear hM2 hr2 hf2 HWk HF1
    go_wp2_with fail
    go_loopw [5] (fun x wr => ∃ i : Nat, i ≤ P.n ∧ x = .int .i64 (i : Int) ∧ (∃ (D : DK) (A : AK), DM Z wr db D ∧ Rel D A) ∧ Fr Z w wr) (fun x _ => P.n - (intOf x).toNat)
    case atStart => exact ⟨0, Nat.zero_le _, rfl, HS2.out, HF2.out⟩
    case round =>
      obtain ⟨i, hi, rfl, ⟨D, A, hM, hR⟩, hf⟩ := hrel
      have HM := hid hM
      have HR := hid hR
      have HF := hid hf
      clear hM hR hf HS2 HF2
      by_cases hlt : i < P.n
      · as_aux_lemma =>
        have hlt' : (i : Int) < (P.n : Int) := by omega
        obtain ⟨bb, bo, hp, _, hbb, hat⟩ := HP.out.at_ (by omega)
        rw [hp]
        obtain ⟨o, ho⟩ : ∃ o, o = P.item i := ⟨_, rfl⟩
        have hce : ∀ r u, (elD.cells o)[r]? = some u → wr.cell? ⟨bb, bo + i * 7 + r, none⟩ = some u := fun r u hu => (World.cell?_of_block (a := ⟨bb, bo + i * 7 + r, none⟩) ((HLo.out wr HF.out).block bb hbb)).trans (hat i hlt r u (by rw [← ho]; exact hu))
        have c0 : wr.cell? ⟨bb, bo + i * 7, none⟩ = some (.int .i64 o.kind) := hce 0 _ rfl
        have c1 : wr.cell? ⟨bb, bo + i * 7 + 1, none⟩ = some (.int .i64 o.which) := hce 1 _ rfl
        have c2 : wr.cell? ⟨bb, bo + i * 7 + 2, none⟩ = some (.string o.name) := hce 2 _ rfl
        have c3 : wr.cell? ⟨bb, bo + i * 7 + 3, none⟩ = some (.int .i64 o.n) := hce 3 _ rfl
        have c4 : wr.cell? ⟨bb, bo + i * 7 + 4, none⟩ = some (.int .i64 o.after) := hce 4 _ rfl
        have c5 : wr.cell? ⟨bb, bo + i * 7 + 5, none⟩ = some (.slice o.bp o.zs.length o.bc) := hce 5 _ rfl
        have c6 : wr.cell? ⟨bb, bo + i * 7 + 6, none⟩ = some (.slice o.K.p o.K.n o.K.c) := hce 6 _ rfl
        have HO0 : Hid (OpI w Z o.name o.n o.after o.bp o.zs o.bc o.K) := by show OpI _ _ _ _ _ _ _ _ _; rw [ho]; exact op_in (HPZ.out.each i hlt) (HPz.out i hlt)
        have HO : Hid (OpI wr Z o.name o.n o.after o.bp o.zs o.bc o.K) := HO0.out.fr HF.out
        clear hce hat ho HO0
        obtain ⟨V1, hV1⟩ : ∃ V, V = wr.alloc (.cells #[.int .i64 o.kind, .int .i64 o.which, .string o.name, .int .i64 o.n, .int .i64 o.after, .slice o.bp o.zs.length o.bc, .slice o.K.p o.K.n o.K.c] 33) := ⟨_, rfl⟩
        have HB1 : Hid (Below wr.heap.size wr V1) := by show Below _ _ _; rw [hV1]; exact (Below.refl _ _).alloc (Nat.le_refl _) _
        have HX1 : Hid (Box V1 wr.heap.size #[.int .i64 o.kind, .int .i64 o.which, .string o.name, .int .i64 o.n, .int .i64 o.after, .slice o.bp o.zs.length o.bc, .slice o.K.p o.K.n o.K.c] 33) := by show Box _ _ _ _; rw [hV1]; exact Box.new _ _ _
        have HV1 := hid hV1
        clear hV1
        by_cases hk : o.kind ≠ 10
        · as_aux_lemma =>
          have hk' : (o.kind == 10) = false := by simpa using hk
          have HM1 : Hid (DM Z V1 db D) := HM.out.bel HB1.out
          have HDo := hid (does_any Z V1 db D A HM1.out HR.out o.kind o.which o.name o.n o.after o.bp o.zs o.bc o.K (HO.out.fr (Fr.of HB1.out)))
          have HF1 : Hid (Fr Z w V1) := HF.out.trans (Fr.of HB1.out)
          go_upto_region 10 with fail
          rw [← HV1.out]
          clear c0 c1 c2 c3 c4 c5 c6
          have o0 := HX1.out.cell 0
          have o1 := HX1.out.cell 1
          have o2 := HX1.out.cell 2
          have o3 := HX1.out.cell 3
          have o4 := HX1.out.cell 4
          have o5 := HX1.out.cell 5
          have o6 := HX1.out.cell 6
          have ol := HX1.out.lt
          simp at o0 o1 o2 o3 o4 o5 o6
          go_wp2_with fail
          refine HDo.out.mono ?_
          rintro e w3 ⟨rfl, hq3, hf3⟩
          have HQ3 := hid hq3
          have HF3 : Hid (Fr Z w w3) := HF1.out.trans hf3
          clear hq3 hf3 HDo
          clear o0 o1 o2 o3 o4 o5 o6 ol
          go_wp2
          go_roundw
          case rel =>
            obtain ⟨D3, hM3, hr3⟩ := HQ3.out
            exact ⟨i + 1, by omega, by go_num, ⟨D3, _, hM3, hr3⟩, HF3.out⟩
          case measure => simp [intOf]; omega
        · as_aux_lemma =>
          have hk' : o.kind = 10 := by omega
          rw [hk'] at c0
          have HM1 : Hid (DM Z V1 db D) := HM.out.bel HB1.out
          have HFi := hid (dm_files HM1.out HR.out)
          go_upto_region 10 with fail
          rw [hk'] at HV1 HX1
          rw [← HV1.out]
          clear c0 c1 c2 c3 c4 c5 c6
          have o0 := HX1.out.cell 0
          have o1 := HX1.out.cell 1
          have o2 := HX1.out.cell 2
          have o3 := HX1.out.cell 3
          have o4 := HX1.out.cell 4
          have o5 := HX1.out.cell 5
          have o6 := HX1.out.cell 6
          have ol := HX1.out.lt
          simp at o0 o1 o2 o3 o4 o5 o6
          go_upto_region 12 with fail
          clear o0 o1 o2 o3 o4 o5 o6 ol
          go_wp2_with fail
          refine HFi.out.mono ?_
          rintro e w3 ⟨u, rfl, hu, hun, huk, hb3⟩
          have HU := hid hu
          have HUk := hid (And.intro hun huk)
          have HB13 : Hid (Below wr.heap.size wr w3) := HB1.out.trans (hb3.mono HB1.out.size)
          have HX3 := hid (HX1.out.below hb3)
          have hs1 : wr.heap.size < V1.heap.size := HX1.out.lt
          have hs3 := hb3.size
          obtain ⟨Y, hY⟩ : ∃ Y : Nat → Prop, Y = fun k => Z k ∨ (wr.heap.size ≤ k ∧ k < w3.heap.size) := ⟨_, rfl⟩
          have HYZ : Hid (∀ k, Z k → Y k) := by intro k hk; rw [hY]; exact .inl hk
          have HYn : Hid (∀ k, wr.heap.size ≤ k → k < w3.heap.size → Y k) := by intro k h1 h2; rw [hY]; exact .inr ⟨h1, h2⟩
          have HM3 : Hid (DM Y w3 db D) := by show DM _ _ _ _; rw [hY]; exact HM.out.more HB13.out
          have HO3 : Hid (OpI w3 Z o.name o.n o.after o.bp o.zs o.bc o.K) := HO.out.fr (Fr.of HB13.out)
          have HRs := hid (dm_restart HM3.out HR.out o.K (HO3.out.hK.mono fun k hk _ => HYZ.out k hk))
          have HFr3 : Hid (Fr Z w w3) := HF.out.trans (Fr.of HB13.out)
          have HWf : Hid (A.Wf) := by
            obtain ⟨C, hI, -, -⟩ := HM.out
            exact HR.out.wf hI
          have HUY : Hid (LT.In elF w3 Y u) := HU.out.mono fun k hk hl => HYn.out k (by omega) hl
          have HXY : Hid (Y wr.heap.size) := HYn.out _ (Nat.le_refl _) (by omega)
          clear hu hun huk hb3 hY hs1 hs3 HU HFi HB13
          have o6 := HX3.out.cell 6
          have ol := HX3.out.lt
          simp at o6
          go_wp2_with fail
          refine HRs.out.mono ?_
          rintro e w4 ⟨rfl, ⟨D4, hM4, hr4⟩, hf4⟩
          have HM4 := hid hM4
          have HR4 := hid hr4
          have HFr4 : Hid (Fr Z w w4) := HFr3.out.trans (hf4.less HYZ.out)
          have HU4 : Hid (LT.In elF w4 Y u) := HUY.out.kept hf4.size fun b hy hl => hf4.block b hl fun e => e hy
          have HK4 : Hid (LT.In elInt w4 Z o.K) := (HO3.out.fr (hf4.less HYZ.out)).hK
          have HX4 := hid (HX3.out.kept (hf4.block _ HX3.out.lt fun e => e HXY.out))
          have HFl : Hid (∀ W, Below w4.heap.size w4 W → Calls Tryd.prog 12 #[.pointer (some ⟨db, 0, none⟩)] W fun e w' => ∃ v : LT FA, e = .returned (.slice v.p v.n v.c) ∧ LT.In elF w' (fun k => W.heap.size ≤ k) v ∧ v.n = (rstK A o.K).ks.length ∧ (∀ j k, (rstK A o.K).ks[j]? = some k → (v.item j).key = k) ∧ Below W.heap.size W w') := fun W hW => dm_files (HM4.out.bel hW) HR4.out
          have HSu : Hid (∀ (v : LT FA) (W : World), Below w4.heap.size w4 W → LT.In elF W (fun k => w4.drew.heap.size ≤ k) v → v.n = (rstK A o.K).ks.length → (∀ j k, (rstK A o.K).ks[j]? = some k → (v.item j).key = k) → Calls Tryd.prog 14 #[.slice u.p u.n u.c, .slice v.p v.n v.c, .slice o.K.p o.K.n o.K.c] W fun e w' => e = .returned (.bool true) ∧ Below W.heap.size W w') := by
            intro v W hW hv hvn hvk
            have hukj : ∀ j, j < u.n → A.ks[j]? = some (u.item j).key := fun j hj => by
              have h1 : A.ks[j]? = some (A.ks[j]'(by rw [← HUk.out.1]; exact hj)) := List.getElem?_eq_getElem _
              rw [h1, HUk.out.2 j _ h1]
            refine survives_any u v o.K W Y _ Z (HU4.out.kept hW.size fun b _ hl => hW.block b hl) hv (HK4.out.kept hW.size fun b _ hl => hW.block b hl) (by rw [hvn, rst_len, HUk.out.1]) (fun j hj => ?_) fun j hj => ?_
            · have h2 := HWf.out _ (List.mem_of_getElem? (hukj j hj))
              have h3 : (u.item j).key.2.1.length = (u.item j).n := FA.zs_len _
              rw [h3] at h2
              exact h2
            · refine hvk j _ ?_
              show (rstKs A.ks o.K)[j]? = _
              rw [rstKs_at, hukj j hj]
              rfl
          clear hM4 hr4 hf4 HRs o6 ol
          have q6 := HX4.out.cell 6
          have ql := HX4.out.lt
          simp at q6
          go_upto_region 14 with fail
          refine wp_region_calmE 30 (fun wx => Below w4.heap.size w4 wx) [(0, true), (1, true), (3, true), (4, false)] (.one 2 true [] (.one 5 true [(6, true)] .done)) (by kernel_rfl) (by kernel_rfl) (Below.refl _ _).drew ?_
          refine wpPre_e rfl rfl (fun K1 hK1 => ?_)
          apply Exists.intro
          refine And.intro (fun wx hx => ?_) ?_
          · go_simp
            try rfl
          go_simp
          refine hK1 _ ?_
          clear hK1 K1
          refine wpPre_e rfl rfl (fun K1 hK1 => ?_)
          apply Exists.intro
          refine And.intro (fun wx hx => ?_) ?_
          · go_simp
            try rfl
          go_simp
          refine hK1 _ ?_
          clear hK1 K1
          refine wpPre_e rfl rfl (fun K1 hK1 => ?_)
          apply Exists.intro
          refine And.intro (fun wx hx => ?_) ?_
          · go_simp
            try rfl
          go_simp
          refine hK1 _ ?_
          clear hK1 K1
          refine wpPre_e rfl rfl (fun K1 hK1 => ?_)
          apply Exists.intro
          refine And.intro (fun wx hx => ?_) ?_
          · have e0 := below_fact hx rfl q6
            go_simp
            try rfl
          go_simp
          refine hK1 _ ?_
          clear hK1 K1
          refine wpPre_nil ?_
          refine wpTr_e rfl (fun K1 hK1 => ?_)
          refine step_callG (by first | rfl | go_simp) 12 #[.tmp 49] _ rfl Tryd.f12 Tryd.func12 (by kernel_rfl) rfl #[.pointer (some ⟨db, 0, none⟩)] rfl _ (HFl.out _ (Below.refl _ _).drew) ?_
          rintro e_ w5 ⟨v, rfl, hv, hvn, hvk, hb5⟩
          refine ⟨_, rfl, ?_⟩
          have HB5 : Hid (Below w4.heap.size w4 w5) := (Below.refl _ _).drew.trans hb5
          have HV := hid hv
          have HVk := hid (And.intro hvn hvk)
          clear hv hvn hvk hb5
          go_simp
          refine hK1 _ _ (fun _ => HB5.out) ?_
          clear hK1 K1
          refine wpPre_nil ?_
          refine wpTr_e rfl (fun K1 hK1 => ?_)
          have HSv := hid (HSu.out v w5 HB5.out HV.out HVk.out.1 HVk.out.2)
          refine step_callG (by first | rfl | go_simp) 14 #[.tmp 48, .tmp 50, .tmp 52] _ rfl Tryd.f14 Tryd.func14 (by kernel_rfl) rfl #[.slice u.p u.n u.c, .slice v.p v.n v.c, .slice o.K.p o.K.n o.K.c] rfl _ (HSv.out) ?_
          rintro e_ w6 ⟨rfl, hb6⟩
          refine ⟨_, rfl, ?_⟩
          have HB6 : Hid (Below w4.heap.size w4 w6) := HB5.out.trans (hb6.mono HB5.out.size)
          clear hb6 HSv HV HVk HFl HSu HB5
          go_simp
          refine hK1 _ _ (fun _ => HB6.out) ?_
          clear hK1 K1
          refine wpPre_e rfl rfl (fun K1 hK1 => ?_)
          apply Exists.intro
          refine And.intro (fun wx hx => ?_) ?_
          · go_simp
            try rfl
          go_simp
          refine hK1 _ ?_
          clear hK1 K1
          refine wpPre_nil ?_
          refine wpTr_done ?_
          clear q6 ql
          have HFr6 : Hid (Fr Z w w6) := HFr4.out.trans (Fr.of HB6.out)
          have HM6 := hid (HM4.out.bel HB6.out)
          have HL6 := hid (dm_list HM6.out HR4.out rfl)
          have hrl : (rstK A o.K).ks.length = u.n := by rw [rst_len, HUk.out.1]
          have HRl := hid hrl
          clear hrl
          go_wp2_with fail
          refine HL6.out.mono ?_
          rintro e w7 ⟨p7, c7, rfl, hb7⟩
          rw [HRl.out]
          have HFr7 : Hid (Fr Z w w7) := HFr6.out.trans (Fr.of hb7)
          have HM7 := hid (HM6.out.bel hb7)
          have HN7 := hid (num_any 0 w7)
          clear hb7 HL6
          go_wp2_with fail
          refine HN7.out.mono ?_
          rintro e w7' ⟨rfl, rfl⟩
          clear HN7
          go_upto_region 19 with fail
          have HSy := hid (dm_sync HM7.out HR4.out sN (by decide))
          have HSf := hid (sync_free (A := rstK A o.K) nm_sN rfl rfl rfl)
          have HLen : Hid ((syncK (rstK A o.K) sN).ks.length = A.ks.length) := HSf.out.2.trans (rst_len A o.K)
          go_wp2_with fail
          refine HSy.out.mono ?_
          rintro e w8 ⟨rfl, ⟨D8, hM8, hr8⟩, hf8⟩
          have HM8 := hid (hM8.less HYZ.out)
          have HR8 := hid hr8
          have HFr8 : Hid (Fr Z w w8) := HFr7.out.trans (hf8.less HYZ.out)
          have HF8 := hid (dm_files HM8.out HR8.out)
          clear hM8 hr8 hf8 HSy
          rcases HSf.out.1 with h103 | h103
          · rw [h103]
            have HN8 := hid (num_any 103 w8)
            clear h103
            go_wp2_with fail
            refine HN8.out.mono ?_
            rintro e w8' ⟨rfl, rfl⟩
            clear HN8
            go_wp2_with fail
            refine HF8.out.mono ?_
            rintro e w9 ⟨z, rfl, hz, hzn, hzk, hb9⟩
            have hzl : z.n = u.n := by rw [hzn, HLen.out, HUk.out.1]
            rw [hzl]
            have HF9 : Hid (Fr Z w w9) := HFr8.out.trans (Fr.of hb9)
            have HM9 := hid (HM8.out.bel hb9)
            clear hz hzn hzk hb9 HF8 HFr8 hzl
            go_wp2
            go_roundw
            case rel => exact ⟨i + 1, by omega, by go_num, ⟨_, _, HM9.out, HR8.out⟩, HF9.out⟩
            case measure => simp [intOf]; omega
          · rw [h103]
            have HN8 := hid (num_any 0 w8)
            clear h103
            go_wp2_with fail
            refine HN8.out.mono ?_
            rintro e w8' ⟨rfl, rfl⟩
            clear HN8
            go_wp2_with fail
            refine HF8.out.mono ?_
            rintro e w9 ⟨z, rfl, hz, hzn, hzk, hb9⟩
            have hzl : z.n = u.n := by rw [hzn, HLen.out, HUk.out.1]
            rw [hzl]
            have HF9 : Hid (Fr Z w w9) := HFr8.out.trans (Fr.of hb9)
            have HM9 := hid (HM8.out.bel hb9)
            clear hz hzn hzk hb9 HF8 HFr8 hzl
            go_wp2
            go_roundw
            case rel => exact ⟨i + 1, by omega, by go_num, ⟨_, _, HM9.out, HR8.out⟩, HF9.out⟩
            case measure => simp [intOf]; omega
      · have hlt' : ¬ (i : Int) < (P.n : Int) := by omega
        go_wp2
        exact bodyPost_ret (v := .bool true) (by simp [results, Tryd.results3, go_sem]) rfl (⟨rfl, HLo.out _ HF.out⟩)
end Go.Proofs.YtkfcilandmhomaaDoor
