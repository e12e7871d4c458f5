import Derived.Test.YtkfcilandmhomaaDoorEfJ
namespace Go.Proofs.YtkfcilandmhomaaDoor
open Go.RowKit
set_option maxRecDepth 8000
/-- the disk while the first i files have survived -/
structure RsI (D : DK) (K : LT Int) (YS : List FT) (C : Nat → Prop) (wA w1 : World) (db : Nat) (i : Nat) (wr : World) (Di : DK) : Prop where
  dk : DkI wr (fun k => (C k ∧ k < wA.heap.size) ∨ w1.heap.size ≤ k) db Di
  but_ : But (fun k => C k ∧ k < wA.heap.size) w1 wr
  nms : Di.fs.map FT.name = D.fs.map FT.name
  fl : Di.set = false ∧ Di.units = 0 ∧ Di.after = 0 ∧ Di.calls = 0 ∧ Di.down = true
  each : ∀ (j : Nat) (f : FT), YS[j]? = some f → ∃ f', fnd Di f.name = some f' ∧ (if j < i then f'.key = f.svd (kpU K j) else f' = f)
theorem names_inj {YS : List FT} (hn : (YS.map FT.name).Nodup) {i j : Nat} {f g : FT} (hi : YS[i]? = some f) (hj : YS[j]? = some g) (e : f.name = g.name) : i = j := by
  have h1 : (YS.map FT.name)[i]? = some f.name := by rw [List.getElem?_map, hi]; rfl
  have h2 : (YS.map FT.name)[j]? = some f.name := by rw [List.getElem?_map, hj, e]; rfl
  have l1 := (List.getElem?_eq_some_iff.1 h1).1
  exact (List.getElem?_inj l1 hn).1 (h1.trans h2.symm)
theorem RsI.step {D : DK} {K : LT Int} {YS : List FT} {C : Nat → Prop} {wA w1 wr X w5 : World} {db i : Nat} {Di : DK} {f : FT} (h : RsI D K YS C wA w1 db i wr Di) (hnd : (YS.map FT.name).Nodup) (hf : YS[i]? = some f) (hff : fnd Di f.name = some f) (hX : Below wr.heap.size wr X) (hQ : SvQ f (kpU K i) (fun k => (C k ∧ k < wA.heap.size) ∨ w1.heap.size ≤ k) X w5) : ∃ D', RsI D K YS C wA w1 db (i + 1) w5 D' := by
  obtain ⟨p, c, hI, hb, hn⟩ := hQ
  have hDX := h.dk.below hX
  have hU := hDX.upd (f' := (f.cutd (f.svN (kpU K i)) p c).syn) hff rfl rfl hI hb hn
  have hsz : w1.heap.size ≤ X.heap.size := Nat.le_trans h.but_.size hX.size
  refine ⟨Di.upd f.name ((f.cutd (f.svN (kpU K i)) p c).syn), hU.mono (fun k hk _ => hk.elim id fun h => .inr (Nat.le_trans hsz h)), ?_, ?_, h.fl, ?_⟩
  · refine ⟨hb.os.trans (hX.os.trans h.but_.os), hb.tape.trans (hX.tape.trans h.but_.tape), hb.output.trans (hX.output.trans h.but_.output), Nat.le_trans hsz hb.size, fun k hk hx => ?_⟩
    have h1 : k < wr.heap.size := Nat.lt_of_lt_of_le hk h.but_.size
    refine (hb.block k (Nat.lt_of_lt_of_le h1 hX.size) fun e => ?_).trans ((hX.block k h1).trans (h.but_.block k hk hx))
    rcases ((hDX.each f (fnd_at hff).1).blk e).1 with h2 | h2
    · exact hx h2
    · omega
  · rw [← h.nms]
    show (Di.fs.map _).map FT.name = Di.fs.map FT.name
    rw [List.map_map]
    refine List.map_congr_left fun g _ => ?_
    by_cases e : g.name = f.name
    · simp only [Function.comp, if_pos e]; exact e.symm
    · simp only [Function.comp, if_neg e]
  · intro j g hj
    rw [fnd_upd Di f.name g.name f ((f.cutd (f.svN (kpU K i)) p c).syn) hff rfl]
    by_cases e : g.name = f.name
    · have hji := names_inj hnd hj hf e
      subst hji
      have hgf : g = f := Option.some.inj (hj.symm.trans hf)
      subst hgf
      rw [if_pos rfl]
      exact ⟨_, rfl, by rw [if_pos (Nat.lt_succ_self j)]; rfl⟩
    · rw [if_neg e]
      obtain ⟨f', h1, h2⟩ := h.each j g hj
      refine ⟨f', h1, ?_⟩
      have hne : j ≠ i := fun e' => e (by subst e'; rw [Option.some.inj (hj.symm.trans hf)])
      by_cases hlt : j < i
      · rw [if_pos hlt] at h2; rw [if_pos (by omega)]; exact h2
      · rw [if_neg hlt] at h2; rw [if_neg (by omega)]; exact h2
def RsQ (D : DK) (K : LT Int) (C : Nat → Prop) (db : Nat) (w w' : World) : Prop :=
  ∃ (YS : List FT) (Di : DK), YS.Perm D.fs ∧ YS.Pairwise (fun a b => ¬ cmpN b.name a.name < 0) ∧ Di.fs.map FT.name = D.fs.map FT.name ∧ (∀ (j : Nat) (f : FT), YS[j]? = some f → ∃ f', fnd Di f.name = some f' ∧ f'.key = f.svd (kpU K j)) ∧ Chg (Di.rig false 0 0 0 false) C db w w'
set_option maxHeartbeats 8000000 in
theorem drestart_any (D : DK) (K : LT Int) (w : World) (C : Nat → Prop) (db : Nat) (hD : DkI w C db D) (hK : LT.In elInt w (fun k => ¬ C k) K) :
    Calls Tryd.prog 13 #[.pointer (some ⟨db, 0, none⟩), .slice K.p K.n K.c] w fun e w' => e = .returned (.tuple #[]) ∧ RsQ D K C db w w' := by
  have HCr := hid (dcrash_any D w C db hD)
  have HK := hid hK
  have hKn := hK.nn
  have HN4 := hid hD.n
  clear hD hK
  go_enter Tryd.func13, Tryd.ntmps13
  go_wp2_with fail
  refine HCr.out.mono ?_
  rintro e wA ⟨rfl, hQA⟩
  have HQA := hid hQA
  have HDA : Hid (DkI wA C db D.fell) := hQA.1
  have d0' := hQA.1.bx.cell 0
  simp at d0'
  have HOr := hid (order_any wA db D.mb D.ents d0' hQA.1.mp (by have := HN4.out; simp [DK.ents]; omega))
  clear hQA d0'
  go_wp2_with fail
  refine HOr.out.mono ?_
  rintro e w1 ⟨p, c, Y, rfl, hperm, hpw, hrow, hb1⟩
  obtain ⟨YS, hYp, hYn⟩ := perm_map FT.name Y D.fs (by simpa [DK.ents, List.map_map, Function.comp_def] using hperm)
  have HYl : Hid (YS.length = Y.length) := by show YS.length = Y.length; rw [← hYn, List.length_map]
  have hY4 : Y.length ≤ 400 := by have h1 := hYp.length_eq; have h2 := HN4.out; have := HYl.out; omega
  have HPw : Hid (YS.Pairwise (fun a b => ¬ cmpN b.name a.name < 0)) := by
    show List.Pairwise _ _
    rw [← hYn, List.pairwise_map] at hpw
    exact hpw.imp fun h => by omega
  have HNd : Hid ((YS.map FT.name).Nodup) := ((hYp.map FT.name).nodup_iff).2 HDA.out.nodup
  rw [flat_range] at hrow
  obtain ⟨p2, c2, hv2, hLr⟩ := OwnL.in_ (E := elL) (g := fun j => Y.getD j ⟨#[]⟩) ⟨hrow, fun _ _ => trivial⟩ (by omega)
  simp only [Value.slice.injEq, true_and] at hv2
  obtain ⟨rfl, rfl⟩ := hv2
  have HLr := hid hLr
  have HY := hid (And.intro hYp hYn)
  have HW1 := hid hb1
  have HI0 : Hid (RsI D K YS C wA w1 db 0 w1 D.fell) := by
    refine ⟨(HDA.out.low_.below hb1).mono fun k hk _ => .inl hk, But.refl _ _, rfl, ⟨rfl, rfl, rfl, rfl, rfl⟩, fun j f hj => ⟨f, ?_, by rw [if_neg (by omega)]⟩⟩
    have hm : f ∈ D.fs := hYp.mem_iff.1 (List.mem_of_getElem? hj)
    cases h : fnd D.fell f.name with
    | none =>
      unfold fnd at h
      have := List.find?_eq_none.1 h f hm
      simp at this
    | some g =>
      have hg := fnd_at h
      rw [nodup_inj HDA.out.nodup hg.1 hm hg.2]
  clear hperm hpw hrow hYp hYn hLr hb1 HOr
  go_wp2_with fail
  go_loopw [12] (fun x wr => ∃ (i : Nat) (Di : DK), i ≤ Y.length ∧ x = .int .i64 (i : Int) ∧ RsI D K YS C wA w1 db i wr Di) (fun x _ => Y.length - (intOf x).toNat)
  case atStart => exact ⟨0, _, Nat.zero_le _, rfl, HI0.out⟩
  case round =>
    obtain ⟨i, Di, hi, rfl, hI⟩ := hrel
    have HI := hid hI
    clear hI
    by_cases hlt : i < Y.length
    · have hlt' : (i : Int) < (Y.length : Int) := by omega
      obtain ⟨bb, o, hp, hbS, hbb, hat⟩ := HLr.out.at_ (by show 0 < Y.length; omega)
      have hp' : p = some ⟨bb, o, none⟩ := hp
      subst hp'
      obtain ⟨f, hf⟩ : ∃ f, YS[i]? = some f := ⟨YS[i]'(by have := HYl.out; omega), List.getElem?_eq_getElem _⟩
      obtain ⟨s, hs⟩ : ∃ s, s = f.name := ⟨_, rfl⟩
      have hsY : Y.getD i ⟨#[]⟩ = s := by
        rw [← HY.out.2, List.getD_eq_getElem?_getD, List.getElem?_map, hf, hs]; rfl
      have HFf : Hid (fnd Di f.name = some f) := by
        obtain ⟨f', h1, h2⟩ := HI.out.each i f hf
        rw [if_neg (by omega)] at h2
        show fnd Di f.name = some f
        rw [h1, h2]
      have HNm : Hid (Nm s) := by show Nm s; rw [hs]; exact (HI.out.dk.each f (fnd_at HFf.out).1).nm
      have HLk : Hid (lk Di.ents s = some (.pointer (some ⟨f.fb, 0, none⟩))) := by show lk Di.ents s = _; rw [hs, lk_ents, HFf.out]; rfl
      have HFi := hid hf
      have hbA : wA.heap.size ≤ bb := hbS
      have hbr : wr.heap[bb]? = w1.heap[bb]? := HI.out.but_.block bb hbb (fun h => by have := h.2; omega)
      have hce : ∀ r u, (labC s)[r]? = some u → wr.cell? ⟨bb, o + i * 12 + r, none⟩ = some u := fun r u hu => (World.cell?_of_block (a := ⟨bb, o + i * 12 + r, none⟩) hbr).trans (hat i hlt r u (by show (labC (Y.getD i ⟨#[]⟩))[r]? = some u; rw [hsY]; exact hu))
      have k0 : wr.cell? ⟨bb, o + i * 12, none⟩ = some (.int .u8 (bat s 0)) := hce 0 _ rfl
      have k1 : wr.cell? ⟨bb, o + i * 12 + 1, none⟩ = some (.int .u8 (bat s 1)) := hce 1 _ rfl
      have k2 : wr.cell? ⟨bb, o + i * 12 + 2, none⟩ = some (.int .u8 (bat s 2)) := hce 2 _ rfl
      have k3 : wr.cell? ⟨bb, o + i * 12 + 3, none⟩ = some (.int .u8 (bat s 3)) := hce 3 _ rfl
      have k4 : wr.cell? ⟨bb, o + i * 12 + 4, none⟩ = some (.int .u8 (bat s 4)) := hce 4 _ rfl
      have k5 : wr.cell? ⟨bb, o + i * 12 + 5, none⟩ = some (.int .u8 (bat s 5)) := hce 5 _ rfl
      have k6 : wr.cell? ⟨bb, o + i * 12 + 6, none⟩ = some (.int .u8 (bat s 6)) := hce 6 _ rfl
      have k7 : wr.cell? ⟨bb, o + i * 12 + 7, none⟩ = some (.int .u8 (bat s 7)) := hce 7 _ rfl
      have k8 : wr.cell? ⟨bb, o + i * 12 + 8, none⟩ = some (.int .u8 (bat s 8)) := hce 8 _ rfl
      have k9 : wr.cell? ⟨bb, o + i * 12 + 9, none⟩ = some (.int .u8 (bat s 9)) := hce 9 _ rfl
      have k10 : wr.cell? ⟨bb, o + i * 12 + 10, none⟩ = some (.int .u8 (bat s 10)) := hce 10 _ rfl
      have k11 : wr.cell? ⟨bb, o + i * 12 + 11, none⟩ = some (.int .u8 (bat s 11)) := hce 11 _ rfl
      clear hce hat hp hbS hf hs hsY hbA hbr
      obtain ⟨V1, hV1⟩ : ∃ V, V = wr.alloc (.cells #[.int .u8 (bat s 0), .int .u8 (bat s 1), .int .u8 (bat s 2), .int .u8 (bat s 3), .int .u8 (bat s 4), .int .u8 (bat s 5), .int .u8 (bat s 6), .int .u8 (bat s 7), .int .u8 (bat s 8), .int .u8 (bat s 9), .int .u8 (bat s 10), .int .u8 (bat s 11)] 69) := ⟨_, rfl⟩
      have HBv : Hid (Below wr.heap.size wr V1) := by show Below _ _ _; rw [hV1]; exact (Below.refl _ _).alloc (Nat.le_refl _) _
      have HX1 : Hid (Box V1 wr.heap.size #[.int .u8 (bat s 0), .int .u8 (bat s 1), .int .u8 (bat s 2), .int .u8 (bat s 3), .int .u8 (bat s 4), .int .u8 (bat s 5), .int .u8 (bat s 6), .int .u8 (bat s 7), .int .u8 (bat s 8), .int .u8 (bat s 9), .int .u8 (bat s 10), .int .u8 (bat s 11)] 69) := by show Box _ _ _ _; rw [hV1]; exact Box.new _ _ _
      have HV1 := hid hV1
      have HDv : Hid (DkI V1 (fun k => (C k ∧ k < wA.heap.size) ∨ w1.heap.size ≤ k) db Di) := HI.out.dk.below HBv.out
      have HM1 : Hid (MpI V1 Di.mb Di.ents) := HDv.out.mp
      clear hV1
      go_upto_region 4 with fail
      rw [← HV1.out]
      clear k0 k1 k2 k3 k4 k5 k6 k7 k8 k9 k10 k11
      have d0 := HDv.out.bx.cell 0
      simp at d0
      have y0 := HX1.out.cell 0
      have y1 := HX1.out.cell 1
      have y2 := HX1.out.cell 2
      have y3 := HX1.out.cell 3
      have y4 := HX1.out.cell 4
      have y5 := HX1.out.cell 5
      have y6 := HX1.out.cell 6
      have y7 := HX1.out.cell 7
      have y8 := HX1.out.cell 8
      have y9 := HX1.out.cell 9
      have y10 := HX1.out.cell 10
      have y11 := HX1.out.cell 11
      have yl := HX1.out.lt
      simp at y0 y1 y2 y3 y4 y5 y6 y7 y8 y9 y10 y11
      by_cases hk0 : K.n = 0
      · have hk0' : ¬ (0 : Int) < (K.n : Int) := by omega
        have HKu : Hid (kpU K i = 0) := by show kpU K i = 0; rw [kpU, if_pos hk0]
        clear hk0
        have HSv : Hid (Calls Tryd.prog 35 #[.pointer (some ⟨f.fb, 0, none⟩), .int .i64 0] V1.drew fun e w' => e = .returned (.tuple #[]) ∧ SvQ f (kpU K i) (fun k => (C k ∧ k < wA.heap.size) ∨ w1.heap.size ≤ k) V1.drew w') := by
          have h := dsurvive_any f 0 V1.drew _ ((HDv.out.each f (fnd_at HFf.out).1).kept (fun _ _ => rfl) (fun k hk => ((HDv.out.each f (fnd_at HFf.out).1).blk hk).1)) (by omega)
          rw [HKu.out]
          exact h
        go_upto_region 7 with fail
        refine wp_region_calmE 30 (fun wx => Below V1.heap.size V1 wx) [(0, true), (1, true), (2, true), (3, false), (4, false), (5, false), (6, true)] (.one 7 false [] .done) (by kernel_rfl) (by kernel_rfl) (Below.refl _ _).drew ?_
        refine wpPre_e rfl rfl (fun K1 hK1 => ?_)
        apply Exists.intro
        refine And.intro (fun wx hx => ?_) ?_
        · go_simp
          try rfl
        go_simp
        refine hK1 _ ?_
        clear hK1 K1
        refine wpPre_e rfl rfl (fun K1 hK1 => ?_)
        apply Exists.intro
        refine And.intro (fun wx hx => ?_) ?_
        · go_simp
          try rfl
        go_simp
        refine hK1 _ ?_
        clear hK1 K1
        refine wpPre_e rfl rfl (fun K1 hK1 => ?_)
        apply Exists.intro
        refine And.intro (fun wx hx => ?_) ?_
        · go_simp
          try rfl
        go_simp
        refine hK1 _ ?_
        clear hK1 K1
        refine wpPre_e rfl rfl (fun K1 hK1 => ?_)
        apply Exists.intro
        refine And.intro (fun wx hx => ?_) ?_
        · have e0 := below_fact hx rfl d0
          go_simp
          try rfl
        go_simp
        refine hK1 _ ?_
        clear hK1 K1
        refine wpPre_e rfl rfl (fun K1 hK1 => ?_)
        apply Exists.intro
        refine And.intro (fun wx hx => ?_) ?_
        · have e0 := below_fact hx rfl y0
          have e1 := below_fact hx rfl y1
          have e2 := below_fact hx rfl y2
          have e3 := below_fact hx rfl y3
          have e4 := below_fact hx rfl y4
          have e5 := below_fact hx rfl y5
          have e6 := below_fact hx rfl y6
          have e7 := below_fact hx rfl y7
          have e8 := below_fact hx rfl y8
          have e9 := below_fact hx rfl y9
          have e10 := below_fact hx rfl y10
          have e11 := below_fact hx rfl y11
          go_simp
          try rfl
        go_simp
        refine hK1 _ ?_
        clear hK1 K1
        refine wpPre_e rfl rfl (fun K1 hK1 => ?_)
        apply Exists.intro
        refine And.intro (fun wx hx => ?_) ?_
        · have hx2 := hx.resolve_left (by simp)
          have e0 := run_look (HM1.out.kept (hx2.block _ HM1.out.lt)) HNm.out false
          simp only [labV, labC, HLk.out, Option.getD_some, Bool.false_eq_true, if_false] at e0
          go_simp
          try rfl
        go_simp
        refine hK1 _ ?_
        clear hK1 K1
        refine wpPre_e rfl rfl (fun K1 hK1 => ?_)
        apply Exists.intro
        refine And.intro (fun wx hx => ?_) ?_
        · go_simp
          try rfl
        go_simp
        refine hK1 _ ?_
        clear hK1 K1
        refine wpPre_nil ?_
        refine wpTr_e rfl (fun K1 hK1 => ?_)
        refine step_callG (by first | rfl | go_simp) 35 #[.tmp 32, .tmp 33] _ rfl Tryd.f35 Tryd.func35 (by kernel_rfl) rfl #[.pointer (some ⟨f.fb, 0, none⟩), .int .i64 0] rfl _ (HSv.out) ?_
        rintro e_ w5 ⟨rfl, hQ5⟩
        refine ⟨_, rfl, ?_⟩
        have HQ5 := hid hQ5
        clear hQ5
        go_simp
        refine hK1 _ _ (fun h => by cases h) ?_
        clear hK1 K1
        refine wpPre_nil ?_
        refine wpTr_done ?_
        clear y0 y1 y2 y3 y4 y5 y6 y7 y8 y9 y10 y11 yl d0
        go_wp2
        go_roundw
        case rel =>
          obtain ⟨D', hD'⟩ := HI.out.step HNd.out HFi.out HFf.out HBv.out.drew HQ5.out
          exact ⟨i + 1, D', by omega, by go_num, hD'⟩
        case measure => simp [intOf]; omega
      · have hkn : (0 : Int) < (K.n : Int) := by omega
        obtain ⟨kb, ko, hkp, hkS, hkb, hkat⟩ := HK.out.at_ (by omega)
        have hmod : i % K.n < K.n := Nat.mod_lt _ (by omega)
        have HKu : Hid (kpU K i = K.item (i % K.n)) := by show kpU K i = _; rw [kpU, if_neg hk0]
        have HKe := hid (HK.out.each (i % K.n) hmod)
        have hkw : V1.heap[kb]? = w.heap[kb]? := by
          have h1 := HQA.out.2.block kb hkb (fun e => hkS (by have e' : kb = db := e; rw [e']; exact HDA.out.cb))
          have h2 : kb < wA.heap.size := Nat.lt_of_lt_of_le hkb HQA.out.2.size
          have h3 := HW1.out.block kb h2
          have h4 : kb < w1.heap.size := Nat.lt_of_lt_of_le h2 HW1.out.size
          have h5 := HI.out.but_.block kb h4 (fun h => hkS h.1)
          have h6 := HBv.out.block kb (Nat.lt_of_lt_of_le h4 HI.out.but_.size)
          exact h6.trans (h5.trans (h3.trans h1))
        have kc : V1.cell? ⟨kb, ko + i % K.n, none⟩ = some (.int .i64 (K.item (i % K.n))) := by
          have h := hkat (i % K.n) hmod 0 (.int .i64 (K.item (i % K.n))) rfl
          have e : ko + i % K.n * elInt.size + 0 = ko + i % K.n := by show ko + i % K.n * 1 + 0 = _; omega
          rw [e] at h
          exact (World.cell?_of_block (a := ⟨kb, ko + i % K.n, none⟩) hkw).trans h
        obtain ⟨mm, hmm⟩ : ∃ mm, mm = i % K.n := ⟨_, rfl⟩
        rw [← hmm] at kc hmod HKu HKe
        obtain ⟨uu, huu⟩ : ∃ uu, uu = K.item mm := ⟨_, rfl⟩
        rw [← huu] at kc HKu HKe
        have hrem : (i : Int).tmod (K.n : Int) = (mm : Int) := by rw [hmm, Int.tmod_eq_emod_of_nonneg (by omega)]; exact (Int.natCast_emod _ _).symm
        have hmi : (mm : Int) < (K.n : Int) := by omega
        have hwm : IntKind.i64.wrap (mm : Int) = (mm : Int) := by rw [IntKind.wrap_i64]; omega
        rw [hkp]
        have HKp := hid hkp
        clear hkat hkw hmm huu hkS hkp
        have huu2 : uu ≤ 9223372036854775807 := HKe.out.2
        have HSv : Hid (Calls Tryd.prog 35 #[.pointer (some ⟨f.fb, 0, none⟩), .int .i64 uu] V1.drew fun e w' => e = .returned (.tuple #[]) ∧ SvQ f (kpU K i) (fun k => (C k ∧ k < wA.heap.size) ∨ w1.heap.size ≤ k) V1.drew w') := by
          have h := dsurvive_any f uu V1.drew _ ((HDv.out.each f (fnd_at HFf.out).1).kept (fun _ _ => rfl) (fun k hk => ((HDv.out.each f (fnd_at HFf.out).1).blk hk).1)) huu2
          rw [HKu.out]
          exact h
        go_upto_region 7 with fail
        refine wp_region_calmE 30 (fun wx => Below V1.heap.size V1 wx) [(0, true), (1, true), (2, true), (3, false), (4, false), (5, false), (6, true)] (.one 7 false [] .done) (by kernel_rfl) (by kernel_rfl) (Below.refl _ _).drew ?_
        refine wpPre_e rfl rfl (fun K1 hK1 => ?_)
        apply Exists.intro
        refine And.intro (fun wx hx => ?_) ?_
        · go_simp
          try rfl
        go_simp
        refine hK1 _ ?_
        clear hK1 K1
        refine wpPre_e rfl rfl (fun K1 hK1 => ?_)
        apply Exists.intro
        refine And.intro (fun wx hx => ?_) ?_
        · go_simp
          try rfl
        go_simp
        refine hK1 _ ?_
        clear hK1 K1
        refine wpPre_e rfl rfl (fun K1 hK1 => ?_)
        apply Exists.intro
        refine And.intro (fun wx hx => ?_) ?_
        · go_simp
          try rfl
        go_simp
        refine hK1 _ ?_
        clear hK1 K1
        refine wpPre_e rfl rfl (fun K1 hK1 => ?_)
        apply Exists.intro
        refine And.intro (fun wx hx => ?_) ?_
        · have e0 := below_fact hx rfl d0
          go_simp
          try rfl
        go_simp
        refine hK1 _ ?_
        clear hK1 K1
        refine wpPre_e rfl rfl (fun K1 hK1 => ?_)
        apply Exists.intro
        refine And.intro (fun wx hx => ?_) ?_
        · have e0 := below_fact hx rfl y0
          have e1 := below_fact hx rfl y1
          have e2 := below_fact hx rfl y2
          have e3 := below_fact hx rfl y3
          have e4 := below_fact hx rfl y4
          have e5 := below_fact hx rfl y5
          have e6 := below_fact hx rfl y6
          have e7 := below_fact hx rfl y7
          have e8 := below_fact hx rfl y8
          have e9 := below_fact hx rfl y9
          have e10 := below_fact hx rfl y10
          have e11 := below_fact hx rfl y11
          go_simp
          try rfl
        go_simp
        refine hK1 _ ?_
        clear hK1 K1
        refine wpPre_e rfl rfl (fun K1 hK1 => ?_)
        apply Exists.intro
        refine And.intro (fun wx hx => ?_) ?_
        · have hx2 := hx.resolve_left (by simp)
          have e0 := run_look (HM1.out.kept (hx2.block _ HM1.out.lt)) HNm.out false
          simp only [labV, labC, HLk.out, Option.getD_some, Bool.false_eq_true, if_false] at e0
          go_simp
          try rfl
        go_simp
        refine hK1 _ ?_
        clear hK1 K1
        refine wpPre_e rfl rfl (fun K1 hK1 => ?_)
        apply Exists.intro
        refine And.intro (fun wx hx => ?_) ?_
        · go_simp
          try rfl
        go_simp
        refine hK1 _ ?_
        clear hK1 K1
        refine wpPre_nil ?_
        refine wpTr_e rfl (fun K1 hK1 => ?_)
        refine step_callG (by first | rfl | go_simp) 35 #[.tmp 32, .tmp 33] _ rfl Tryd.f35 Tryd.func35 (by kernel_rfl) rfl #[.pointer (some ⟨f.fb, 0, none⟩), .int .i64 uu] rfl _ (HSv.out) ?_
        rintro e_ w5 ⟨rfl, hQ5⟩
        refine ⟨_, rfl, ?_⟩
        have HQ5 := hid hQ5
        clear hQ5
        go_simp
        refine hK1 _ _ (fun h => by cases h) ?_
        clear hK1 K1
        refine wpPre_nil ?_
        refine wpTr_done ?_
        clear y0 y1 y2 y3 y4 y5 y6 y7 y8 y9 y10 y11 yl d0
        go_wp2
        rw [← HKp.out]
        go_roundw
        case rel =>
          obtain ⟨D', hD'⟩ := HI.out.step HNd.out HFi.out HFf.out HBv.out.drew HQ5.out
          exact ⟨i + 1, D', by omega, by go_num, hD'⟩
        case measure => simp [intOf]; omega
    · have hlt' : ¬ (i : Int) < (Y.length : Int) := by omega
      have hiY : i = Y.length := by omega
      obtain ⟨z1, z2, z3, z4, z5⟩ := HI.out.fl
      have d5 := HI.out.dk.bx.cell 5
      have dz := HI.out.dk.bx.frozen 5
      have dl := HI.out.dk.bx.lt
      simp at d5
      rw [z5] at d5
      have HZ := hid (And.intro z1 (And.intro z2 (And.intro z3 (And.intro z4 hiY))))
      clear z1 z2 z3 z4 z5 hiY
      go_wp2
      go_end0
      obtain ⟨z1, z2, z3, z4, hiY⟩ := HZ.out
      have hbx := HI.out.dk.bx.set 5 (.bool false)
      rw [z1, z2, z3, z4] at hbx
      have hbt : But (fun k => k = db) wr (wr.setCell ⟨db, 5, none⟩ (.bool false)) := (But.one _ _).setAt 5 _
      have hR := HI.out.dk.rig (s := false) (u := 0) (a := 0) (c := 0) (d := false) hbt (by simpa using hbx) ⟨by omega, by omega⟩ ⟨by omega, by omega⟩ ⟨by omega, by omega⟩
      refine ⟨rfl, YS, Di, HY.out.1, HPw.out.imp (fun h => by omega), HI.out.nms, fun j g hj => ?_, hR.mono (fun k hk _ => hk.elim (fun h => .inl h.1) fun h => .inr (Nat.le_trans HQA.out.2.size (Nat.le_trans HW1.out.size h))), ?_⟩
      · obtain ⟨f', h1, h2⟩ := HI.out.each j g hj
        rw [if_pos (by have := (List.getElem?_eq_some_iff.1 hj).1; have := HYl.out; omega)] at h2
        exact ⟨f', h1, h2⟩
      · have hcb := HDA.out.cb
        have h1 : But C w w1 := (HQA.out.2.mono fun k _ e => by have e' : k = db := e; rw [e']; exact hcb).trans (But.ofBelow HW1.out)
        exact (h1.trans (HI.out.but_.mono fun k _ h => h.1)).trans (hbt.mono fun k _ e => by have e' : k = db := e; rw [e']; exact hcb)
end Go.Proofs.YtkfcilandmhomaaDoor
