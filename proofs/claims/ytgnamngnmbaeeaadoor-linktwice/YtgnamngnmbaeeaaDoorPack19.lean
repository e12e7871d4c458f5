import Derived.Test.YtgnamngnmbaeeaaDoorPack18
namespace Go.Proofs.YtgnamngnmbaeeaaDoor
open Go.RowKit
open Go.ChangeMaps (setBlock)
set_option maxRecDepth 8000
theorem Box.ne_map {w : World} {b mb : Nat} {cs : Array Value} {e : TypeId} {E : List (Int × Value)} (h : Box w b cs e) (hm : MpI w mb E) : b ≠ mb := fun x => by
  obtain ⟨es, c, hm, _⟩ := hm
  subst x
  unfold Box at h
  rw [h] at hm
  cases hm
set_option maxHeartbeats 8000000 in
theorem keep_any (w0 w : World) (Z : Nat → Prop) (b : Nat) (R : RA) (h0 : RcvI w0 Z b R) (hb0 : Below w0.heap.size w0 w) (hZ : ∀ k, Z k → k < w0.heap.size) (n : Nat) (hn : 1 ≤ n ∧ n ≤ 1073741824) (y : BS) (hy : y.In w (fun k => w0.heap.size ≤ k)) (hyl : y.zs.length ≤ 4096) :
    Calls Tryd.prog 54 #[.pointer (some ⟨b, 0, none⟩), .int .i64 (n : Int), y.val] w fun e w' => e = .returned (.tuple #[]) ∧ RcvQ w Z b (keepR R n y.zs) w' := by
  obtain ⟨mb, v, E, L, h00⟩ := h0
  have h := h00.but (But.ofBelow hb0) (Z' := Z) fun _ _ h => h
  have hI : RcvI w Z b R := ⟨mb, v, E, L, h⟩
  have c1 := h.bx.cell 1
  have c2 := h.bx.cell 2
  have c3 := h.bx.cell 3
  have cl := h.bx.lt
  simp at c1 c2 c3
  have hky : Ky (n : Int) := by unfold Ky; omega
  have hlk := run_look h.mp hky true
  rw [lk_map] at hlk
  have hlp : lkp R.kp n = (E.find? fun p => decide (p.1 = (n : Int))).map fun p => p.2.zs := by rw [← h.kp, lkp_map]
  have hwi := h.ok.wi
  have hwt := h.ok.wt
  obtain ⟨wt, ht⟩ : ∃ wt, wt = R.wt := ⟨_, rfl⟩
  obtain ⟨wi, hi⟩ : ∃ wi, wi = R.wi := ⟨_, rfl⟩
  rw [← ht] at c2 hwt
  rw [← hi] at c1 hwi
  have hws : wrap64 ((wt : Int) + (wi : Int)) = (wt : Int) + (wi : Int) := by unfold wrap64; omega
  have hyb : y.In w (fun k => ¬ Zr Z b mb k ∧ v.ownBlock ≠ some k) := hy.mono fun k hk _ => ⟨fun e => by
    rcases e with e | e | e
    · have := hZ k e; omega
    · have := h00.bx.lt; omega
    · have := h00.mp.lt; omega, fun e => by have := (h00.row.row.lt e).1; omega⟩
  have H := hid h
  have HI := hid hI
  have HYb := hid hyb
  have HT := hid ht
  have HWi := hid hi
  have Hn := hid hn
  have Hyl := hid hyl
  have HZ := hid hZ
  have HLk := hid hlk
  have HLp := hid hlp
  have HKy := hid hky
  have HB0 := hid hb0
  obtain ⟨yp, yc, yz⟩ := y
  dsimp only [BS.val]
  obtain ⟨ym, hym⟩ : ∃ ym, ym = yz.length := ⟨_, rfl⟩
  rw [← hym]
  have HYm := hid hym
  clear h00 h hI hlk hlp hky hyb ht hi hn hy hyl hZ hb0 hwi hwt hym
  go_enter Tryd.func54, Tryd.ntmps54
  go_upto_region 0 with fail
  by_cases h1 : n < wt
  · as_aux_lemma =>
    have h1' : (n : Int) < (wt : Int) := by omega
    have HE : Hid (keepR R n yz = R) := by show keepR R n yz = R; unfold keepR; rw [if_pos (.inl (by rw [← HT.out]; exact h1))]
    clear h1 hws
    have E0 := fun u : BW w => u.fact c1 cl
    have E1 := fun u : BW w => u.fact c2 cl
    refine wp_region_bw w (Below.refl _ _).drew (by kernel_rfl) (by kernel_rfl) ?_
    repeat (go_big_quiet_step (fail))
    refine wpQuiet_nil ?_
    rintro w2 ⟨u0, hw0⟩
    have hb2 : Below w.heap.size w w2 := by rw [hw0]; exact u0.prop
    clear hw0 u0 E0 E1
    have HB2 := hid hb2
    clear hb2 c1 c2 c3 cl
    go_wp2
    exact bodyPost_ret (v := .tuple #[]) (by simp [results, Tryd.results54, go_sem]) rfl ⟨rfl, by rw [HE.out]; exact HI.out.same HB2.out⟩
  · have h1' : ¬ (n : Int) < (wt : Int) := by omega
    by_cases h2 : wt + wi ≤ n
    · as_aux_lemma =>
      have h2' : (wt : Int) + (wi : Int) ≤ (n : Int) := by omega
      have HE : Hid (keepR R n yz = R) := by show keepR R n yz = R; unfold keepR; rw [if_pos (.inr (by rw [← HT.out, ← HWi.out]; exact h2))]
      clear h1 h2
      have E0 := fun u : BW w => u.fact c1 cl
      have E1 := fun u : BW w => u.fact c2 cl
      refine wp_region_bw w (Below.refl _ _).drew (by kernel_rfl) (by kernel_rfl) ?_
      repeat (go_big_quiet_step (fail))
      refine wpQuiet_nil ?_
      rintro w2 ⟨u0, hw0⟩
      have hb2 : Below w.heap.size w w2 := by rw [hw0]; exact u0.prop
      clear hw0 u0 E0 E1
      have HB2 := hid hb2
      clear hb2 c1 c2 c3 cl hws
      go_wp2
      exact bodyPost_ret (v := .tuple #[]) (by simp [results, Tryd.results54, go_sem]) rfl ⟨rfl, by rw [HE.out]; exact HI.out.same HB2.out⟩
    · have h2' : ¬ (wt : Int) + (wi : Int) ≤ (n : Int) := by omega
      have HKR : Hid (keepR R n yz = if (lkp R.kp n).isSome then R else { R with kp := R.kp ++ [((n : Int), yz)] }) := by show keepR R n yz = _; unfold keepR; rw [if_neg (by rw [← HT.out, ← HWi.out]; omega)]
      clear h1 h2
      have E0 := fun u : BW w => u.fact c1 cl
      have E1 := fun u : BW w => u.fact c2 cl
      refine wp_region_bw w (Below.refl _ _).drew (by kernel_rfl) (by kernel_rfl) ?_
      repeat (go_big_quiet_step (fail))
      refine wpQuiet_nil ?_
      rintro w2 ⟨u0, hw0⟩
      have hb2 : Below w.heap.size w w2 := by rw [hw0]; exact u0.prop
      clear hw0 u0 E0 E1
      have HB2 := hid hb2
      have H2 := hid (H.out.but (But.ofBelow hb2) (Z' := Z) fun _ _ h => h)
      clear hb2 c1 c2 c3 cl hws
      have c3 := H2.out.bx.cell 3
      have cl := H2.out.bx.lt
      simp at c3
      have hlk := run_look H2.out.mp HKy.out true
      rw [lk_map] at hlk
      simp only [kyV, if_true] at hlk
      cases hf : (E.find? fun p => decide (p.1 = (n : Int))) with
      | some p =>
        as_aux_lemma =>
        rw [hf] at hlk
        simp only [Option.map_some, Option.getD_some, Option.isSome_some] at hlk
        have HE : Hid (keepR R n yz = R) := by show keepR R n yz = R; rw [HKR.out, HLp.out, hf]; rfl
        clear hf HLk HLp HKR
        go_wp2
        exact bodyPost_end (v := .tuple #[]) (by simp [results, Tryd.results54, go_sem]) rfl ⟨rfl, by rw [HE.out]; exact HI.out.same HB2.out⟩
      | none =>
        as_aux_lemma =>
        rw [hf] at hlk
        simp only [Option.map_none, Option.getD_none, Option.isSome_none] at hlk
        have HE : Hid (keepR R n yz = { R with kp := R.kp ++ [((n : Int), yz)] }) := by show keepR R n yz = _; rw [HKR.out, HLp.out, hf]; rfl
        obtain ⟨o, hup, hm3⟩ := run_updNew H2.out.mp HKy.out (.slice yp ym yc) (by rw [lk_map, hf]; rfl)
        simp only [kyV] at hup
        have HM3 := hid hm3
        obtain ⟨W3, hW3⟩ : ∃ W, W = setBlock w2 mb o := ⟨_, rfl⟩
        have hbt : But (fun k => k = mb) w2 W3 := by rw [hW3]; exact But.block1 o
        rw [← hW3] at hm3
        have HYz := HYm.out
        have hyb2 : BS.In W3 (fun k => ¬ Zr Z b mb k ∧ v.ownBlock ≠ some k) ⟨yp, yc, yz⟩ := (HYb.out.below HB2.out).kept hbt.size fun k hk hl => hbt.block k hl fun e => hk.1 (.inr (.inr e))
        have HQ : Hid (RcvQ w Z b (keepR R n yz) W3) := by
          rw [HE.out]
          refine ⟨⟨mb, v, E ++ [((n : Int), ⟨yp, yc, yz⟩)], L, ⟨H2.out.bx.but hbt H2.out.z.2.2, ?_, H2.out.row.but (hbt.mono fun k _ e => .inr (.inr e)) fun _ _ h => h, fun p hp => ?_, ?_, H2.out.rd, H2.out.z, ?_⟩⟩, (Fr.below HB2.out).trans (hbt.mono fun k _ e hz => H2.out.z.2.1 (by rw [← show k = mb from e]; exact hz))⟩
          · rw [List.map_append]
            have e : List.map (fun p : Int × BS => (p.1, p.2.val)) [((n : Int), (⟨yp, yc, yz⟩ : BS))] = [((n : Int), Value.slice yp ym yc)] := by rw [HYz]; rfl
            rw [e]
            exact hm3
          · rcases List.mem_append.1 hp with hp | hp
            · exact (H2.out.ent p hp).kept hbt.size fun k hk hl => hbt.block k hl fun e => hk.1 (.inr (.inr e))
            · simp only [List.mem_singleton] at hp
              subst hp
              exact hyb2
          · rw [List.map_append, H2.out.kp]; rfl
          · have h := H2.out.ok
            refine ⟨h.ln, h.wi, h.wt, h.rd, h.rz, h.wd, fun p hp => ?_⟩
            rcases List.mem_append.1 hp with hp | hp
            · exact h.kp p hp
            · simp only [List.mem_singleton] at hp
              subst hp
              have h1 := Hn.out
              exact ⟨⟨by show (1 : Int) ≤ (n : Int); omega, by show (n : Int) ≤ _; omega⟩, Hyl.out⟩
        have HW3 := hid hW3
        clear hf HLk HLp HKR hm3 hW3 hbt hyb2 HYz
        go_wp2
        exact bodyPost_end (v := .tuple #[]) (by simp [results, Tryd.results54, go_sem]) rfl ⟨rfl, by rw [← HW3.out]; exact HQ.out⟩
end Go.Proofs.YtgnamngnmbaeeaaDoor

namespace Go.Proofs.YtgnamngnmbaeeaaDoor
open Go.RowKit
open Go.ChangeMaps (setBlock)
set_option maxRecDepth 8000
theorem filt_len : ∀ {E : List (Int × BS)} {k : Int} {p : Int × BS}, (E.map (·.1)).Nodup → E.find? (fun p => decide (p.1 = k)) = some p → (E.filter fun p => !decide (p.1 = k)).length + 1 = E.length
  | [], _, _, _, h => by simp at h
  | q :: E, k, p, hn, h => by
    simp only [List.map_cons, List.nodup_cons] at hn
    by_cases hq : q.1 = k
    · rw [List.filter_cons_of_neg (by simpa using hq), List.length_cons]
      congr 2
      refine List.filter_eq_self.2 fun r hr => ?_
      simp only [Bool.not_eq_true', decide_eq_false_iff_not]
      intro e
      exact hn.1 (List.mem_map.2 ⟨r, hr, by rw [e, hq]⟩)
    · rw [List.filter_cons_of_pos (by simpa using hq), List.length_cons, List.length_cons, filt_len hn.2 (by rw [List.find?_cons_of_neg (by simpa using hq)] at h; exact h)]
def cntM (w : World) (mb : Nat) : Nat := match w.heap[mb]? with
  | some (.map es _) => es.size
  | _ => 0
theorem MpI.cnt {w : World} {mb : Nat} {E : List (Int × Value)} (h : MpI w mb E) : cntM w mb = E.length := by
  obtain ⟨es, c, hb, hE⟩ := h
  unfold cntM
  rw [hb]
  exact hE.size
theorem MpI.nodup {w : World} {mb : Nat} {E : List (Int × Value)} (h : MpI w mb E) : (E.map (·.1)).Nodup := by
  obtain ⟨es, c, hb, hE⟩ := h
  exact hE.nodup
theorem filt_map (f : BS → Value) (E : List (Int × BS)) (k : Int) : (E.map fun p => (p.1, f p.2)).filter (fun p => !decide (p.1 = k)) = (E.filter fun p => !decide (p.1 = k)).map fun p => (p.1, f p.2) := by
  rw [List.filter_map]
  rfl
theorem filt_mapz (E : List (Int × BS)) (k : Int) : (E.map fun p => (p.1, p.2.zs)).filter (fun p => !decide (p.1 = k)) = (E.filter fun p => !decide (p.1 = k)).map fun p => (p.1, p.2.zs) := by
  rw [List.filter_map]
  rfl
set_option maxHeartbeats 16000000 in
theorem ready_any (w : World) (Z : Nat → Prop) (b : Nat) (R : RA) (h0 : RcvI w Z b R) (hZ : ∀ k, Z k → k < w.heap.size) :
    Calls Tryd.prog 55 #[.pointer (some ⟨b, 0, none⟩)] w fun e w' => e = .returned (.tuple #[]) ∧ RcvQ w Z b (readyR R) w' := by
  obtain ⟨mb, v, E, L, h⟩ := h0
  have hlen : E.length = R.kp.length := by rw [← h.kp, List.length_map]
  have H := hid h
  have HLen := hid hlen
  have HZ := hid hZ
  clear h hlen hZ
  go_enter Tryd.func55, Tryd.ntmps55
  go_wp2_with fail
  go_loopw [] (fun wr => ∃ v' E' L' R', RcvM wr Z b mb v' E' L' R' ∧ readyF E'.length R' = readyR R ∧ Fr Z w wr) (fun wr => cntM wr mb)
  case atStart => exact ⟨v, E, L, R, H.out, by rw [HLen.out]; rfl, Fr.refl _ _⟩
  case round =>
    obtain ⟨v', E', L', R', hM, hF, hfr⟩ := hrel
    have HM := hid hM
    have HF := hid hF
    have HFr := hid hfr
    have c2 := hM.bx.cell 2
    have c3 := hM.bx.cell 3
    have c4 := hM.bx.cell 4
    have cl := hM.bx.lt
    simp at c2 c3 c4
    have hok := hM.ok
    have hky : Ky (R'.wt : Int) := by have := hok.wt; unfold Ky; omega
    have hlk : ∀ u : BW wr, (Instr.lookup 104 (.map (some mb)) (.int .i64 (R'.wt : Int)) true).run Tryd.prog u.val = .ok (.tuple #[((E'.find? fun p => decide (p.1 = (R'.wt : Int))).map fun p => p.2.val).getD (.slice none 0 0), .bool ((E'.find? fun p => decide (p.1 = (R'.wt : Int))).map fun p => p.2.val).isSome]) u.val := fun u => by
      have h1 := run_look (hM.mp.kept (u.prop.block mb hM.mp.lt)) hky true
      rw [lk_map] at h1
      exact h1
    have HKy := hid hky
    have HOk := hid hok
    clear H HLen hM hF hfr hok hky
    obtain ⟨wt, hwt⟩ : ∃ wt, wt = R'.wt := ⟨_, rfl⟩
    rw [← hwt] at c2 hlk
    have HWt := hid hwt
    clear hwt
    go_upto_region 0 with fail
    cases hf : (E'.find? fun p => decide (p.1 = (wt : Int))) with
    | none =>
      as_aux_lemma =>
      rw [hf] at hlk
      simp only [Option.map_none, Option.getD_none, Option.isSome_none] at hlk
      have HE : Hid (readyF E'.length R' = R') := by
        show readyF E'.length R' = R'
        have hl : lkp R'.kp R'.wt = none := by rw [← HM.out.kp, lkp_map, ← HWt.out, hf]; rfl
        cases E'.length with
        | zero => rfl
        | succ f => unfold readyF; rw [hl]
      clear hf
      have E0 := fun u : BW wr => u.fact c2 cl
      have E1 := fun u : BW wr => u.fact c3 cl
      refine wp_region_bw wr (Below.refl _ _).drew (by kernel_rfl) (by kernel_rfl) ?_
      repeat (go_big_quiet_step (fail))
      refine wpQuiet_nil ?_
      rintro w2 ⟨u0, hw0⟩
      have hb2 : Below wr.heap.size wr w2 := by rw [hw0]; exact u0.prop
      clear hw0 u0 E0 E1
      have HQ : Hid (RcvQ w Z b (readyR R) w2) := by
        rw [← HF.out, HE.out]
        exact ⟨⟨mb, v', E', L', HM.out.but (But.ofBelow hb2) fun _ _ h => h⟩, HFr.out.trans (Fr.below hb2)⟩
      clear hb2 c2 c3 c4 cl hlk
      go_wp2
      exact bodyPost_ret (v := .tuple #[]) (by simp [results, Tryd.results55, go_sem]) rfl ⟨rfl, HQ.out⟩
    | some p =>
      as_aux_lemma =>
      rw [hf] at hlk
      simp only [Option.map_some, Option.getD_some, Option.isSome_some] at hlk
      obtain ⟨pk, ⟨yp, yc, yz⟩⟩ := p
      dsimp only [BS.val] at hlk
      have hpm := List.mem_of_find?_eq_some hf
      have hpk : pk = (wt : Int) := by have := List.find?_some hf; simpa using this
      subst hpk
      have HFd := hid hf
      have hwb : wt ≤ 1073741824 := by
        have h1 := HOk.out.kp ((wt : Int), yz) (by rw [← HM.out.kp]; exact List.mem_map.2 ⟨_, hpm, rfl⟩)
        have h2 := h1.1.2
        simp only at h2
        omega
      have HPm := hid hpm
      have HWb := hid hwb
      clear hf hpm hwb
      have E0 := fun u : BW wr => u.fact c2 cl
      have E1 := fun u : BW wr => u.fact c3 cl
      refine wp_region_bw wr (Below.refl _ _).drew (by kernel_rfl) (by kernel_rfl) ?_
      repeat (go_big_quiet_step (fail))
      refine wpQuiet_nil ?_
      rintro w2 ⟨u0, hw0⟩
      have hb2 : Below wr.heap.size wr w2 := by rw [hw0]; exact u0.prop
      clear hw0 u0 E0 E1
      have HB2 := hid hb2
      have HM2 := hid (HM.out.but (But.ofBelow hb2) (Z' := Z) fun _ _ h => h)
      clear hb2 c2 c3 c4 cl hlk
      have c2 := HM2.out.bx.cell 2
      have c3 := HM2.out.bx.cell 3
      have cl := HM2.out.bx.lt
      simp at c2 c3
      rw [← HWt.out] at c2
      obtain ⟨o, hdel, hm3⟩ := run_del (HM2.out.mp.kept (w' := w2.drew) rfl) HKy.out 0
      rw [← HWt.out] at hdel hm3
      rw [filt_map BS.val] at hm3
      simp only [kyV] at hdel
      have HD := hid hdel
      obtain ⟨W3, hW3⟩ : ∃ W, W = setBlock w2.drew mb o := ⟨_, rfl⟩
      have HW3 := hid hW3
      have hbt3 : But (fun k => k = mb) w2 W3 := by rw [hW3]; exact (But.ofBelow (Below.refl _ _).drew).trans (But.block1 o)
      rw [← hW3] at hm3
      have HX3 := hid (HM2.out.bx.but hbt3 HM2.out.z.2.2)
      have HR3 := hid (HM2.out.row.but (hbt3.mono fun k _ e => .inr (.inr e)) (Z' := Zr Z b mb) fun _ _ h => h)
      have HE3 : Hid (∀ q ∈ E', q.2.In W3 (fun k => ¬ Zr Z b mb k ∧ v'.ownBlock ≠ some k)) := fun q hq => (HM2.out.ent q hq).kept hbt3.size fun k hk hl => hbt3.block k hl fun e => hk.1 (.inr (.inr e))
      have HM3 := hid hm3
      have HBt3 := hid hbt3
      clear hW3 hbt3 hm3
      go_upto_region 2 with fail
      refine wp_region_calmE 30 (fun wx => Below w2.heap.size w2 wx) [(0, true), (1, true), (2, true), (3, false), (4, true), (5, true), (6, true), (7, false)] (.one 8 false [] .done) (by kernel_rfl) (by kernel_rfl) (Below.refl _ _).drew ?_
      refine wpPre_e rfl rfl (fun K1 hK1 => ?_)
      apply Exists.intro
      refine And.intro (fun wx hx => ?_) ?_
      · go_simp
        try rfl
      go_simp
      refine hK1 _ ?_
      clear hK1 K1
      refine wpPre_e rfl rfl (fun K1 hK1 => ?_)
      apply Exists.intro
      refine And.intro (fun wx hx => ?_) ?_
      · go_simp
        try rfl
      go_simp
      refine hK1 _ ?_
      clear hK1 K1
      refine wpPre_e rfl rfl (fun K1 hK1 => ?_)
      apply Exists.intro
      refine And.intro (fun wx hx => ?_) ?_
      · go_simp
        try rfl
      go_simp
      refine hK1 _ ?_
      clear hK1 K1
      refine wpPre_e rfl rfl (fun K1 hK1 => ?_)
      apply Exists.intro
      refine And.intro (fun wx hx => ?_) ?_
      · have e0 := below_fact hx rfl c3
        have e1 := below_fact hx rfl c2
        go_simp
        try rfl
      go_simp
      refine hK1 _ ?_
      clear hK1 K1
      refine wpPre_e rfl rfl (fun K1 hK1 => ?_)
      apply Exists.intro
      refine And.intro (fun wx hx => ?_) ?_
      · go_simp
        try rfl
      go_simp
      refine hK1 _ ?_
      clear hK1 K1
      refine wpPre_e rfl rfl (fun K1 hK1 => ?_)
      apply Exists.intro
      refine And.intro (fun wx hx => ?_) ?_
      · go_simp
        try rfl
      go_simp
      refine hK1 _ ?_
      clear hK1 K1
      refine wpPre_e rfl rfl (fun K1 hK1 => ?_)
      apply Exists.intro
      refine And.intro (fun wx hx => ?_) ?_
      · go_simp
        try rfl
      go_simp
      refine hK1 _ ?_
      clear hK1 K1
      refine wpPre_e rfl rfl (fun K1 hK1 => ?_)
      apply Exists.intro
      refine And.intro (fun wx hx => ?_) ?_
      · have e0 := below_fact hx rfl c3
        have e1 := below_fact hx rfl c2
        go_simp
        try rfl
      go_simp
      refine hK1 _ ?_
      clear hK1 K1
      refine wpPre_nil ?_
      refine wpTr_e rfl (fun K1 hK1 => ?_)
      go_simp
      refine hK1 _ _ (fun h => by cases h) ?_
      clear hK1 K1
      refine wpPre_nil ?_
      refine wpTr_done ?_
      clear c2 c3 cl hdel
      rw [← HW3.out]
      obtain ⟨p4, c4, hv4⟩ := HR3.out.slice
      subst hv4
      have c2 := HX3.out.cell 2
      have c4_ := HX3.out.cell 4
      have cl := HX3.out.lt
      simp at c2 c4_
      rw [← HWt.out] at c2
      obtain ⟨V4, hV4⟩ : ∃ V, V = W3.alloc (.cells #[.slice yp yz.length yc] 36) := ⟨_, rfl⟩
      have hb4 : Below W3.heap.size W3 V4 := by rw [hV4]; exact (Below.refl _ _).alloc (Nat.le_refl _) _
      have hX4 : Box V4 W3.heap.size #[.slice yp yz.length yc] 36 := by rw [hV4]; exact Box.new _ _ _
      have HB4 := hid hb4
      have HY0 : Hid (V4.cell? ⟨W3.heap.size, 0, none⟩ = some (.slice yp yz.length yc)) := hX4.cell 0
      have HR4 := hid (HR3.out.below hb4 (Z' := Zr Z b mb) fun _ _ h => h)
      have HYI : Hid (BS.In V4 (fun k => ¬ Zr Z b mb k ∧ (Value.slice p4 L'.length c4).ownBlock ≠ some k) ⟨yp, yc, yz⟩) := (HE3.out _ HPm.out).below hb4
      have HL : Lid (L'.length + 1) := by
        unfold Lid
        have h1 := HOk.out.rd
        have h2 := HWb.out
        have h3 := HWt.out
        rw [← HM.out.rd, List.length_map] at h1
        omega
      have HV4 := hid hV4
      clear hb4 hX4 hV4
      go_wp2_with (at_builtin; rw [← HV4.out]; refine wpList_step (fun K hK => step_appQ rfl (.tmp 30) (.tmp 32) rfl _ (L'.map BS.val) rfl HR4.out.row ⟨W3.heap.size, 0, none⟩ 1 (.slice yp yz.length yc) rfl HY0.out rfl (by rw [List.length_map]; have h9 : L'.length + 1 ≤ 1073741824 := HL; omega) ?_))
      intro v5 w5 hr5 hg5 hn5
      have hpush := HR4.out.push (x := ⟨yp, yc, yz⟩) hr5 hg5 hn5 HYI.out (fun k hk => by
        have h1 := HB4.out.size
        have h2 := HBt3.out.size
        have h3 := HB2.out.size
        have h4 := HFr.out.size
        rcases hk with e | e | e
        · have := HZ.out k e; omega
        · have := HX3.out.lt; omega
        · have := HM3.out.lt; omega)
      have hgb := But.grow hg5
      have hn5' : ∀ k, v5.ownBlock = some k → k < V4.heap.size → (Value.slice p4 L'.length c4).ownBlock = some k := fun k e hk => by
        rcases hn5 with e1 | e1
        · rw [← e1]; exact e
        · have := e1 k e; omega
      have HE5 : Hid (∀ q ∈ E', q.2.In w5 (fun k => ¬ Zr Z b mb k ∧ v5.ownBlock ≠ some k)) := fun q hq => ((((HE3.out q hq).below HB4.out).mono fun k hk hl => (⟨hk, hl⟩ : (¬ Zr Z b mb k ∧ (Value.slice p4 L'.length c4).ownBlock ≠ some k) ∧ k < V4.heap.size)).kept hgb.size fun k hk hl => hgb.block k hl hk.1.2).mono fun k hk _ => ⟨hk.1.1, fun e => hk.1.2 (hn5' k e hk.2)⟩
      have hob : ∀ k, (Value.slice p4 L'.length c4).ownBlock = some k → k ≠ b ∧ k ≠ mb := fun k e => ⟨fun x => HR3.out.z k e (.inr (.inl x)), fun x => HR3.out.z k e (.inr (.inr x))⟩
      have HX5 := hid ((HX3.out.below HB4.out).but hgb fun e => (hob b e).1 rfl)
      have HM5 := hid ((HM3.out.kept (HB4.out.block mb HM3.out.lt)).kept (hgb.block mb (Nat.lt_of_lt_of_le HM3.out.lt HB4.out.size) fun e => (hob mb e).2 rfl))
      have HG5 : Hid (Fr Z V4 w5) := hgb.mono fun k _ e hz => HR3.out.z k e (.inl hz)
      obtain ⟨p5, c5, hv5⟩ := hpush.slice
      subst hv5
      have HP := hid hpush
      have e2 := HX5.out.cell 2
      have e4 := HX5.out.cell 4
      have el := HX5.out.lt
      have ef := HX5.out.frozen
      simp at e2 e4
      rw [← HWt.out] at e2
      clear hr5 hg5 hn5 hpush hgb hn5' hob c2 c4_ cl
      refine hK _ _ ?_
      clear hK
      rw [List.length_append, List.length_singleton]
      obtain ⟨W6, hW6⟩ : ∃ W, W = w5.setCell ⟨b, 4, none⟩ (.slice p5 (L'.length + 1) c5) := ⟨_, rfl⟩
      have hX6 : Box W6 b #[.int .i64 (R'.ln : Int), .int .i64 (R'.wi : Int), .int .i64 (R'.wt : Int), .map (some mb), .slice p5 (L'.length + 1) c5, .int .i64 (R'.wd : Int)] 106 := by rw [hW6]; exact HX5.out.set 4 _
      have hbt6 : But (fun k => k = b) w5 W6 := by rw [hW6]; exact (But.one _ _).setAt _ _
      have HX6 := hid hX6
      have HBt6 := hid hbt6
      have HW6 := hid hW6
      have f2 := hX6.cell 2
      have fl := hX6.lt
      have ff := hX6.frozen
      simp at f2
      rw [← HWt.out] at f2
      clear hX6 hbt6 hW6
      go_upto_region 4 with fail
      rw [← HW6.out]
      clear e2 e4 el ef
      obtain ⟨W7, hW7⟩ : ∃ W, W = W6.setCell ⟨b, 2, none⟩ (.int .i64 ((wt : Int) + 1)) := ⟨_, rfl⟩
      have hX7 : Box W7 b #[.int .i64 (R'.ln : Int), .int .i64 (R'.wi : Int), .int .i64 ((R'.wt + 1 : Nat) : Int), .map (some mb), .slice p5 (L'.length + 1) c5, .int .i64 (R'.wd : Int)] 106 := by
        rw [hW7, Int.natCast_add, ← HWt.out]
        exact HX6.out.set 2 _
      have hbt7 : But (fun k => k = b) w5 W7 := by rw [hW7]; exact HBt6.out.trans ((But.one _ _).setAt _ _)
      have hlkp : lkp R'.kp R'.wt = some yz := by rw [← HM.out.kp, lkp_map, ← HWt.out, HFd.out]; rfl
      have hfl := filt_len (by have h := HM.out.mp.nodup; rw [List.map_map] at h; exact h) HFd.out
      have HRel : Hid (RcvM W7 Z b mb (.slice p5 (L'.length + 1) c5) (E'.filter fun p => !decide (p.1 = (wt : Int))) (L' ++ [⟨yp, yc, yz⟩]) (stepR R' yz)) := by
        have hP := HP.out
        rw [List.length_append, List.length_singleton] at hP
        refine ⟨hX7, HM5.out.kept (hbt7.block mb HM5.out.lt fun e => HM.out.z.2.2 e.symm), hP.but (hbt7.mono fun k _ e => .inr (.inl e)) fun _ _ h => h, fun q hq => ?_, ?_, ?_, HM.out.z, ?_⟩
        · have h5 := HE5.out q (List.mem_filter.1 hq).1
          exact (h5.kept hbt7.size fun k hk hl => hbt7.block k hl fun e => hk.1 (.inr (.inl e))).mono fun k hk _ => ⟨hk.1, fun e => hk.2 (by rw [← e]; cases p5 <;> rfl)⟩
        · show _ = R'.kp.filter fun p => !decide (p.1 = (R'.wt : Int))
          rw [← HM.out.kp, filt_mapz, ← HWt.out]
        · show _ = R'.rd ++ [yz]
          rw [List.map_append, HM.out.rd]; rfl
        · have h := HOk.out
          have h1 := HWb.out
          have h2 := HWt.out
          have h3 := h.rd
          have h4 := h.wt
          refine ⟨h.ln, h.wi, ⟨by show 1 ≤ R'.wt + 1; omega, by show R'.wt + 1 ≤ _; omega⟩, by show (R'.rd ++ [yz]).length + 1 ≤ R'.wt + 1; rw [List.length_append, List.length_singleton]; omega, fun m hm => ?_, h.wd, fun q hq => h.kp q (List.mem_filter.1 hq).1⟩
          rcases List.mem_append.1 hm with hm | hm
          · exact h.rz m hm
          · simp only [List.mem_singleton] at hm
            subst hm
            exact (h.kp ((wt : Int), m) (by rw [← HM.out.kp]; exact List.mem_map.2 ⟨_, HPm.out, rfl⟩)).2
      have HFu : Hid (readyF (E'.filter fun p => !decide (p.1 = (wt : Int))).length (stepR R' yz) = readyR R) := by
        show _ = _
        rw [← HF.out, ← hfl]
        show _ = readyF ((E'.filter fun p => !decide (p.1 = (wt : Int))).length + 1) R'
        conv => rhs; unfold readyF
        rw [hlkp]
      have HFr7 : Hid (Fr Z w W7) := HFr.out.trans ((Fr.below HB2.out).trans ((HBt3.out.mono fun k _ e hz => HM.out.z.2.1 (by rw [← show k = mb from e]; exact hz) : Fr Z w2 W3).trans ((Fr.below HB4.out).trans (HG5.out.trans (hbt7.mono fun k _ e hz => HM.out.z.1 (by rw [← show k = b from e]; exact hz))))))
      have hms : cntM W7 mb < cntM wr mb := by
        rw [HRel.out.mp.cnt, HM.out.mp.cnt, List.length_map, List.length_map]
        omega
      have HMs := hid hms
      have HW7 := hid hW7
      clear hX7 hbt7 hlkp hfl hW7 hms
      have hwr : wrap64 ((wt : Int) + 1) = (wt : Int) + 1 := by have := HWb.out; unfold wrap64; omega
      have HWr := hid hwr
      clear hwr
      go_wp2
      rw [HWr.out, ← HW7.out]
      exact ⟨⟨_, _, _, _, HRel.out, HFu.out, HFr7.out⟩, HMs.out⟩
end Go.Proofs.YtgnamngnmbaeeaaDoor

namespace Go.Proofs.YtgnamngnmbaeeaaDoor
open Go.RowKit
set_option maxRecDepth 8000
def pktA (R : RA) : List Int := frameOf (bodyB 65 [R.ln, R.wt, R.wd] [])
def AnsQ (R : RA) (w : World) (e : Ending) (w' : World) : Prop := ∃ y : BS, e = .returned y.val ∧ y.zs = pktA R ∧ y.In w' (fun k => w.heap.size ≤ k) ∧ Below w.heap.size w w'
set_option maxHeartbeats 8000000 in
theorem answer_any (w : World) (Z : Nat → Prop) (b : Nat) (R : RA) (h : RcvI w Z b R) (hT : Tab w) : Calls Tryd.prog 23 #[.pointer (some ⟨b, 0, none⟩)] w fun e w' => AnsQ R w e w' := by
  obtain ⟨mb, v, E, L, h⟩ := h
  have hok := h.ok
  have HPk := hid (packet_ans R.ln R.wt R.wd ⟨none, 0, []⟩ w.drew (by have := hok.ln; omega) (by have := hok.wt; omega) (by have := hok.wd; omega) (bs_nil _ _) (by simp) (hT.later (Below.refl _ _).drew))
  have c0 := h.bx.cell 0
  have c2 := h.bx.cell 2
  have c5 := h.bx.cell 5
  have cl := h.bx.lt
  simp at c0 c2 c5
  dsimp only [BS.val, List.length_nil] at HPk
  obtain ⟨ln, hln⟩ : ∃ ln, ln = R.ln := ⟨_, rfl⟩
  obtain ⟨wt, hwt⟩ : ∃ wt, wt = R.wt := ⟨_, rfl⟩
  obtain ⟨wd, hwd⟩ : ∃ wd, wd = R.wd := ⟨_, rfl⟩
  have HP : Hid (pktA R = frameOf (bodyB 65 [ln, wt, wd] [])) := by show pktA R = _; rw [hln, hwt, hwd]; rfl
  have HBl : Hid ((bodyB 65 [ln, wt, wd] []).length ≤ 32768) := bodyB_len (by intro u hu; simp at hu; have := hok.ln; have := hok.wt; have := hok.wd; omega) (by simp) (by simp)
  rw [← hln] at c0 HPk
  rw [← hwt] at c2 HPk
  rw [← hwd] at c5 HPk
  clear h hok hT hln hwt hwd
  go_enter Tryd.func23, Tryd.ntmps23
  go_upto_region 1 with fail
  refine wp_region_calmE 30 (fun wx => Below w.heap.size w wx) [(0, true), (1, true), (2, true), (3, true), (4, false), (5, true), (6, true), (7, true), (8, false), (9, true), (10, true), (11, true), (12, false), (13, true)] (.one 14 false [(15, true)] .done) (by kernel_rfl) (by kernel_rfl) (Below.refl _ _).drew ?_
  refine wpPre_e rfl rfl (fun K1 hK1 => ?_)
  apply Exists.intro
  refine And.intro (fun wx hx => ?_) ?_
  · go_simp
    try rfl
  go_simp
  refine hK1 _ ?_
  clear hK1 K1
  refine wpPre_e rfl rfl (fun K1 hK1 => ?_)
  apply Exists.intro
  refine And.intro (fun wx hx => ?_) ?_
  · go_simp
    try rfl
  go_simp
  refine hK1 _ ?_
  clear hK1 K1
  refine wpPre_e rfl rfl (fun K1 hK1 => ?_)
  apply Exists.intro
  refine And.intro (fun wx hx => ?_) ?_
  · go_simp
    try rfl
  go_simp
  refine hK1 _ ?_
  clear hK1 K1
  refine wpPre_e rfl rfl (fun K1 hK1 => ?_)
  apply Exists.intro
  refine And.intro (fun wx hx => ?_) ?_
  · go_simp
    try rfl
  go_simp
  refine hK1 _ ?_
  clear hK1 K1
  refine wpPre_e rfl rfl (fun K1 hK1 => ?_)
  apply Exists.intro
  refine And.intro (fun wx hx => ?_) ?_
  · have e0 := below_fact hx rfl c0
    have e1 := below_fact hx rfl c2
    have e2 := below_fact hx rfl c5
    go_simp
    try rfl
  go_simp
  refine hK1 _ ?_
  clear hK1 K1
  refine wpPre_e rfl rfl (fun K1 hK1 => ?_)
  apply Exists.intro
  refine And.intro (fun wx hx => ?_) ?_
  · go_simp
    try rfl
  go_simp
  refine hK1 _ ?_
  clear hK1 K1
  refine wpPre_e rfl rfl (fun K1 hK1 => ?_)
  apply Exists.intro
  refine And.intro (fun wx hx => ?_) ?_
  · go_simp
    try rfl
  go_simp
  refine hK1 _ ?_
  clear hK1 K1
  refine wpPre_e rfl rfl (fun K1 hK1 => ?_)
  apply Exists.intro
  refine And.intro (fun wx hx => ?_) ?_
  · go_simp
    try rfl
  go_simp
  refine hK1 _ ?_
  clear hK1 K1
  refine wpPre_e rfl rfl (fun K1 hK1 => ?_)
  apply Exists.intro
  refine And.intro (fun wx hx => ?_) ?_
  · have e0 := below_fact hx rfl c0
    have e1 := below_fact hx rfl c2
    have e2 := below_fact hx rfl c5
    go_simp
    try rfl
  go_simp
  refine hK1 _ ?_
  clear hK1 K1
  refine wpPre_e rfl rfl (fun K1 hK1 => ?_)
  apply Exists.intro
  refine And.intro (fun wx hx => ?_) ?_
  · go_simp
    try rfl
  go_simp
  refine hK1 _ ?_
  clear hK1 K1
  refine wpPre_e rfl rfl (fun K1 hK1 => ?_)
  apply Exists.intro
  refine And.intro (fun wx hx => ?_) ?_
  · go_simp
    try rfl
  go_simp
  refine hK1 _ ?_
  clear hK1 K1
  refine wpPre_e rfl rfl (fun K1 hK1 => ?_)
  apply Exists.intro
  refine And.intro (fun wx hx => ?_) ?_
  · go_simp
    try rfl
  go_simp
  refine hK1 _ ?_
  clear hK1 K1
  refine wpPre_e rfl rfl (fun K1 hK1 => ?_)
  apply Exists.intro
  refine And.intro (fun wx hx => ?_) ?_
  · have e0 := below_fact hx rfl c0
    have e1 := below_fact hx rfl c2
    have e2 := below_fact hx rfl c5
    go_simp
    try rfl
  go_simp
  refine hK1 _ ?_
  clear hK1 K1
  refine wpPre_e rfl rfl (fun K1 hK1 => ?_)
  apply Exists.intro
  refine And.intro (fun wx hx => ?_) ?_
  · go_simp
    try rfl
  go_simp
  refine hK1 _ ?_
  clear hK1 K1
  refine wpPre_nil ?_
  refine wpTr_e rfl (fun K1 hK1 => ?_)
  refine step_callG (by first | rfl | go_simp) 50 #[.tmp 16] _ rfl Tryd.f50 Tryd.func50 (by kernel_rfl) rfl #[.agg #[.int .u8 65, .int .i64 (ln : Int), .int .i64 (wt : Int), .int .i64 (wd : Int), .slice none 0 0]] rfl _ (HPk.out) ?_
  rintro e_ w2 ⟨p2, c2', rfl, hO2, hb2⟩
  refine ⟨_, rfl, ?_⟩
  have HB2 : Hid (Below w.heap.size w w2) := (Below.refl _ _).drew.trans (hb2.mono (Nat.le_refl _))
  have HI : Hid (BS.In w2 (fun k => w.heap.size ≤ k) ⟨p2, c2', frameOf (bodyB 65 [ln, wt, wd] [])⟩) := (own_in hO2 (by rw [frameOf_length]; have := HBl.out; omega) hO2.cap.2).mono fun k hk _ => hk.1
  clear hO2 hb2 HPk
  go_simp
  refine hK1 _ _ (fun h => by cases h) ?_
  clear hK1 K1
  refine wpPre_e rfl rfl (fun K1 hK1 => ?_)
  apply Exists.intro
  refine And.intro (fun wx hx => ?_) ?_
  · go_simp
    try rfl
  go_simp
  refine hK1 _ ?_
  clear hK1 K1
  refine wpPre_nil ?_
  refine wpTr_done ?_
  go_wp2
  exact bodyPost_ret (v := .slice p2 (frameOf (bodyB 65 [ln, wt, wd] [])).length c2') (by simp [results, Tryd.results23, go_sem]) rfl ⟨⟨p2, c2', frameOf (bodyB 65 [ln, wt, wd] [])⟩, rfl, HP.out.symm, HI.out, HB2.out⟩
theorem wpList_min {ops : Array Oper} {rest : List Oper} {o : Oper} {act : Act} {w : World} {Q : Exit → Act → World → Prop} (hg : o.guard = none) (x y : Operand) (hop : o.op = Op.call { callee := Callee.builtin Builtin.min, args := #[x, y], argTypes := #[3, 3] })
    (a b m : Int) (hx : act.eval x = .int .i64 a) (hy : act.eval y = .int .i64 b) (hm : (if b < a then b else a) = m)
    (h : wpList Tryd.prog ops Q rest (act.put o.dst (.int .i64 m)) w) : wpList Tryd.prog ops Q (o :: rest) act w := by
  refine wpList_plain hg fun K hK => ?_
  unfold Oper.wp
  simp [execOp, hop, resolve, invoke, builtin, hx, hy, Builtin.min_, Builtin.min2, hm]
  exact hK _ _ h
theorem wpList_max {ops : Array Oper} {rest : List Oper} {o : Oper} {act : Act} {w : World} {Q : Exit → Act → World → Prop} (hg : o.guard = none) (x y : Operand) (hop : o.op = Op.call { callee := Callee.builtin Builtin.max, args := #[x, y], argTypes := #[3, 3] })
    (a b m : Int) (hx : act.eval x = .int .i64 a) (hy : act.eval y = .int .i64 b) (hm : (if a < b then b else a) = m)
    (h : wpList Tryd.prog ops Q rest (act.put o.dst (.int .i64 m)) w) : wpList Tryd.prog ops Q (o :: rest) act w := by
  refine wpList_plain hg fun K hK => ?_
  unfold Oper.wp
  simp [execOp, hop, resolve, invoke, builtin, hx, hy, Builtin.max_, Builtin.max2, hm]
  exact hK _ _ h
def MnP (n m : Int) : Prop := (if (1073741824 : Int) < n then (1073741824 : Int) else n) = m
def tellR (R : RA) (n : Int) : RA := { R with wd := max R.wd (min n 1073741824).toNat }
set_option maxHeartbeats 4000000 in
theorem tell_any (w : World) (Z : Nat → Prop) (b : Nat) (R : RA) (h : RcvI w Z b R) (n : Int) : Calls Tryd.prog 45 #[.pointer (some ⟨b, 0, none⟩), .int .i64 n] w fun e w' => e = .returned (.tuple #[]) ∧ RcvQ w Z b (tellR R n) w' := by
  obtain ⟨mb, v, E, L, h⟩ := h
  have c5 := h.bx.cell 5
  have cl := h.bx.lt
  have cf := h.bx.frozen
  simp at c5
  obtain ⟨wd, hwd⟩ : ∃ wd, wd = R.wd := ⟨_, rfl⟩
  have hw30 := h.ok.wd
  have HM := hid h
  have HWd := hid hwd
  obtain ⟨X, hX⟩ : ∃ X : Nat, X = max wd (min n 1073741824).toNat := ⟨_, rfl⟩
  have hX30 : X ≤ 1073741824 := by omega
  rw [← hwd] at c5 hw30
  obtain ⟨W2, hW2⟩ : ∃ W, W = w.setCell ⟨b, 5, none⟩ (.int .i64 (X : Int)) := ⟨_, rfl⟩
  have hbt : But (fun k => k = b) w W2 := by rw [hW2]; exact (But.one _ _).setAt _ _
  have hX2 : Box W2 b #[.int .i64 (R.ln : Int), .int .i64 (R.wi : Int), .int .i64 (R.wt : Int), .map (some mb), v, .int .i64 (X : Int)] 106 := by rw [hW2]; exact h.bx.set 5 _
  have HQ : Hid (RcvQ w Z b (tellR R n) W2) := by
    have e : tellR R n = { R with wd := X } := by unfold tellR; rw [hX, hwd]
    rw [e]
    refine ⟨⟨mb, v, E, L, ⟨hX2, HM.out.mp.kept (hbt.block mb HM.out.mp.lt fun e => HM.out.z.2.2 e.symm), HM.out.row.but (hbt.mono fun k _ e => .inr (.inl e)) fun _ _ h => h, fun p hp => (HM.out.ent p hp).kept hbt.size fun k hk hl => hbt.block k hl fun e => hk.1 (.inr (.inl e)), HM.out.kp, HM.out.rd, HM.out.z, ?_⟩⟩, hbt.mono fun k _ e hz => HM.out.z.1 (by rw [← show k = b from e]; exact hz)⟩
    have h1 := HM.out.ok
    exact ⟨h1.ln, h1.wi, h1.wt, h1.rd, h1.rz, hX30, h1.kp⟩
  have hmm : ∀ a : Int, a = (X : Int) → w.setCell ⟨b, 5, none⟩ (.int .i64 a) = W2 := fun a ha => by rw [ha, hW2]
  have HMm := hid hmm
  have HX := hid hX
  clear h hwd hw30 hX hX30 hW2 hbt hX2 hmm
  obtain ⟨m1, hm1⟩ : ∃ m1 : Int, m1 = min n 1073741824 := ⟨_, rfl⟩
  have HM1 : MnP n m1 := by show _ = m1; rw [hm1]; split <;> omega
  have HM2 : Hid ((if (wd : Int) < m1 then m1 else (wd : Int)) = (X : Int)) := by show _ = (X : Int); have := HX.out; rw [← hm1] at this; split <;> omega
  clear hm1 HX
  go_enter Tryd.func45, Tryd.ntmps45
  go_upto_region 0 with fail
  refine wp_region_lit ?_
  iterate 6 (refine wpList_step (fun K1 hK1 => ?_); go_simp; refine hK1 _ _ ?_; clear hK1 K1)
  refine wpList_min rfl (.tmp 9) (.const (.int .i64 1073741824)) rfl n 1073741824 m1 rfl rfl HM1 ?_
  refine wpList_max rfl (.tmp 8) (.tmp 10) rfl (wd : Int) m1 (X : Int) rfl rfl HM2.out ?_
  iterate 3 (refine wpList_step (fun K1 hK1 => ?_); go_simp; refine hK1 _ _ ?_; clear hK1 K1)
  refine wpList_nil ?_
  rw [HMm.out _ rfl]
  exact bodyPost_end (v := .tuple #[]) (by simp [results, Tryd.results45, go_sem]) rfl ⟨rfl, HQ.out⟩
end Go.Proofs.YtgnamngnmbaeeaaDoor
