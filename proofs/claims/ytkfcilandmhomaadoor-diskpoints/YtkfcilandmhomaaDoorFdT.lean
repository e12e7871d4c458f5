import Derived.Test.YtkfcilandmhomaaDoorFdS
namespace Go.Proofs.YtkfcilandmhomaaDoor
open Go.RowKit
set_option maxRecDepth 8000
theorem Ds.tswap {w : World} {Z : Nat → Prop} {x y z : Nat × AK} {l : List (Nat × AK)} (h : Ds w Z (x :: y :: z :: l)) : Ds w Z (x :: z :: y :: l) := by
  obtain ⟨D, C, hI, h1, hc, hl⟩ := h
  exact ⟨D, C, hI, h1, hc, hl.swap⟩
section
variable {w : World} {Z : Nat → Prop} {d : Nat} {A : AK} {l : List (Nat × AK)}
theorem ds_arm (h : Ds w Z ((d, A) :: l)) (u : Int) (hu : u ≤ 9223372036854775807) :
    Calls Tryd.prog 20 #[.pointer (some ⟨d, 0, none⟩), .int .i64 u] w fun e w' => e = .returned (.tuple #[]) ∧ Ds w' Z ((d, armA A u) :: l) ∧ Fr Z w w' := by
  obtain ⟨Y, D, ⟨C, hI, h2, h3⟩, hr, hz, hS⟩ := h.one
  refine (darm_any D u w C d hI hu).mono fun e w' hq => ⟨hq.1, hS w' _ ?_⟩
  exact DQ.of h2 h3 hq.2.chg (hr.arm_ u)
theorem ds_append (h : Ds w Z ((d, A) :: l)) (s : ByteArray) (p : Option Addr) (c : Nat) (zs : List Int) (hs : s.size ≤ 140737488355328) (hB : Byts w Z p zs.length c (fun j => zs.getD j 0)) (hzl : zs.length ≤ 100000000) :
    Calls Tryd.prog 22 #[.pointer (some ⟨d, 0, none⟩), .string s, .slice p zs.length c] w fun e w' => e = .returned (.int .i64 (appA A s zs.length)) ∧ Ds w' Z ((d, appK A s zs) :: l) ∧ Fr Z w w' := by
  obtain ⟨Y, D, hM, hr, hz, hS⟩ := h.one
  exact (dm_append hM hr s p c zs hs (hB.mono fun b hb _ => hz b hb) hzl).mono fun e w' hq => ⟨hq.1, hS w' _ hq.2⟩
end
theorem byts_take {w : World} {S : Nat → Prop} {p : Option Addr} {zs : List Int} {c : Nat} (h : Byts w S p zs.length c (fun j => zs.getD j 0)) (n : Nat) (hn : n ≤ zs.length) : Byts w S p (zs.take n).length c (fun j => (zs.take n).getD j 0) := by
  have hl : (zs.take n).length = n := by rw [List.length_take]; omega
  have hg : ∀ j, j < n → (zs.take n).getD j 0 = zs.getD j 0 := fun j hj => by
    rw [List.getD_eq_getElem?_getD, List.getD_eq_getElem?_getD, List.getElem?_take_of_lt hj]
  rw [hl]
  exact ⟨fun h0 => by obtain ⟨b, o, e, hS, hlt, ha⟩ := h.at_ (by omega); exact ⟨b, o, e, hS, hlt, fun j hj => by rw [hg j hj]; exact ha j (by omega)⟩, Nat.le_trans hn h.nc, Nat.le_trans hn h.nn, h.cc, fun j hj => by rw [hg j hj]; exact h.fit j (by omega), fun e => ⟨by have := (h.nil e).1; omega, (h.nil e).2⟩⟩
/-- the armed disk and the part, where the armed one can't go on -/
structure L3 (P : LT OpD) (k : Nat) (A B : AK) : Prop where
  go : k < P.n → opE A (P.item k) = 100 ∧ (opK A (P.item k)).down = true ∧ (opK A (P.item k)).ks = B.ks
  done : k = P.n → A.ks = B.ks
theorem L3.step {P : LT OpD} {k : Nat} {A B : AK} (h : L3 P k A B) (hk : k < P.n) (hkd : ∀ j, j < P.n → 1 ≤ (P.item j).kind ∧ (P.item j).kind ≤ 4) (hnm : ∀ j, j < P.n → nmB (P.item j).name = true) : opE A (P.item k) = 100 ∧ L3 P (k + 1) (opK A (P.item k)) B := by
  obtain ⟨h1, h2, h3⟩ := h.go hk
  refine ⟨h1, fun hk2 => ?_, fun _ => h3⟩
  obtain ⟨e1, e2⟩ := down_does h2 (hkd (k + 1) hk2) (hnm (k + 1) hk2)
  rw [e2]
  exact ⟨e1, h2, h3⟩
/-- a call's cells -/
def OpAt (W : World) (b q : Nat) (o : OpD) : Prop := W.cell? ⟨b, q, none⟩ = some (.int .i64 o.kind) ∧ W.cell? ⟨b, q + 1, none⟩ = some (.int .i64 o.which) ∧ W.cell? ⟨b, q + 2, none⟩ = some (.string o.name) ∧ W.cell? ⟨b, q + 3, none⟩ = some (.int .i64 o.n) ∧ W.cell? ⟨b, q + 4, none⟩ = some (.int .i64 o.after) ∧ W.cell? ⟨b, q + 5, none⟩ = some (.slice o.bp o.zs.length o.bc) ∧ W.cell? ⟨b, q + 6, none⟩ = some (.slice o.K.p o.K.n o.K.c)
theorem op_at {P : LT OpD} {w : World} (h : LT.In elD w (fun b => b < w.heap.size) P) {i : Nat} (hi : i < P.n) : ∃ bb bo, P.p = some ⟨bb, bo, none⟩ ∧ ∀ W, Below w.heap.size w W → OpAt W bb (bo + i * 7) (P.item i) := by
  obtain ⟨bb, bo, hp, _, hbb, hat⟩ := h.at_ (by omega)
  refine ⟨bb, bo, hp, fun W hW => ?_⟩
  have hce : ∀ r u, (elD.cells (P.item i))[r]? = some u → W.cell? ⟨bb, bo + i * 7 + r, none⟩ = some u := fun r u hu => (World.cell?_of_block (a := ⟨bb, bo + i * 7 + r, none⟩) (hW.block bb hbb)).trans (hat i hi r u hu)
  exact ⟨hce 0 _ rfl, hce 1 _ rfl, hce 2 _ rfl, hce 3 _ rfl, hce 4 _ rfl, hce 5 _ rfl, hce 6 _ rfl⟩
set_option maxHeartbeats 16000000 in
theorem diskPoints_walk (P : LT OpD) (x1 : Int) (w : World) (hx1 : -9223372036854775808 ≤ x1 ∧ x1 ≤ 9223372036854775807) (hP : LT.In elD w (fun b => b < w.heap.size) P) :
    Calls Tryd.prog 5 #[.slice P.p P.n P.c, .int .i64 x1] w fun e w' => e = .returned (.bool true) ∧ Below w.heap.size w w' := by
  obtain ⟨Z, hZ⟩ : ∃ Z : Nat → Prop, Z = fun k => k < w.heap.size := ⟨_, rfl⟩
  have HPZ : Hid (LT.In elD w Z P) := by show LT.In _ _ _ _; rw [hZ]; exact hP
  have HLo : Hid (∀ W, Fr Z w W → Below w.heap.size w W) := by intro W h; rw [hZ] at h; exact fr_below h
  have HZl : Hid (∀ k, Z k → k < w.heap.size) := by intro k hk; rw [hZ] at hk; exact hk
  have HP := hid hP
  have hpn := hP.nn
  have HFt := hid (fits_nil P w _ hP)
  clear hP hZ
  go_enter Tryd.func5, Tryd.ntmps5
  go_wp2_with fail
  refine HFt.out.mono ?_
  rintro e w0 ⟨q, rfl, hb0, hq⟩
  have HB0 := hid hb0
  clear hb0 HFt
  cases q with
  | false =>
    as_aux_lemma =>
    go_wp2
    exact bodyPost_ret (v := .bool true) (by simp [results, Tryd.results5, go_sem]) rfl (⟨rfl, HB0.out⟩)
  | true =>
    as_aux_lemma =>
    obtain ⟨hp4, hpz⟩ := hq rfl
    have HPz := hid hpz
    have HF0 : Hid (Fr Z w w0) := Fr.of HB0.out
    clear hq hpz
    go_wp2_with fail
    go_loopw [5] (fun x wr => ∃ i : Nat, i ≤ P.n ∧ x = .int .i64 (i : Int) ∧ (∀ j, j < i → 1 ≤ (P.item j).kind ∧ (P.item j).kind ≤ 4) ∧ Fr Z w wr) (fun x _ => P.n - (intOf x).toNat)
    case atStart => exact ⟨0, Nat.zero_le _, rfl, fun j h => absurd h (by omega), HF0.out⟩
    case round =>
      obtain ⟨i, hi, rfl, hKd, hf⟩ := hrel
      have HKd := hid hKd
      have HF := hid hf
      clear hKd hf HF0
      by_cases hlt : i < P.n
      · as_aux_lemma =>
        obtain ⟨bb, bo, hp, hat⟩ := op_at HP.out (show i < P.n by omega)
        obtain ⟨o, ho⟩ : ∃ o, o = P.item i := ⟨_, rfl⟩
        rw [← ho] at hat
        have HAt : Hid (∀ W, Fr Z w W → OpAt W bb (bo + i * 7) o) := fun W hW => hat W (HLo.out W hW)
        have HOw : Hid (OpI w Z o.name o.n o.after o.bp o.zs o.bc o.K) := by show OpI _ _ _ _ _ _ _ _ _; rw [ho]; exact op_in (HPZ.out.each i (by omega)) (HPz.out i (by omega))
        have HOe := hid ho
        clear hat ho
        rw [hp]
        obtain ⟨c0, c1, c2, c3, c4, c5, c6⟩ := HAt.out wr HF.out
        have hlt' : (i : Int) < (P.n : Int) := by omega
        by_cases hk1 : o.kind < 1
        · go_wp2
          exact bodyPost_ret (v := .bool true) (by simp [results, Tryd.results5, go_sem]) rfl (⟨rfl, HLo.out _ HF.out⟩)
        · by_cases hk4 : 4 < o.kind
          · go_wp2
            exact bodyPost_ret (v := .bool true) (by simp [results, Tryd.results5, go_sem]) rfl (⟨rfl, HLo.out _ HF.out⟩)
          · have HKn : Hid (∀ j, j < i + 1 → 1 ≤ (P.item j).kind ∧ (P.item j).kind ≤ 4) := by
              intro j hj
              by_cases hji : j < i
              · exact HKd.out j hji
              · obtain rfl : j = i := by omega
                rw [← HOe.out]
                omega
            go_wp2
            go_roundw
            case rel => exact ⟨i + 1, by omega, by go_num, HKn.out, HF.out⟩
            case measure => simp [intOf]; omega
      · as_aux_lemma =>
        have hlt' : ¬ (i : Int) < (P.n : Int) := by omega
        have HKa : Hid (∀ j, j < P.n → 1 ≤ (P.item j).kind ∧ (P.item j).kind ≤ 4) := fun j hj => HKd.out j (by omega)
        clear HKd
        have HKd := hid HKa.out
        clear HKa
        have HZw : Hid (Ds wr Z []) := fun k hk => Nat.lt_of_lt_of_le (HZl.out k hk) HF.out.size
        have HNw1 := hid (ds_nil HZw.out)
        go_upto_region 8 with fail
        go_wp2_with fail
        refine HNw1.out.mono ?_
        rintro e w1 ⟨df, rfl, hm1, hb1⟩
        have HF1 : Hid (Fr Z w w1) := HF.out.trans (Fr.of hb1)
        have HMn1 := hid hm1
        clear hm1 hb1 HNw1
        have HNw2 := hid (ds_nil HMn1.out)
        go_upto_region 9 with fail
        go_wp2_with fail
        refine HNw2.out.mono ?_
        rintro e w2 ⟨da, rfl, hm2, hb2⟩
        have HF2 : Hid (Fr Z w w2) := HF1.out.trans (Fr.of hb2)
        have HMn2 := hid hm2
        clear hm2 hb2 HNw2
        have HNw3 := hid (ds_nil HMn2.out)
        go_upto_region 10 with fail
        go_wp2_with fail
        refine HNw3.out.mono ?_
        rintro e w3 ⟨dp, rfl, hm3, hb3⟩
        have HF3 : Hid (Fr Z w w3) := HF2.out.trans (Fr.of hb3)
        have HMn3 := hid hm3
        clear hm3 hb3 HNw3
        have HT3 := hid HMn3.out.swap.tswap.swap
        clear HMn1 HMn2 HMn3 HF1 HF2 HF HZw
        go_upto_region 11 with fail
        have HN1 := hid (num_any 0 w3)
        go_wp2_with fail
        refine HN1.out.mono ?_
        rintro e w3' ⟨rfl, hw3⟩
        obtain rfl := hw3.symm
        clear HN1
        have HN1 := hid (num_any 0 w3)
        go_wp2_with fail
        refine HN1.out.mono ?_
        rintro e w3' ⟨rfl, hw3⟩
        obtain rfl := hw3.symm
        clear HN1
        have HN1 := hid (num_any 0 w3)
        go_wp2_with fail
        refine HN1.out.mono ?_
        rintro e w3' ⟨rfl, hw3⟩
        obtain rfl := hw3.symm
        clear HN1
        have HWk := hid (ds_works HT3.out)
        go_wp2_with fail
        refine HWk.out.mono ?_
        rintro e w4 ⟨rfl, hm4, hf4⟩
        have HF4 : Hid (Fr Z w w4) := HF3.out.trans hf4
        have HWl := hid (ds_works hm4.swap)
        clear hm4 hf4 HWk HF3 HT3
        go_wp2_with fail
        refine HWl.out.mono ?_
        rintro e w5 ⟨rfl, hm5, hf5⟩
        have HF5' : Hid (Fr Z w w5) := HF4.out.trans hf5
        have HWm := hid (ds_works hm5.tswap.swap)
        clear hm5 hf5 HWl HF4
        go_wp2_with fail
        refine HWm.out.mono ?_
        rintro e w6 ⟨rfl, hm6, hf6⟩
        have HS5 : Hid (Ds w6 Z [(df, Fst P 0), (da, A0), (dp, A0)]) := hm6.tswap.swap.tswap
        have HF5 : Hid (Fr Z w w6) := HF5'.out.trans hf6
        clear hm6 hf6 HWm HF5'
        go_wp2_with fail
        go_loopw [12] (fun x wr => ∃ i : Nat, i ≤ P.n ∧ x = .int .i64 (i : Int) ∧ Ds wr Z [(df, Fst P i), (da, A0), (dp, A0)] ∧ (∀ j, j < i → opE (Fst P j) (P.item j) = 0) ∧ Fr Z w wr) (fun x _ => P.n - (intOf x).toNat)
        case atStart => exact ⟨0, Nat.zero_le _, rfl, HS5.out, fun j h => absurd h (by omega), HF5.out⟩
        case round =>
          obtain ⟨i, hi, rfl, hM, hZr, hf⟩ := hrel
          have HM := hid hM
          have HZr := hid hZr
          have HF := hid hf
          clear hM hZr hf HS5 HF5
          by_cases hlt : i < P.n
          · as_aux_lemma =>
            obtain ⟨bb, bo, hp, hat⟩ := op_at HP.out (show i < P.n by omega)
            obtain ⟨o, ho⟩ : ∃ o, o = P.item i := ⟨_, rfl⟩
            rw [← ho] at hat
            have HAt : Hid (∀ W, Fr Z w W → OpAt W bb (bo + i * 7) o) := fun W hW => hat W (HLo.out W hW)
            have HOw : Hid (OpI w Z o.name o.n o.after o.bp o.zs o.bc o.K) := by show OpI _ _ _ _ _ _ _ _ _; rw [ho]; exact op_in (HPZ.out.each i (by omega)) (HPz.out i (by omega))
            have HOe := hid ho
            clear hat ho
            rw [hp]
            obtain ⟨c0, c1, c2, c3, c4, c5, c6⟩ := HAt.out wr HF.out
            have hlt' : (i : Int) < (P.n : Int) := by omega
            obtain ⟨x, hx⟩ : ∃ x, x = opE (Fst P i) o := ⟨_, rfl⟩
            have hdo := ds_does HM.out o.kind o.which o.name o.n o.after o.bp o.zs o.bc o.K (HOw.out.fr HF.out)
            change Calls _ _ _ _ (fun e w' => e = .returned (.int .i64 (opE (Fst P i) o)) ∧ Ds w' Z [(df, opK (Fst P i) o), (da, A0), (dp, A0)] ∧ Fr Z wr w') at hdo
            rw [← hx] at hdo
            have HDo := hid hdo
            have HXe := hid hx
            clear hx hdo
            go_wp2_with fail
            refine HDo.out.mono ?_
            rintro e w3 ⟨rfl, hm3, hf3⟩
            have HM3 := hid hm3
            have HF3 : Hid (Fr Z w w3) := HF.out.trans hf3
            clear hm3 hf3 HDo c0 c1 c2 c3 c4 c5 c6
            by_cases hx0 : x = 0
            · subst hx0
              have HZn : Hid (∀ j, j < i + 1 → opE (Fst P j) (P.item j) = 0) := by
                intro j hj
                by_cases hji : j < i
                · exact HZr.out j hji
                · obtain rfl : j = i := by omega
                  rw [← HOe.out]
                  exact HXe.out.symm
              have HM4 : Hid (Ds w3 Z [(df, Fst P (i + 1)), (da, A0), (dp, A0)]) := by
                show Ds w3 Z [(df, opK (Fst P i) (P.item i)), (da, A0), (dp, A0)]
                rw [← HOe.out]
                exact HM3.out
              go_wp2
              go_roundw
              case rel => exact ⟨i + 1, by omega, by go_num, HM4.out, HZn.out, HF3.out⟩
              case measure => simp [intOf]; omega
            · have hx0' : (x == 0) = false := by simpa using hx0
              go_wp2
              exact bodyPost_ret (v := .bool true) (by simp [results, Tryd.results5, go_sem]) rfl (⟨rfl, HLo.out _ HF3.out⟩)
          · as_aux_lemma =>
            have hlt' : ¬ (i : Int) < (P.n : Int) := by omega
            have hin : i = P.n := by omega
            have HZall : Hid (∀ j, j < P.n → opE (Fst P j) (P.item j) = 0) := fun j hj => HZr.out j (by omega)
            have HNm : Hid (∀ j, j < P.n → nmB (P.item j).name = true) := fun j hj => (ok_of (fst_free P HKd.out j (by omega)) (HKd.out j hj) (HZall.out j hj)).1
            obtain ⟨l0, hl0e⟩ : ∃ l0 : Int, l0 = max x1 0 := ⟨_, rfl⟩
            have hl0 : 0 ≤ l0 ∧ l0 ≤ 9223372036854775807 := by omega
            have harm : armA A0 l0 = A0.lf l0 := by
              unfold armA
              rw [if_neg (by decide), show max l0 (-1) = l0 by omega]
              rfl
            have har := ds_arm HM.out.drop l0 hl0.2
            rw [harm] at har
            have HAr := hid har
            clear har harm HZr hin
            have HZr := hid HZall.out
            clear HZall
            go_upto_region 19 with fail
            rw [← hl0e]
            clear hl0e
            go_wp2_with fail
            refine HAr.out.mono ?_
            rintro e w7 ⟨rfl, hm7, hf7⟩
            have HS7 : Hid (Ds w7 Z [(da, (Fst P 0).lf l0), (dp, Fst P 0)]) := hm7
            have HF7 : Hid (Fr Z w w7) := HF.out.trans hf7
            clear hm7 hf7 HAr HM HF
            go_upto_region 20 with fail
            go_wp2_with fail
            go_loopw [13, 14] (fun v x wr => ∃ (t : Nat) (l : Int), t ≤ P.n ∧ (0 ≤ l ∧ l ≤ 9223372036854775807) ∧ x = .int .i64 (t : Int) ∧ v = .int .i64 l ∧ Ds wr Z [(da, (Fst P t).lf l), (dp, Fst P t)] ∧ Fr Z w wr) (fun _ x _ => P.n - (intOf x).toNat)
            case atStart => exact ⟨0, l0, Nat.zero_le _, hl0, rfl, rfl, HS7.out, HF7.out⟩
            case round =>
              obtain ⟨t, l, ht, hl, rfl, rfl, hM, hf⟩ := hrel
              have HM := hid hM
              have HF := hid hf
              clear hM hf HS7 HF7
              by_cases hlt : t < P.n
              · as_aux_lemma =>
                obtain ⟨bz, bq, hp, hat⟩ := op_at HP.out (show t < P.n by omega)
                obtain ⟨o, ho⟩ : ∃ o, o = P.item t := ⟨_, rfl⟩
                rw [← ho] at hat
                have HAt : Hid (∀ W, Fr Z w W → OpAt W bz (bq + t * 7) o) := fun W hW => hat W (HLo.out W hW)
                have HOw : Hid (OpI w Z o.name o.n o.after o.bp o.zs o.bc o.K) := by show OpI _ _ _ _ _ _ _ _ _; rw [ho]; exact op_in (HPZ.out.each t (by omega)) (HPz.out t (by omega))
                have HOe := hid ho
                clear hat ho
                have HP0 := hid hp
                rw [hp]
                obtain ⟨c0, c1, c2, c3, c4, c5, c6⟩ := HAt.out wr HF.out
                have hlt' : (t : Int) < (P.n : Int) := by omega
                obtain ⟨c, hc⟩ : ∃ c, c = opC o := ⟨_, rfl⟩
                have hcs : Calls Tryd.prog 21 #[.agg #[.int .i64 o.kind, .int .i64 o.which, .string o.name, .int .i64 o.n, .int .i64 o.after, .slice o.bp o.zs.length o.bc, .slice o.K.p o.K.n o.K.c]] wr fun e w' => e = .returned (.int .i64 (opC o)) ∧ Below wr.heap.size wr w' := cost_any wr o.kind o.which o.name o.n o.after o.bp o.zs o.bc o.K HOw.out.hzl
                rw [← hc] at hcs
                have HCs := hid hcs
                have hc0 : 1 ≤ c := by rw [hc]; unfold opC; split <;> omega
                have HCe := hid hc
                clear hcs hc
                go_wp2_with fail
                refine HCs.out.mono ?_
                rintro e w3 ⟨rfl, hb3⟩
                have HF3 : Hid (Fr Z w w3) := HF.out.trans (Fr.of hb3)
                have HM3 := hid (HM.out.bel hb3)
                clear hb3 HCs c0 c1 c2 c3 c4 c5 c6
                obtain ⟨c0, c1, c2, c3, c4, c5, c6⟩ := HAt.out w3 HF3.out
                by_cases hcl : c ≤ l
                · as_aux_lemma =>
                  have hok := arm_ok (fst_free P HKd.out t (by omega)) (show 1 ≤ o.kind ∧ o.kind ≤ 4 by rw [HOe.out]; exact HKd.out t (by omega)) (by rw [HOe.out]; exact HZr.out t (by omega)) hl.1 (show opC o ≤ l by rw [← HCe.out]; omega)
                  have hz0 : opE (Fst P t) o = 0 := by rw [HOe.out]; exact HZr.out t (by omega)
                  have hd1 := ds_does HM3.out o.kind o.which o.name o.n o.after o.bp o.zs o.bc o.K (HOw.out.fr HF3.out)
                  change Calls _ _ _ _ (fun e w' => e = .returned (.int .i64 (opE ((Fst P t).lf l) o)) ∧ Ds w' Z [(da, opK ((Fst P t).lf l) o), (dp, Fst P t)] ∧ Fr Z w3 w') at hd1
                  rw [hok.1, hok.2, ← HCe.out] at hd1
                  have HD1 := hid hd1
                  have HZ0 := hid hz0
                  clear hok hz0 hd1
                  go_upto_region 22 with fail
                  go_wp2_with fail
                  refine HD1.out.mono ?_
                  rintro e w4 ⟨rfl, hm4, hf4⟩
                  have HF4 : Hid (Fr Z w w4) := HF3.out.trans hf4
                  have hd2 := ds_does hm4.swap o.kind o.which o.name o.n o.after o.bp o.zs o.bc o.K (HOw.out.fr HF4.out)
                  change Calls _ _ _ _ (fun e w' => e = .returned (.int .i64 (opE (Fst P t) o)) ∧ Ds w' Z [(dp, opK (Fst P t) o), (da, (opK (Fst P t) o).lf (l - c))] ∧ Fr Z w4 w') at hd2
                  rw [HZ0.out] at hd2
                  have HD2 := hid hd2
                  clear hm4 hf4 HD1 hd2 c0 c1 c2 c3 c4 c5 c6
                  obtain ⟨c0, c1, c2, c3, c4, c5, c6⟩ := HAt.out w4 HF4.out
                  go_wp2_with fail
                  refine HD2.out.mono ?_
                  rintro e w5 ⟨rfl, hm5, hf5⟩
                  have HF5 : Hid (Fr Z w w5) := HF4.out.trans hf5
                  have hm5s := hm5.swap
                  have HM5 := hid hm5s
                  have hcs : Calls Tryd.prog 21 #[.agg #[.int .i64 o.kind, .int .i64 o.which, .string o.name, .int .i64 o.n, .int .i64 o.after, .slice o.bp o.zs.length o.bc, .slice o.K.p o.K.n o.K.c]] w5 fun e w' => e = .returned (.int .i64 (opC o)) ∧ Below w5.heap.size w5 w' := cost_any w5 o.kind o.which o.name o.n o.after o.bp o.zs o.bc o.K HOw.out.hzl
                  rw [← HCe.out] at hcs
                  have HCs := hid hcs
                  clear hm5 hm5s hf5 HD2 hcs c0 c1 c2 c3 c4 c5 c6
                  obtain ⟨c0, c1, c2, c3, c4, c5, c6⟩ := HAt.out w5 HF5.out
                  go_upto_region 24 with fail
                  go_wp2_with fail
                  refine HCs.out.mono ?_
                  rintro e w6 ⟨rfl, hb6⟩
                  have HF6 : Hid (Fr Z w w6) := HF5.out.trans (Fr.of hb6)
                  have HM6 : Hid (Ds w6 Z [(da, (Fst P (t + 1)).lf (l - c)), (dp, Fst P (t + 1))]) := by
                    show Ds w6 Z [(da, (opK (Fst P t) (P.item t)).lf (l - c)), (dp, opK (Fst P t) (P.item t))]
                    rw [← HOe.out]
                    exact HM5.out.bel hb6
                  have hw1 : wrap64 (l - c) = l - c := by rw [wrap64]; omega
                  clear hb6 HCs HM5 c0 c1 c2 c3 c4 c5 c6
                  go_wp2
                  go_roundw
                  case rel => exact ⟨t + 1, l - c, by omega, by omega, by go_num, by first | rfl | go_num, HM6.out, HF6.out⟩
                  case measure => simp [intOf]; omega
                · as_aux_lemma =>
                  have har := arm_no (fst_free P HKd.out t (by omega)) (by rw [HOe.out]; exact HKd.out t (by omega)) (by rw [HOe.out]; exact HZr.out t (by omega)) hl.1 (show l < opC o by rw [← HCe.out]; omega)
                  have HAr := hid har
                  clear har
                  by_cases hk1 : o.kind = 1
                  · as_aux_lemma =>
                    obtain ⟨nl, hnl⟩ : ∃ nl : Nat, l = (nl : Int) := ⟨l.toNat, by omega⟩
                    subst hnl
                    obtain ⟨r1, r2, r3, r4⟩ := HAr.out
                    obtain ⟨r5, r6⟩ := r3 hk1
                    have hCo : opC o = (o.zs.length : Int) + 1 := by unfold opC; rw [if_pos hk1]
                    have hnz : nl ≤ o.zs.length := by have := HCe.out; omega
                    have hbc : nl ≤ o.bc := Nat.le_trans hnz HOw.out.hB.nc
                    have hcl : (o.zs.take nl).length = nl := by rw [List.length_take]; omega
                    have hap := ds_append (HM3.out.swap.bel (Below.refl _ _).drew) o.name o.bp o.bc (o.zs.take nl) HOw.out.hs (byts_take ((HOw.out.fr HF3.out).hB.below (Below.refl _ _).drew) nl hnz) (by have := HOw.out.hzl; omega)
                    rw [hcl] at hap
                    rw [show appA (Fst P t) o.name nl = 0 from r5] at hap
                    have HAp := hid hap
                    have HL9 : Hid (L3 P t ((Fst P t).lf (nl : Int)) (appK (Fst P t) o.name (o.zs.take nl))) := ⟨fun _ => by rw [← HOe.out]; exact ⟨r1, r2, r6⟩, fun h => absurd h (by omega)⟩
                    rw [hk1] at c0
                    clear r1 r2 r3 r4 r5 r6 hCo hnz hcl hap HAr hk1
                    go_upto_region 27 with fail
                    refine wp_region_calmE 30 (fun wx => Below w3.heap.size w3 wx) [(0, true), (1, true), (2, true), (3, true), (4, true), (5, false), (6, true), (7, true), (8, true), (9, true), (10, false), (11, true), (12, true)] (.one 13 false [] (.one 14 false [(15, true)] .done)) (by kernel_rfl) (by kernel_rfl) (Below.refl _ _).drew ?_
                    refine wpPre_e rfl rfl (fun K1 hK1 => ?_)
                    apply Exists.intro
                    refine And.intro (fun wx hx => ?_) ?_
                    · go_simp
                      try rfl
                    go_simp
                    refine hK1 _ ?_
                    clear hK1 K1
                    refine wpPre_e rfl rfl (fun K1 hK1 => ?_)
                    apply Exists.intro
                    refine And.intro (fun wx hx => ?_) ?_
                    · go_simp
                      try rfl
                    go_simp
                    refine hK1 _ ?_
                    clear hK1 K1
                    refine wpPre_e rfl rfl (fun K1 hK1 => ?_)
                    apply Exists.intro
                    refine And.intro (fun wx hx => ?_) ?_
                    · go_simp
                      try rfl
                    go_simp
                    refine hK1 _ ?_
                    clear hK1 K1
                    refine wpPre_e rfl rfl (fun K1 hK1 => ?_)
                    apply Exists.intro
                    refine And.intro (fun wx hx => ?_) ?_
                    · go_simp
                      try rfl
                    go_simp
                    refine hK1 _ ?_
                    clear hK1 K1
                    refine wpPre_e rfl rfl (fun K1 hK1 => ?_)
                    apply Exists.intro
                    refine And.intro (fun wx hx => ?_) ?_
                    · go_simp
                      try rfl
                    go_simp
                    refine hK1 _ ?_
                    clear hK1 K1
                    refine wpPre_e rfl rfl (fun K1 hK1 => ?_)
                    apply Exists.intro
                    refine And.intro (fun wx hx => ?_) ?_
                    · have e0 := below_fact hx rfl c2
                      go_simp
                      try rfl
                    go_simp
                    refine hK1 _ ?_
                    clear hK1 K1
                    refine wpPre_e rfl rfl (fun K1 hK1 => ?_)
                    apply Exists.intro
                    refine And.intro (fun wx hx => ?_) ?_
                    · go_simp
                      try rfl
                    go_simp
                    refine hK1 _ ?_
                    clear hK1 K1
                    refine wpPre_e rfl rfl (fun K1 hK1 => ?_)
                    apply Exists.intro
                    refine And.intro (fun wx hx => ?_) ?_
                    · go_simp
                      try rfl
                    go_simp
                    refine hK1 _ ?_
                    clear hK1 K1
                    refine wpPre_e rfl rfl (fun K1 hK1 => ?_)
                    apply Exists.intro
                    refine And.intro (fun wx hx => ?_) ?_
                    · go_simp
                      try rfl
                    go_simp
                    refine hK1 _ ?_
                    clear hK1 K1
                    refine wpPre_e rfl rfl (fun K1 hK1 => ?_)
                    apply Exists.intro
                    refine And.intro (fun wx hx => ?_) ?_
                    · go_simp
                      try rfl
                    go_simp
                    refine hK1 _ ?_
                    clear hK1 K1
                    refine wpPre_e rfl rfl (fun K1 hK1 => ?_)
                    apply Exists.intro
                    refine And.intro (fun wx hx => ?_) ?_
                    · have e0 := below_fact hx rfl c5
                      go_simp
                      try rfl
                    go_simp
                    refine hK1 _ ?_
                    clear hK1 K1
                    refine wpPre_e rfl rfl (fun K1 hK1 => ?_)
                    apply Exists.intro
                    refine And.intro (fun wx hx => ?_) ?_
                    · go_simp
                      try rfl
                    go_simp
                    refine hK1 _ ?_
                    clear hK1 K1
                    refine wpPre_e rfl rfl (fun K1 hK1 => ?_)
                    apply Exists.intro
                    refine And.intro (fun wx hx => ?_) ?_
                    · go_simp
                      try rfl
                    go_simp
                    refine hK1 _ ?_
                    clear hK1 K1
                    refine wpPre_nil ?_
                    refine wpTr_e rfl (fun K1 hK1 => ?_)
                    refine step_callG (by first | rfl | go_simp) 22 #[.tmp 147, .tmp 152, .tmp 159] _ rfl Tryd.f22 Tryd.func22 (by kernel_rfl) rfl #[.pointer (some ⟨dp, 0, none⟩), .string o.name, .slice o.bp nl o.bc] rfl _ (HAp.out) ?_
                    rintro e_ w4 ⟨rfl, hm4, hf4⟩
                    refine ⟨_, rfl, ?_⟩
                    have HM4 := hid hm4
                    have HF4 : Hid (Fr Z w w4) := HF3.out.trans ((Fr.of (Below.refl _ _).drew).trans hf4)
                    clear hm4 hf4
                    go_simp
                    refine hK1 _ _ (fun h => by cases h) ?_
                    clear hK1 K1
                    refine wpPre_nil ?_
                    refine wpTr_e rfl (fun K1 hK1 => ?_)
                    refine step_callG (by first | rfl | go_simp) 9 #[.tmp 160] _ rfl Tryd.f9 Tryd.func9 (by kernel_rfl) rfl #[.int .i64 0] rfl _ (num_any 0 w4) ?_
                    rintro e_ w5 ⟨rfl, hw5⟩
                    refine ⟨_, rfl, ?_⟩
                    obtain rfl := hw5.symm
                    go_simp
                    refine hK1 _ _ (fun h => by cases h) ?_
                    clear hK1 K1
                    refine wpPre_e rfl rfl (fun K1 hK1 => ?_)
                    apply Exists.intro
                    refine And.intro (fun wx hx => ?_) ?_
                    · go_simp
                      try rfl
                    go_simp
                    refine hK1 _ ?_
                    clear hK1 K1
                    refine wpPre_nil ?_
                    refine wpTr_done ?_
                    have HM9 := hid HM4.out.swap
                    have HF9 := hid HF4.out
                    clear HM4 HF4 HAp c0 c1 c2 c3 c4 c5 c6 hbc
                    go_wp2_with fail
                    go_loopw [15] (fun x wr => ∃ k : Nat, k ≤ P.n ∧ x = .int .i64 (k : Int) ∧ (∃ A B : AK, Ds wr Z [(da, A), (dp, B)] ∧ L3 P k A B) ∧ Fr Z w wr) (fun x _ => P.n - (intOf x).toNat)
                    case atStart => exact ⟨t, by omega, rfl, ⟨_, _, HM9.out, HL9.out⟩, HF9.out⟩
                    case round =>
                      obtain ⟨k, hk, rfl, ⟨A, B, hM, hL3⟩, hf⟩ := hrel
                      have HM := hid hM
                      have HL3 := hid hL3
                      have HF := hid hf
                      clear hM hL3 hf HM9 HL9 HF9
                      by_cases hltk : k < P.n
                      · as_aux_lemma =>
                        obtain ⟨bb, bo, hp, hat⟩ := op_at HP.out (show k < P.n by omega)
                        obtain ⟨o, ho⟩ : ∃ o, o = P.item k := ⟨_, rfl⟩
                        rw [← ho] at hat
                        have HAt : Hid (∀ W, Fr Z w W → OpAt W bb (bo + k * 7) o) := fun W hW => hat W (HLo.out W hW)
                        have HOw : Hid (OpI w Z o.name o.n o.after o.bp o.zs o.bc o.K) := by show OpI _ _ _ _ _ _ _ _ _; rw [ho]; exact op_in (HPZ.out.each k (by omega)) (HPz.out k (by omega))
                        have HOe := hid ho
                        clear hat ho
                        obtain ⟨rfl, rfl⟩ : bz = bb ∧ bq = bo := by have h9 := HP0.out.symm.trans hp; simpa using h9
                        obtain ⟨c0, c1, c2, c3, c4, c5, c6⟩ := HAt.out wr HF.out
                        have hlt' : (k : Int) < (P.n : Int) := by omega
                        have hst := HL3.out.step (show k < P.n by omega) HKd.out HNm.out
                        rw [← HOe.out] at hst
                        have HSt := hid hst
                        have hdo := ds_does HM.out o.kind o.which o.name o.n o.after o.bp o.zs o.bc o.K (HOw.out.fr HF.out)
                        change Calls _ _ _ _ (fun e w' => e = .returned (.int .i64 (opE A o)) ∧ Ds w' Z [(da, opK A o), (dp, B)] ∧ Fr Z wr w') at hdo
                        rw [hst.1] at hdo
                        have HDo := hid hdo
                        clear hst hdo
                        go_wp2_with fail
                        refine HDo.out.mono ?_
                        rintro e w3 ⟨rfl, hm3, hf3⟩
                        have HM3 := hid hm3
                        have HF3 : Hid (Fr Z w w3) := HF.out.trans hf3
                        clear hm3 hf3 HDo c0 c1 c2 c3 c4 c5 c6
                        go_wp2
                        go_roundw
                        case rel => exact ⟨k + 1, by omega, by go_num, ⟨_, _, HM3.out, HSt.out.2⟩, HF3.out⟩
                        case measure => simp [intOf]; omega
                      · as_aux_lemma =>
                        have hlt' : ¬ (k : Int) < (P.n : Int) := by omega
                        have hkn : k = P.n := by omega
                        have HFa := hid (ds_files HM.out)
                        go_wp2_with fail
                        refine HFa.out.mono ?_
                        rintro e w6 ⟨u, rfl, hu, hun, huk, hb6⟩
                        have HU := hid hu
                        have HUk := hid (And.intro hun huk)
                        have HB6 := hid hb6
                        have HFb := hid (ds_files (HM.out.bel hb6).swap)
                        clear hu hun huk hb6 HFa
                        go_wp2_with fail
                        refine HFb.out.mono ?_
                        rintro e w7 ⟨v, rfl, hv, hvn, hvk, hb7⟩
                        rw [← HL3.out.done hkn] at hvn hvk
                        have HSa := hid (alike_files HUk.out.1 HUk.out.2 hvn hvk)
                        have HAl := hid (alike_yes u v w7 _ _ (HU.out.below hb7) hv HSa.out.1 HSa.out.2)
                        have HB7 : Hid (Below wr.heap.size wr w7) := HB6.out.trans (hb7.mono HB6.out.size)
                        clear hv hvn hvk hb7 HFb HU HUk HB6 HSa
                        go_wp2_with fail
                        refine HAl.out.mono ?_
                        rintro e w8 ⟨rfl, hb8⟩
                        have HBe : Hid (Below w.heap.size w w8) := HLo.out w8 (HF.out.trans (Fr.of (HB7.out.trans (hb8.mono HB7.out.size))))
                        clear hb8 HAl HB7
                        go_wp2
                        exact bodyPost_ret (v := .bool true) (by simp [results, Tryd.results5, go_sem]) rfl (⟨rfl, HBe.out⟩)
                  · as_aux_lemma =>
                    have hk1' : (o.kind == 1) = false := by simpa using hk1
                    obtain ⟨r1, r2, r3, r4⟩ := HAr.out
                    have HL9 : Hid (L3 P t ((Fst P t).lf l) (Fst P t)) := ⟨fun _ => by rw [← HOe.out]; exact ⟨r1, r2, r4 hk1⟩, fun h => absurd h (by omega)⟩
                    have HM9 := hid HM3.out
                    have HF9 := hid HF3.out
                    clear r1 r2 r3 r4 HAr
                    go_upto_region 29 with fail
                    clear c0 c1 c2 c3 c4 c5 c6 hk1 hk1'
                    go_wp2_with fail
                    go_loopw [15] (fun x wr => ∃ k : Nat, k ≤ P.n ∧ x = .int .i64 (k : Int) ∧ (∃ A B : AK, Ds wr Z [(da, A), (dp, B)] ∧ L3 P k A B) ∧ Fr Z w wr) (fun x _ => P.n - (intOf x).toNat)
                    case atStart => exact ⟨t, by omega, rfl, ⟨_, _, HM9.out, HL9.out⟩, HF9.out⟩
                    case round =>
                      obtain ⟨k, hk, rfl, ⟨A, B, hM, hL3⟩, hf⟩ := hrel
                      have HM := hid hM
                      have HL3 := hid hL3
                      have HF := hid hf
                      clear hM hL3 hf HM9 HL9 HF9
                      by_cases hltk : k < P.n
                      · as_aux_lemma =>
                        obtain ⟨bb, bo, hp, hat⟩ := op_at HP.out (show k < P.n by omega)
                        obtain ⟨o, ho⟩ : ∃ o, o = P.item k := ⟨_, rfl⟩
                        rw [← ho] at hat
                        have HAt : Hid (∀ W, Fr Z w W → OpAt W bb (bo + k * 7) o) := fun W hW => hat W (HLo.out W hW)
                        have HOw : Hid (OpI w Z o.name o.n o.after o.bp o.zs o.bc o.K) := by show OpI _ _ _ _ _ _ _ _ _; rw [ho]; exact op_in (HPZ.out.each k (by omega)) (HPz.out k (by omega))
                        have HOe := hid ho
                        clear hat ho
                        obtain ⟨rfl, rfl⟩ : bz = bb ∧ bq = bo := by have h9 := HP0.out.symm.trans hp; simpa using h9
                        obtain ⟨c0, c1, c2, c3, c4, c5, c6⟩ := HAt.out wr HF.out
                        have hlt' : (k : Int) < (P.n : Int) := by omega
                        have hst := HL3.out.step (show k < P.n by omega) HKd.out HNm.out
                        rw [← HOe.out] at hst
                        have HSt := hid hst
                        have hdo := ds_does HM.out o.kind o.which o.name o.n o.after o.bp o.zs o.bc o.K (HOw.out.fr HF.out)
                        change Calls _ _ _ _ (fun e w' => e = .returned (.int .i64 (opE A o)) ∧ Ds w' Z [(da, opK A o), (dp, B)] ∧ Fr Z wr w') at hdo
                        rw [hst.1] at hdo
                        have HDo := hid hdo
                        clear hst hdo
                        go_wp2_with fail
                        refine HDo.out.mono ?_
                        rintro e w3 ⟨rfl, hm3, hf3⟩
                        have HM3 := hid hm3
                        have HF3 : Hid (Fr Z w w3) := HF.out.trans hf3
                        clear hm3 hf3 HDo c0 c1 c2 c3 c4 c5 c6
                        go_wp2
                        go_roundw
                        case rel => exact ⟨k + 1, by omega, by go_num, ⟨_, _, HM3.out, HSt.out.2⟩, HF3.out⟩
                        case measure => simp [intOf]; omega
                      · as_aux_lemma =>
                        have hlt' : ¬ (k : Int) < (P.n : Int) := by omega
                        have hkn : k = P.n := by omega
                        have HFa := hid (ds_files HM.out)
                        go_wp2_with fail
                        refine HFa.out.mono ?_
                        rintro e w6 ⟨u, rfl, hu, hun, huk, hb6⟩
                        have HU := hid hu
                        have HUk := hid (And.intro hun huk)
                        have HB6 := hid hb6
                        have HFb := hid (ds_files (HM.out.bel hb6).swap)
                        clear hu hun huk hb6 HFa
                        go_wp2_with fail
                        refine HFb.out.mono ?_
                        rintro e w7 ⟨v, rfl, hv, hvn, hvk, hb7⟩
                        rw [← HL3.out.done hkn] at hvn hvk
                        have HSa := hid (alike_files HUk.out.1 HUk.out.2 hvn hvk)
                        have HAl := hid (alike_yes u v w7 _ _ (HU.out.below hb7) hv HSa.out.1 HSa.out.2)
                        have HB7 : Hid (Below wr.heap.size wr w7) := HB6.out.trans (hb7.mono HB6.out.size)
                        clear hv hvn hvk hb7 HFb HU HUk HB6 HSa
                        go_wp2_with fail
                        refine HAl.out.mono ?_
                        rintro e w8 ⟨rfl, hb8⟩
                        have HBe : Hid (Below w.heap.size w w8) := HLo.out w8 (HF.out.trans (Fr.of (HB7.out.trans (hb8.mono HB7.out.size))))
                        clear hb8 HAl HB7
                        go_wp2
                        exact bodyPost_ret (v := .bool true) (by simp [results, Tryd.results5, go_sem]) rfl (⟨rfl, HBe.out⟩)
              · as_aux_lemma =>
                have hlt' : ¬ (t : Int) < (P.n : Int) := by omega
                obtain rfl : t = P.n := by omega
                have HL9 : Hid (L3 P P.n ((Fst P P.n).lf l) (Fst P P.n)) := ⟨fun h => absurd h (by omega), fun _ => rfl⟩
                have HM9 := hid HM.out
                have HF9 := hid HF.out
                go_upto_region 29 with fail
                go_wp2_with fail
                go_loopw [15] (fun x wr => ∃ k : Nat, k ≤ P.n ∧ x = .int .i64 (k : Int) ∧ (∃ A B : AK, Ds wr Z [(da, A), (dp, B)] ∧ L3 P k A B) ∧ Fr Z w wr) (fun x _ => P.n - (intOf x).toNat)
                case atStart => exact ⟨P.n, by omega, rfl, ⟨_, _, HM9.out, HL9.out⟩, HF9.out⟩
                case round =>
                  obtain ⟨k, hk, rfl, ⟨A, B, hM, hL3⟩, hf⟩ := hrel
                  have HM := hid hM
                  have HL3 := hid hL3
                  have HF := hid hf
                  clear hM hL3 hf HM9 HL9 HF9
                  by_cases hltk : k < P.n
                  · as_aux_lemma =>
                    obtain ⟨bb, bo, hp, hat⟩ := op_at HP.out (show k < P.n by omega)
                    obtain ⟨o, ho⟩ : ∃ o, o = P.item k := ⟨_, rfl⟩
                    rw [← ho] at hat
                    have HAt : Hid (∀ W, Fr Z w W → OpAt W bb (bo + k * 7) o) := fun W hW => hat W (HLo.out W hW)
                    have HOw : Hid (OpI w Z o.name o.n o.after o.bp o.zs o.bc o.K) := by show OpI _ _ _ _ _ _ _ _ _; rw [ho]; exact op_in (HPZ.out.each k (by omega)) (HPz.out k (by omega))
                    have HOe := hid ho
                    clear hat ho
                    rw [hp]
                    obtain ⟨c0, c1, c2, c3, c4, c5, c6⟩ := HAt.out wr HF.out
                    have hlt' : (k : Int) < (P.n : Int) := by omega
                    have hst := HL3.out.step (show k < P.n by omega) HKd.out HNm.out
                    rw [← HOe.out] at hst
                    have HSt := hid hst
                    have hdo := ds_does HM.out o.kind o.which o.name o.n o.after o.bp o.zs o.bc o.K (HOw.out.fr HF.out)
                    change Calls _ _ _ _ (fun e w' => e = .returned (.int .i64 (opE A o)) ∧ Ds w' Z [(da, opK A o), (dp, B)] ∧ Fr Z wr w') at hdo
                    rw [hst.1] at hdo
                    have HDo := hid hdo
                    clear hst hdo
                    go_wp2_with fail
                    refine HDo.out.mono ?_
                    rintro e w3 ⟨rfl, hm3, hf3⟩
                    have HM3 := hid hm3
                    have HF3 : Hid (Fr Z w w3) := HF.out.trans hf3
                    clear hm3 hf3 HDo c0 c1 c2 c3 c4 c5 c6
                    go_wp2
                    go_roundw
                    case rel => exact ⟨k + 1, by omega, by go_num, ⟨_, _, HM3.out, HSt.out.2⟩, HF3.out⟩
                    case measure => simp [intOf]; omega
                  · as_aux_lemma =>
                    have hlt' : ¬ (k : Int) < (P.n : Int) := by omega
                    have hkn : k = P.n := by omega
                    have HFa := hid (ds_files HM.out)
                    go_wp2_with fail
                    refine HFa.out.mono ?_
                    rintro e w6 ⟨u, rfl, hu, hun, huk, hb6⟩
                    have HU := hid hu
                    have HUk := hid (And.intro hun huk)
                    have HB6 := hid hb6
                    have HFb := hid (ds_files (HM.out.bel hb6).swap)
                    clear hu hun huk hb6 HFa
                    go_wp2_with fail
                    refine HFb.out.mono ?_
                    rintro e w7 ⟨v, rfl, hv, hvn, hvk, hb7⟩
                    rw [← HL3.out.done hkn] at hvn hvk
                    have HSa := hid (alike_files HUk.out.1 HUk.out.2 hvn hvk)
                    have HAl := hid (alike_yes u v w7 _ _ (HU.out.below hb7) hv HSa.out.1 HSa.out.2)
                    have HB7 : Hid (Below wr.heap.size wr w7) := HB6.out.trans (hb7.mono HB6.out.size)
                    clear hv hvn hvk hb7 HFb HU HUk HB6 HSa
                    go_wp2_with fail
                    refine HAl.out.mono ?_
                    rintro e w8 ⟨rfl, hb8⟩
                    have HBe : Hid (Below w.heap.size w w8) := HLo.out w8 (HF.out.trans (Fr.of (HB7.out.trans (hb8.mono HB7.out.size))))
                    clear hb8 HAl HB7
                    go_wp2
                    exact bodyPost_ret (v := .bool true) (by simp [results, Tryd.results5, go_sem]) rfl (⟨rfl, HBe.out⟩)
end Go.Proofs.YtkfcilandmhomaaDoor
