import Derived.Test.YtgnamngnmbaeeaaDoorLoB
import Derived.Test.YtgnamngnmbaeeaaDoorRgH
namespace Go.Proofs.YtgnamngnmbaeeaaDoor
open Go.RowKit
set_option maxRecDepth 8000
theorem ceil_num {Q m : Nat} (hm : 0 < m) : Q ≤ (Q + m - 1) / m * m := by
  have h1 := Nat.div_add_mod (Q + m - 1) m
  have h2 := Nat.mod_lt (Q + m - 1) hm
  rw [Nat.mul_comm] at h1
  omega
theorem round_same {S : LS} (h : S.A.q.length = 0) (t : Int) : rnS S t = S := by
  have h1 : rnN S = 0 := by unfold rnN; omega
  unfold rnS
  rw [h1]
  rfl
/-- rounds that go well -/
structure CaI (a0 mn np : Nat) (i : Nat) (S : LS) : Prop where
  pr : min (a0 + i * mn) np ≤ S.A.an
  np : S.P.length = np
  mn : mn = min S.A.wi S.R.wi
  wd : (i = 0 ∧ 0 < S.A.q.length) ∨ S.A.wd = S.R.wd
theorem CaI.next {a0 mn np i : Nat} {S : LS} (h : CaI a0 mn np i S) (hI : Inv S) (hz : S.P.length ≤ 1073741824) (t : Int) : CaI a0 mn np (i + 1) (rnS S t) := by
  obtain ⟨r1, r2, r3, r4⟩ := round_pure hI hz t
  have hpr := h.pr
  have hnp := h.np
  have hmn := h.mn
  have han := hI.an
  have e : (i + 1) * mn = i * mn + mn := Nat.succ_mul i mn
  by_cases hq : 0 < S.A.q.length
  · obtain ⟨g1, g2, g3⟩ := r4 hq
    refine ⟨?_, hnp, ?_, .inr g2⟩
    · rw [e]; omega
    · rw [r2.a, r2.r]; exact hmn
  · have hq0 : S.A.q.length = 0 := by omega
    rw [round_same hq0]
    refine ⟨?_, hnp, hmn, .inr (h.wd.resolve_left fun e => hq e.2)⟩
    rw [e]; omega
theorem turn_num (i k : Nat) (hk : 0 < k) : ∃ j : Nat, j < k ∧ (i : Int).tmod (k : Int) = (j : Int) :=
  ⟨i % k, Nat.mod_lt _ hk, by rw [Int.tmod_eq_emod_of_nonneg (by omega)]; exact (Int.natCast_emod _ _).symm⟩
theorem rounds_num (Q a b : Nat) (hQ : Q ≤ 1048600) (ha : 1 ≤ a ∧ a ≤ 16) (hb : 1 ≤ b ∧ b ≤ 16) : ∃ mn rd : Nat, mn = min a b ∧ rd = (Q + mn - 1) / mn ∧ (if (b : Int) < (a : Int) then (b : Int) else (a : Int)) = (mn : Int) ∧ IntKind.i64.wrap ((Q : Int) + (mn : Int)) = (Q : Int) + (mn : Int) ∧
    IntKind.i64.wrap ((Q : Int) + (mn : Int) - 1) = (Q : Int) + (mn : Int) - 1 ∧ ((Q : Int) + (mn : Int) - 1).tdiv (mn : Int) = (rd : Int) ∧ IntKind.i64.wrap (rd : Int) = (rd : Int) ∧ ¬ mn = 0 ∧ rd ≤ 1048616 := by
  have h1 : (Q + min a b - 1) / min a b ≤ Q + min a b - 1 := Nat.div_le_self _ _
  obtain ⟨rd, hrd⟩ : ∃ r : Nat, r = (Q + min a b - 1) / min a b := ⟨_, rfl⟩
  rw [← hrd] at h1
  refine ⟨min a b, rd, rfl, hrd, ?_, ?_, ?_, ?_, ?_, by omega, by omega⟩
  · split <;> omega
  · rw [wr64 (by omega) (by omega)]
  · rw [wr64 (by omega) (by omega)]
  · rw [Int.tdiv_eq_ediv_of_nonneg (by omega), show ((Q : Int) + ((min a b : Nat) : Int) - 1) = ((Q + min a b - 1 : Nat) : Int) by omega]
    rw [hrd]
    exact (Int.natCast_ediv _ _).symm
  · rw [wr64 (by omega) (by omega)]
theorem fairW_nat (n : Int) : ∃ a : Nat, fairW n = (a : Int) ∧ 1 ≤ a ∧ a ≤ 16 ∧ (fairW n).toNat = a := by
  have h : 1 ≤ fairW n ∧ fairW n ≤ 16 := by unfold fairW; split <;> omega
  exact ⟨(fairW n).toNat, by omega, by omega, by omega, rfl⟩
set_option maxHeartbeats 32000000 in
theorem linkCalm_walk (l n m : Int) (s : LT OpT) (tn : LT Int) (w : World) (hs : LT.In elOpT w (fun b => b < w.heap.size) s) (htn : LT.In elInt w (fun b => b < w.heap.size) tn) (hT : Tab w) : Calls Tryd.prog 5 #[.int .i64 l, .int .i64 n, .int .i64 m, .slice s.p s.n s.c, .slice tn.p tn.n tn.c] w fun e w' => e = .returned (.bool true) ∧ Below w.heap.size w w' := by
  have HBe := hid (begin_any l n m w)
  have HS := hid hs
  have HTn := hid htn
  have HT := hid hT
  have hnn := hs.nn
  have htnn := htn.nn
  clear hs hT htn
  by_cases hlong : 1048576 < s.n
  · have hl1 : (1048576 : Int) < (s.n : Int) := by omega
    clear hlong
    go_enter Tryd.func5, Tryd.ntmps5
    go_wp2
    exact bodyPost_ret (v := .bool true) (by simp [results, Tryd.results5, go_sem]) rfl ⟨rfl, Below.refl _ _⟩
  have hl1 : ¬ (1048576 : Int) < (s.n : Int) := by omega
  have HLg := hid (show s.n ≤ 1048576 by omega)
  go_enter Tryd.func5, Tryd.ntmps5
  go_wp2_with fail
  refine HBe.out.mono ?_
  rintro e w1 hq
  obtain ⟨lb, C1, rfl, hLI, ho1, hn1, hb1, hT1, hO1⟩ := begin_px hq HT.out
  have hp0 : (ls0 l n m).P.length + s.n + 2 ≤ 1073741824 ∧ (ls0 l n m).ws.length + s.n + 2 ≤ 1073741824 := ⟨by show 0 + s.n + 2 ≤ _; omega, by show 1 + s.n + 2 ≤ _; omega⟩
  have HPl := hid (plays_any w1 C1 10 lb (ls0 l n m) hLI (fun k hk => hn1 k (Nat.le_trans hb1.size hk)) hT1 hO1 (Inv.zero l n m) s (ops_px HS.out hb1 ho1) hp0.1 hp0.2)
  have HB1 := hid hb1
  have Ho1 := hid ho1
  have HT1 := hid hT1
  have HO1 := hid hO1
  clear hq hLI ho1 hn1 hb1 hT1 hO1 HBe hlong
  go_wp2_with fail
  refine HPl.out.mono ?_
  rintro e w2 ⟨rfl, C2, S2, hX2, _⟩
  clear HPl hl1
  have hSz := stSz hX2.grw (Nat.le_refl _) hp0.1 hp0.2
  have HX2 := hid hX2
  obtain ⟨sb, rb, dv, nv, bv, pv, wv, D, N, P, hM⟩ := hX2.li
  have hX0 := LX.refl hM hX2.newc
  have hpl : P.length = S2.P.length := by rw [← hM.hp, List.length_map]
  obtain ⟨V3, hV3⟩ : ∃ V, V = w2.alloc (.cells #[.int .u8 9, .int .u8 9] 5) := ⟨_, rfl⟩
  have hb3 : Below w2.heap.size w2 V3 := by rw [hV3]; exact (Below.refl _ _).alloc (Nat.le_refl _) _
  have hx3 : BS.In V3 (fun k => w2.heap.size ≤ k) ⟨some ⟨w2.heap.size, 0, none⟩, 2, [9, 9]⟩ := by rw [hV3]; exact bs_lit w2 [9, 9] (by decide) (by decide)
  obtain ⟨C3, hC3⟩ : ∃ D, D = upC w2 C2 (10 + 7) := ⟨_, rfl⟩
  have hX3 := hX0.below hb3
  rw [← hC3] at hX3
  have HPt := hid (put_any V3 (Zc V3 C3 (10 + 1)) sb S2.A hX3.m.s zc_lt _ _ hx3)
  have hE : putE S2.A [9, 9] = 0 := by unfold putE; rw [if_neg (by decide), if_neg (by have := hX2.inv.an; omega)]
  have HE := hid hE
  have HX3 := hid hX3
  have HPl2 := hid hpl
  have HSz := hid hSz
  have c0 := hM.bx.cell 0
  have cl := hM.bx.lt
  simp at c0
  have HV3 := hid hV3
  clear hX2 hM hX0 hpl hV3 hb3 hx3 hC3 hX3 hE hSz
  go_upto_region 6 with fail
  go_wp2_with fail
  rw [← HV3.out]
  refine HPt.out.mono ?_
  rintro e w4 ⟨he, hq⟩
  have he : e = .returned (.int .i64 (putE S2.A [9, 9])) := he
  have hq : SndQ V3 (Zc V3 C3 (10 + 1)) sb (if putE S2.A [9, 9] = 0 then { S2.A with q := S2.A.q ++ [[9, 9]] } else S2.A) w4 := hq
  rw [HE.out] at he hq
  rw [if_pos rfl] at hq
  subst he
  have hX4 := HX3.out.snd hq
  obtain ⟨C4, hC4⟩ : ∃ D, D = upC V3 C3 (10 + 1) := ⟨_, rfl⟩
  rw [← hC4] at hX4
  have HX4 := hid hX4
  obtain ⟨pp, pc, hpv⟩ := hX4.m.p.slice
  subst hpv
  have c5 := hX4.m.bx.cell 5
  have cl4 := hX4.m.bx.lt
  simp at c5
  obtain ⟨V5, hV5⟩ : ∃ V, V = w4.alloc (.cells #[.int .u8 9, .int .u8 9] 5) := ⟨_, rfl⟩
  have hb5 : Below w4.heap.size w4 V5 := by rw [hV5]; exact (Below.refl _ _).alloc (Nat.le_refl _) _
  have hx5 : BS.In V5 (fun k => w4.heap.size ≤ k) ⟨some ⟨w4.heap.size, 0, none⟩, 2, [9, 9]⟩ := by rw [hV5]; exact bs_lit w4 [9, 9] (by decide) (by decide)
  have hs5 : V5.heap.size = w4.heap.size + 1 := by rw [hV5]; simp
  obtain ⟨V6, hV6⟩ : ∃ V, V = V5.alloc (.cells #[.slice (some ⟨w4.heap.size, 0, none⟩) 2 2] 36) := ⟨_, rfl⟩
  have hb6 : Below V5.heap.size V5 V6 := by rw [hV6]; exact (Below.refl _ _).alloc (Nat.le_refl _) _
  have hX6 : Box V6 V5.heap.size #[.slice (some ⟨w4.heap.size, 0, none⟩) 2 2] 36 := by rw [hV6]; exact Box.new _ _ _
  rw [hs5] at hX6
  have HY0 := hid (hX6.cell 0)
  have HB6 : Hid (Below w4.heap.size w4 V6) := hb5.trans (hb6.mono hb5.size)
  have HY6 := hid (hx5.below hb6)
  have HRow := hid (hX4.m.p.below HB6.out fun _ _ h => h)
  rw [hV5] at hV6
  have HV6 := hid hV6
  clear hq hX4 hC4 hV5 hb5 hx5 hs5 hV6 hb6 hX6 HPt c0 cl HV3
  go_wp2_with (at_builtin; rw [← HV6.out]; refine wpList_step (fun K hK => step_appQ rfl (.tmp 42) (.tmp 44) rfl _ (P.map BS.val) rfl HRow.out.row ⟨w4.heap.size + 1, 0, none⟩ 1 (.slice (some ⟨w4.heap.size, 0, none⟩) 2 2) rfl HY0.out rfl (by rw [List.length_map, HPl2.out]; have h9 := HSz.out.1; omega) (fun v7 w7 hr7 hg7 hn7 => ?_)); have hPR := HX4.out.putrow HB6.out HY6.out hr7 hg7 hn7; obtain ⟨⟨p4, c4, hv4⟩, df, dc, dl, hX7⟩ := hPR; subst hv4; refine hK _ _ ?_; clear hK hr7 hg7 hn7)
  obtain ⟨W8, hW8⟩ : ∃ W, W = w7.setCell ⟨lb, 5, none⟩ (.slice p4 (P.length + 1) c4) := ⟨_, rfl⟩
  rw [← hW8] at hX7
  obtain ⟨C8, hX8⟩ := HX2.out.on hX7.lq (HX2.out.inv.puts (z := [9, 9]) (by decide) (by decide)) (j := 1) ⟨by show (S2.P ++ [[9, 9]]).length ≤ _; rw [List.length_append]; exact Nat.le_refl _, Nat.le_succ _, rfl, rfl⟩
  have HX8 : Hid (PX w1 C1 10 lb (ls0 l n m) (s.n + 1) W8 C8 (putS S2 [9, 9])) := hX8
  have HW8 := hid hW8
  clear hX7 hW8 hX8 c5 cl4
  go_wp2_with fail
  rw [← HW8.out]
  have hN30 : Hid ((putS S2 [9, 9]).P.length ≤ 1048600 ∧ (putS S2 [9, 9]).ws.length ≤ 1048600) := by
    have h1 := HX8.out.grw.p
    have h2 := HX8.out.grw.w
    have h3 : (ls0 l n m).P.length = 0 := rfl
    have h4 : (ls0 l n m).ws.length = 1 := rfl
    show _ ∧ _
    rw [h3] at h1
    rw [h4] at h2
    have h5 := HLg.out
    omega
  obtain ⟨S8, hS8⟩ : ∃ S, S = putS S2 [9, 9] := ⟨_, rfl⟩
  rw [← hS8] at HX8 hN30
  have hq8 : 0 < S8.A.q.length := by rw [hS8]; show 0 < (S2.A.q ++ [[9, 9]]).length; rw [List.length_append]; exact Nat.succ_pos _
  obtain ⟨np, hnp⟩ : ∃ np, np = S8.P.length := ⟨_, rfl⟩
  have HNp := hid hnp
  obtain ⟨a, ha, ha1, ha16, hat⟩ := fairW_nat n
  obtain ⟨b, hb, hb1, hb16, hbt⟩ := fairW_nat m
  have hwa : S8.A.wi = a := by rw [HX8.out.grw.a, ← hat]; rfl
  have hwb : S8.R.wi = b := by rw [HX8.out.grw.r, ← hbt]; rfl
  obtain ⟨Q, hQ⟩ : ∃ Q, Q = S8.A.q.length := ⟨_, rfl⟩
  have han8 := HX8.out.inv.an
  have hQl : Q ≤ 1048600 := by rw [hQ]; have := hN30.out.1; omega
  obtain ⟨mn, rd, hmn, hrd, x1, x2, x3, x4, x5, x6, hrdl⟩ := rounds_num Q a b hQl ⟨ha1, ha16⟩ ⟨hb1, hb16⟩
  have hce : Q ≤ rd * mn := by rw [hrd]; exact ceil_num (by omega)
  have HCa : Hid (CaI S8.A.an mn np 0 S8) := ⟨by rw [Nat.zero_mul]; omega, hnp.symm, by rw [hwa, hwb]; exact hmn, .inl ⟨rfl, hq8⟩⟩
  have HCe : Hid (∀ S', CaI S8.A.an mn np rd S' → Inv S' → S'.A.q.length = 0 ∧ (S'.A.wd : Int) = S'.td) := fun S' hC hI => by
    have h1 := hC.pr
    have h2 := hC.np
    have h3 := hI.an
    have h5 := hI.td
    have hq0 : S'.A.q.length = 0 := by omega
    refine ⟨hq0, ?_⟩
    rcases hC.wd with e | e
    · omega
    · rw [h5, e]
  obtain ⟨sb8, rb8, dv8, nv8, bv8, pv8, wv8, D8, N8, P8, hM8⟩ := HX8.out.li
  have HOp8 := hid (open_any W8 _ sb8 S8.A hM8.s)
  rw [← hQ] at HOp8
  have e0 := hM8.bx.cell 0
  have el := hM8.bx.lt
  simp at e0
  have hQ1 : ¬ (Q : Int) < 1 := by omega
  have HFa := hid (fair_any l n m W8)
  rw [ha, hb] at HFa
  clear hnp df dc dl hS8 hq8 ha ha1 ha16 hat hb hb1 hb16 hbt hwa hwb hQ han8 hQl hmn hrd hce hM8
  refine HFa.out.mono ?_
  rintro e w9 ⟨rfl, h9⟩
  rw [h9]
  clear h9 HFa
  go_wp2_with fail
  refine HOp8.out.mono ?_
  rintro e w9 ⟨rfl, h9⟩
  rw [h9]
  clear h9 HOp8
  go_upto_region 10 with fail
  refine wp_region_lit ?_
  iterate 3 (refine wpList_step (fun K1 hK1 => ?_); go_simp; refine hK1 _ _ ?_; clear hK1 K1)
  refine wpList_min rfl (.tmp 62) (.tmp 63) rfl (a : Int) (b : Int) (mn : Int) rfl rfl x1 ?_
  iterate 4 (refine wpList_step (fun K1 hK1 => ?_); go_simp; refine hK1 _ _ ?_; clear hK1 K1)
  refine wpList_min rfl (.tmp 67) (.tmp 68) rfl (a : Int) (b : Int) (mn : Int) rfl rfl x1 ?_
  iterate 2 (refine wpList_step (fun K1 hK1 => ?_); go_simp; refine hK1 _ _ ?_; clear hK1 K1)
  refine wpList_nil ?_
  clear x1 x2 x3 x4 x5 x6 e0 el
  go_wp2_with fail
  go_loopw [15] (fun x wr => ∃ (i : Nat) (C' : Nat → Nat) (S' : LS), i ≤ rd ∧ x = .int .i64 (i : Int) ∧ CaI S8.A.an mn np i S' ∧ PX w1 C1 10 lb (ls0 l n m) (s.n + 1) wr C' S' ∧ S'.ws.length ≤ 1048600) (fun x _ => rd - (intOf x).toNat)
  case atStart => exact ⟨0, C8, _, Nat.zero_le _, rfl, HCa.out, HX8.out, hN30.out.2⟩
  case round =>
    obtain ⟨i, C9, S9, hi, rfl, hC9, hX9, hw9⟩ := hrel
    have HX9 := hid hX9
    have HC9 := hid hC9
    have HW9 := hid hw9
    have hnp30 : S9.P.length ≤ 1048600 := by rw [hC9.np, HNp.out]; exact hN30.out.1
    have HNP := hid hnp30
    by_cases hlt : i < rd
    case pos =>
      as_aux_lemma =>
      have hlt' : (i : Int) < (rd : Int) := by omega
      have key : ∀ t : Int, Fit64 t → Hid (Calls Tryd.prog 11 #[.pointer (some ⟨lb, 0, none⟩), .int .i64 t] wr fun e w' => e = .returned (.bool true) ∧ ∃ C', PX w1 C1 10 lb (ls0 l n m) (s.n + 1) w' C' (rnS S9 t) ∧ CaI S8.A.an mn np (i + 1) (rnS S9 t) ∧ (rnS S9 t).ws.length ≤ 1048600) := fun t ht => by
        have hR := round_any wr C9 10 lb S9 hX9.li hX9.newc (hX9.tab HT1.out HO1.out) (hX9.out HT1.out HO1.out) hX9.inv (by omega) t ht
        obtain ⟨r1, r2, _, _⟩ := round_pure hX9.inv (by omega) t
        refine hR.mono fun e w' h => ⟨h.1, ?_⟩
        obtain ⟨C', hX'⟩ := hX9.on h.2 r1 r2
        exact ⟨C', hX', hC9.next hX9.inv (by omega) t, hw9⟩
      have HK := hid key
      clear hX9 hC9 key hnp30 hw9
      by_cases hk0 : 0 < tn.n
      · as_aux_lemma =>
        obtain ⟨j, hj, htm⟩ := turn_num i tn.n hk0
        obtain ⟨bb, o, hpp, hSb, hbb, hat⟩ := HTn.out.at_ hk0
        have hc0 := hat j hj 0 (.int .i64 (tn.item j)) rfl
        have hf : Fit64 (tn.item j) := HTn.out.each j hj
        have hbb1 : bb < w1.heap.size := Nat.lt_of_lt_of_le hbb HB1.out.size
        have hc1 : w1.cell? ⟨bb, o + j, none⟩ = some (.int .i64 (tn.item j)) := by
          rw [show o + j * elInt.size + 0 = o + j by show o + j * 1 + 0 = _; omega] at hc0
          exact (World.cell?_of_block (a := ⟨bb, o + j, none⟩) (HB1.out.block bb hbb)).trans hc0
        have hc9 := HX9.out.cell hbb1 (by have := Ho1.out bb hbb; unfold In8; omega) hc1
        obtain ⟨t, ht⟩ : ∃ t, t = tn.item j := ⟨_, rfl⟩
        rw [← ht] at hf hc9
        have HR := HK.out t hf
        rw [hpp]
        have hjl : (j : Int) < (tn.n : Int) := by omega
        have hk1 : (0 : Int) < (tn.n : Int) := by omega
        have hk2 : ¬ (tn.n : Int) = 0 := by omega
        clear hat hc0 hc1 hf ht hbb hbb1 hSb hpp hj
        go_wp2_with fail
        refine HR.out.mono ?_
        rintro e w11 ⟨rfl, C11, hX11, hC11, hw11⟩
        have HX11 := hid hX11
        have HC11 := hid hC11
        have HW11 := hid hw11
        clear hX11 hC11 hw11 HR hc9
        go_wp2_with fail
        go_roundw
        case rel => exact ⟨i + 1, C11, _, by omega, by go_num, HC11.out, HX11.out, HW11.out⟩
        case measure => simp [intOf]; omega
      · as_aux_lemma =>
        have hk1 : ¬ (0 : Int) < (tn.n : Int) := by omega
        have HR := HK.out (i : Int) (by unfold Fit64; omega)
        clear hk0
        go_wp2_with fail
        refine HR.out.mono ?_
        rintro e w11 ⟨rfl, C11, hX11, hC11, hw11⟩
        have HX11 := hid hX11
        have HC11 := hid hC11
        have HW11 := hid hw11
        clear hX11 hC11 hw11 HR
        go_wp2_with fail
        go_roundw
        case rel => exact ⟨i + 1, C11, _, by omega, by go_num, HC11.out, HX11.out, HW11.out⟩
        case measure => simp [intOf]; omega
    case neg =>
      as_aux_lemma =>
      obtain rfl : i = rd := by omega
      have hlt' : ¬ (i : Int) < (i : Int) := by omega
      obtain ⟨hq0, hwt⟩ := HCe.out S9 hC9 hX9.inv
      obtain ⟨sb9, rb9, dv9, nv9, bv9, pv9, wv9, D9, N9, P9, hM9⟩ := hX9.li
      have d0 := hM9.bx.cell 0
      have dl := hM9.bx.lt
      simp at d0
      have hXd := (LX.refl hM9 hX9.newc).below (Below.refl wr.heap.size wr).drew
      obtain ⟨C10, hC10⟩ : ∃ D, D = upC wr C9 (10 + 7) := ⟨_, rfl⟩
      rw [← hC10] at hXd
      have HXd := hid hXd
      have HOp2 := hid (open_any wr.drew _ sb9 S9.A hXd.m.s)
      rw [hq0] at HOp2
      have HLk := hid (looks_any wr.drew C10 10 lb S9 ⟨_, _, _, _, _, _, _, _, _, _, hXd.m⟩ hXd.newc (hX9.inv.lk (by omega) (by omega)))
      have hgv : (stLook S9).gv = np := by
        show S9.gv + S9.R.rd.length = np
        have h1 := hX9.inv.gv
        have h2 := hX9.inv.le
        have h3 := hX9.inv.wt
        have h4 := hX9.inv.an
        have h5 := hC9.np
        omega
      have HGv := hid hgv
      have HP9 := hid hC9.np
      have HWt := hid hwt
      have HQ0 := hid hq0
      have HTd : Hid (Tab wr.drew) := (hX9.tab HT1.out HO1.out).later (Below.refl _ _).drew
      have HOd : Hid (Out8 C10 10) := (hX9.out HT1.out HO1.out).line (hX9.tab HT1.out HO1.out) fun k hk => by rw [hC10]; exact upC_old hk
      obtain ⟨wd, hwd⟩ : ∃ q, q = S9.A.wd := ⟨_, rfl⟩
      have HWd := hid hwd
      clear hX9 hM9 hi hXd hC10 hgv hC9 hw9 hq0 hnp30 hwt hwd hlt
      go_wp2_with fail
      go_upto_region 21 with fail
      refine wp_region_calmPG 60 (fun wx => Below wr.heap.size wr wx) [(0, true), (1, true), (2, true), (3, false)] (.one 4 false [(5, true), (6, true), (7, true)] (.one 8 false [(9, true), (10, true), (11, true), (12, true), (13, true), (14, false), (15, true), (16, true), (17, true), (18, false), (19, true), (20, true), (21, true), (22, true), (23, true), (24, true), (25, true), (26, false), (28, true), (29, true), (30, true), (31, false)] (.one 27 true [(32, true), (33, true), (34, true), (35, true), (36, true), (37, true), (38, false)] (.one 39 false [(40, true), (41, true), (42, true), (43, true)] .done)))) (by kernel_rfl) (by kernel_rfl) (Below.refl _ _).drew ?_
      refine wpPre_e rfl rfl (fun K1 hK1 => ?_)
      apply Exists.intro
      refine And.intro (fun wx hx => ?_) ?_
      · go_simp
        try rfl
      go_simp
      refine hK1 _ ?_
      clear hK1 K1
      refine wpPre_e rfl rfl (fun K1 hK1 => ?_)
      apply Exists.intro
      refine And.intro (fun wx hx => ?_) ?_
      · go_simp
        try rfl
      go_simp
      refine hK1 _ ?_
      clear hK1 K1
      refine wpPre_e rfl rfl (fun K1 hK1 => ?_)
      apply Exists.intro
      refine And.intro (fun wx hx => ?_) ?_
      · go_simp
        try rfl
      go_simp
      refine hK1 _ ?_
      clear hK1 K1
      refine wpPre_e rfl rfl (fun K1 hK1 => ?_)
      apply Exists.intro
      refine And.intro (fun wx hx => ?_) ?_
      · have e0 := below_fact hx rfl d0
        go_simp
        try rfl
      go_simp
      refine hK1 _ ?_
      clear hK1 K1
      refine wpPre_nil ?_
      refine wpTg_e rfl (fun K1 hK1 => ?_)
      refine step_callG (by first | rfl | go_simp) 10 #[.tmp 100] _ rfl Tryd.f10 Tryd.func10 (by kernel_rfl) rfl #[.pointer (some ⟨sb9, 0, none⟩)] rfl _ (HOp2.out) ?_
      rintro e_ w11 ⟨rfl, rfl⟩
      refine ⟨_, rfl, ?_⟩
      go_simp
      refine hK1 _ _ _ (Below.refl _ _).drew (fun _ _ h => h) ?_
      clear hK1 K1
      refine wpPre_e rfl rfl (fun K1 hK1 => ?_)
      apply Exists.intro
      refine And.intro (fun wx hx => ?_) ?_
      · go_simp
        try rfl
      go_simp
      refine hK1 _ ?_
      clear hK1 K1
      refine wpPre_e rfl rfl (fun K1 hK1 => ?_)
      apply Exists.intro
      refine And.intro (fun wx hx => ?_) ?_
      · go_simp
        try rfl
      go_simp
      refine hK1 _ ?_
      clear hK1 K1
      refine wpPre_i rfl (fun K1 hK1 => ?_)
      rw [if_pos (by go_simp)]
      apply Exists.intro
      refine And.intro (fun wx hx => ?_) ?_
      · go_simp
        try rfl
      go_simp
      refine hK1 _ ?_
      clear hK1 K1
      refine wpPre_nil ?_
      refine wpTg_e rfl (fun K1 hK1 => ?_)
      refine step_callG (by first | rfl | go_simp) 12 #[.tmp 104] _ rfl Tryd.f12 Tryd.func12 (by kernel_rfl) rfl #[.pointer (some ⟨lb, 0, none⟩)] rfl _ (HLk.out) ?_
      rintro e_ w12 ⟨rfl, hq⟩
      refine ⟨_, rfl, ?_⟩
      obtain ⟨C12, ⟨sb12, rb12, dv12, nv12, bv12, pv12, wv12, D12, N12, P12, hM12⟩, ho12⟩ := hq
      obtain ⟨p12, c12, hv12⟩ := hM12.p.slice
      have hl12 : P12.length = np := by rw [← HP9.out, ← show P12.map BS.zs = S9.P from hM12.hp, List.length_map]
      rw [hl12] at hv12
      subst hv12
      have f5 := hM12.bx.cell 5
      have f6 := hM12.bx.cell 6
      have f0 := hM12.bx.cell 0
      have f7 := hM12.bx.cell 7
      have fl := hM12.bx.lt
      rw [HGv.out] at f6
      rw [show (stLook S9).td = S9.td from rfl, ← HWt.out, ← HWd.out] at f7
      simp at f0 f5 f6 f7
      have hOw := word_any w12 _ sb12 _ hM12.s
      rw [show (stLook S9).A.wd = S9.A.wd from rfl, ← HWd.out] at hOw
      have HOw := hid hOw
      have HTk := hid (tick_any w12 _ sb12 _ hM12.s (tab_line HTd.out HOd.out ho12.2.2))
      have HM12 := hid hM12
      have Ho12 := hid ho12
      clear hM12 ho12 hl12 HLk hOw
      go_simp
      refine hK1 _ _ (fun wx => Below w12.heap.size w12 wx) (Below.refl _ _) (fun h => by cases h) ?_
      clear hK1 K1
      refine wpPre_e rfl rfl (fun K1 hK1 => ?_)
      apply Exists.intro
      refine And.intro (fun wx hx => ?_) ?_
      · go_simp
        try rfl
      go_simp
      refine hK1 _ ?_
      clear hK1 K1
      refine wpPre_e rfl rfl (fun K1 hK1 => ?_)
      apply Exists.intro
      refine And.intro (fun wx hx => ?_) ?_
      · go_simp
        try rfl
      go_simp
      refine hK1 _ ?_
      clear hK1 K1
      refine wpPre_i rfl (fun K1 hK1 => ?_)
      rw [if_pos (by go_simp)]
      apply Exists.intro
      refine And.intro (fun wx hx => ?_) ?_
      · go_simp
        try rfl
      go_simp
      refine hK1 _ ?_
      clear hK1 K1
      refine wpPre_i rfl (fun K1 hK1 => ?_)
      rw [if_pos (by go_simp)]
      apply Exists.intro
      refine And.intro (fun wx hx => ?_) ?_
      · go_simp
        try rfl
      go_simp
      refine hK1 _ ?_
      clear hK1 K1
      refine wpPre_i rfl (fun K1 hK1 => ?_)
      rw [if_pos (by go_simp)]
      apply Exists.intro
      refine And.intro (fun wx hx => ?_) ?_
      · go_simp
        try rfl
      go_simp
      refine hK1 _ ?_
      clear hK1 K1
      refine wpPre_i rfl (fun K1 hK1 => ?_)
      rw [if_pos (by go_simp)]
      apply Exists.intro
      refine And.intro (fun wx hx => ?_) ?_
      · have e0 := below_fact hx rfl f6
        go_simp
        try rfl
      go_simp
      refine hK1 _ ?_
      clear hK1 K1
      refine wpPre_i rfl (fun K1 hK1 => ?_)
      rw [if_pos (by go_simp)]
      apply Exists.intro
      refine And.intro (fun wx hx => ?_) ?_
      · go_simp
        try rfl
      go_simp
      refine hK1 _ ?_
      clear hK1 K1
      refine wpPre_i rfl (fun K1 hK1 => ?_)
      rw [if_pos (by go_simp)]
      apply Exists.intro
      refine And.intro (fun wx hx => ?_) ?_
      · go_simp
        try rfl
      go_simp
      refine hK1 _ ?_
      clear hK1 K1
      refine wpPre_i rfl (fun K1 hK1 => ?_)
      rw [if_pos (by go_simp)]
      apply Exists.intro
      refine And.intro (fun wx hx => ?_) ?_
      · go_simp
        try rfl
      go_simp
      refine hK1 _ ?_
      clear hK1 K1
      refine wpPre_i rfl (fun K1 hK1 => ?_)
      rw [if_pos (by go_simp)]
      apply Exists.intro
      refine And.intro (fun wx hx => ?_) ?_
      · have e0 := below_fact hx rfl f5
        go_simp
        try rfl
      go_simp
      refine hK1 _ ?_
      clear hK1 K1
      refine wpPre_i rfl (fun K1 hK1 => ?_)
      rw [if_pos (by go_simp)]
      apply Exists.intro
      refine And.intro (fun wx hx => ?_) ?_
      · go_simp
        try rfl
      go_simp
      refine hK1 _ ?_
      clear hK1 K1
      refine wpPre_i rfl (fun K1 hK1 => ?_)
      rw [if_pos (by go_simp)]
      apply Exists.intro
      refine And.intro (fun wx hx => ?_) ?_
      · go_simp
        try rfl
      go_simp
      refine hK1 _ ?_
      clear hK1 K1
      refine wpPre_e rfl rfl (fun K1 hK1 => ?_)
      apply Exists.intro
      refine And.intro (fun wx hx => ?_) ?_
      · go_simp
        try rfl
      go_simp
      refine hK1 _ ?_
      clear hK1 K1
      refine wpPre_e rfl rfl (fun K1 hK1 => ?_)
      apply Exists.intro
      refine And.intro (fun wx hx => ?_) ?_
      · go_simp
        try rfl
      go_simp
      refine hK1 _ ?_
      clear hK1 K1
      refine wpPre_i rfl (fun K1 hK1 => ?_)
      rw [if_pos (by go_simp)]
      apply Exists.intro
      refine And.intro (fun wx hx => ?_) ?_
      · go_simp
        try rfl
      go_simp
      refine hK1 _ ?_
      clear hK1 K1
      refine wpPre_i rfl (fun K1 hK1 => ?_)
      rw [if_pos (by go_simp)]
      apply Exists.intro
      refine And.intro (fun wx hx => ?_) ?_
      · go_simp
        try rfl
      go_simp
      refine hK1 _ ?_
      clear hK1 K1
      refine wpPre_i rfl (fun K1 hK1 => ?_)
      rw [if_pos (by go_simp)]
      apply Exists.intro
      refine And.intro (fun wx hx => ?_) ?_
      · go_simp
        try rfl
      go_simp
      refine hK1 _ ?_
      clear hK1 K1
      refine wpPre_i rfl (fun K1 hK1 => ?_)
      rw [if_pos (by go_simp)]
      apply Exists.intro
      refine And.intro (fun wx hx => ?_) ?_
      · have e0 := below_fact hx rfl f0
        go_simp
        try rfl
      go_simp
      refine hK1 _ ?_
      clear hK1 K1
      refine wpPre_i rfl (fun K1 hK1 => ?_)
      rw [if_pos (by go_simp)]
      apply Exists.intro
      refine And.intro (fun wx hx => ?_) ?_
      · go_simp
        try rfl
      go_simp
      refine hK1 _ ?_
      clear hK1 K1
      refine wpPre_i rfl (fun K1 hK1 => ?_)
      rw [if_pos (by go_simp)]
      apply Exists.intro
      refine And.intro (fun wx hx => ?_) ?_
      · go_simp
        try rfl
      go_simp
      refine hK1 _ ?_
      clear hK1 K1
      refine wpPre_i rfl (fun K1 hK1 => ?_)
      rw [if_pos (by go_simp)]
      apply Exists.intro
      refine And.intro (fun wx hx => ?_) ?_
      · go_simp
        try rfl
      go_simp
      refine hK1 _ ?_
      clear hK1 K1
      refine wpPre_i rfl (fun K1 hK1 => ?_)
      rw [if_pos (by go_simp)]
      apply Exists.intro
      refine And.intro (fun wx hx => ?_) ?_
      · have e0 := below_fact hx rfl f7
        go_simp
        try rfl
      go_simp
      refine hK1 _ ?_
      clear hK1 K1
      refine wpPre_nil ?_
      refine wpTg_e rfl (fun K1 hK1 => ?_)
      refine step_callG (by first | rfl | go_simp) 18 #[.tmp 123] _ rfl Tryd.f18 Tryd.func18 (by kernel_rfl) rfl #[.pointer (some ⟨sb12, 0, none⟩)] rfl _ (HOw.out) ?_
      rintro e_ w13 ⟨rfl, rfl⟩
      refine ⟨_, rfl, ?_⟩
      go_simp
      refine hK1 _ _ _ (Below.refl _ _) (fun _ _ h => h) ?_
      clear hK1 K1
      refine wpPre_i rfl (fun K1 hK1 => ?_)
      rw [if_pos (by go_simp)]
      apply Exists.intro
      refine And.intro (fun wx hx => ?_) ?_
      · go_simp
        try rfl
      go_simp
      refine hK1 _ ?_
      clear hK1 K1
      refine wpPre_e rfl rfl (fun K1 hK1 => ?_)
      apply Exists.intro
      refine And.intro (fun wx hx => ?_) ?_
      · go_simp
        try rfl
      go_simp
      refine hK1 _ ?_
      clear hK1 K1
      refine wpPre_e rfl rfl (fun K1 hK1 => ?_)
      apply Exists.intro
      refine And.intro (fun wx hx => ?_) ?_
      · go_simp
        try rfl
      go_simp
      refine hK1 _ ?_
      clear hK1 K1
      refine wpPre_i rfl (fun K1 hK1 => ?_)
      rw [if_pos (by go_simp)]
      apply Exists.intro
      refine And.intro (fun wx hx => ?_) ?_
      · go_simp
        try rfl
      go_simp
      refine hK1 _ ?_
      clear hK1 K1
      refine wpPre_i rfl (fun K1 hK1 => ?_)
      rw [if_pos (by go_simp)]
      apply Exists.intro
      refine And.intro (fun wx hx => ?_) ?_
      · go_simp
        try rfl
      go_simp
      refine hK1 _ ?_
      clear hK1 K1
      refine wpPre_i rfl (fun K1 hK1 => ?_)
      rw [if_pos (by go_simp)]
      apply Exists.intro
      refine And.intro (fun wx hx => ?_) ?_
      · go_simp
        try rfl
      go_simp
      refine hK1 _ ?_
      clear hK1 K1
      refine wpPre_i rfl (fun K1 hK1 => ?_)
      rw [if_pos (by go_simp)]
      apply Exists.intro
      refine And.intro (fun wx hx => ?_) ?_
      · have e0 := below_fact hx rfl f0
        go_simp
        try rfl
      go_simp
      refine hK1 _ ?_
      clear hK1 K1
      refine wpPre_nil ?_
      refine wpTg_e rfl (fun K1 hK1 => ?_)
      refine step_callG (by first | rfl | go_simp) 19 #[.tmp 135] _ rfl Tryd.f19 Tryd.func19 (by kernel_rfl) rfl #[.pointer (some ⟨sb12, 0, none⟩)] rfl _ (HTk.out) ?_
      rintro e_ w14 ⟨v14, L14, rfl, hL14, hLz, hb14⟩
      refine ⟨_, rfl, ?_⟩
      have hL0 : L14 = [] := by
        have h1 := congrArg List.length hLz
        rw [List.length_map, show tickL (stLook S9).A = tickL S9.A from rfl] at h1
        unfold tickL at h1
        rw [List.length_map, List.length_range, HQ0.out, Nat.zero_min] at h1
        exact List.eq_nil_of_length_eq_zero h1
      subst hL0
      obtain ⟨p14, c14, hv14⟩ := hL14.slice
      subst hv14
      have HB14 := hid hb14
      clear hL14 hLz hb14
      dsimp only [List.length_nil]
      go_simp
      refine hK1 _ _ (fun wx => Below w14.heap.size w14 wx) (Below.refl _ _) (fun h => by cases h) ?_
      clear hK1 K1
      refine wpPre_i rfl (fun K1 hK1 => ?_)
      rw [if_pos (by go_simp)]
      apply Exists.intro
      refine And.intro (fun wx hx => ?_) ?_
      · go_simp
        try rfl
      go_simp
      refine hK1 _ ?_
      clear hK1 K1
      refine wpPre_i rfl (fun K1 hK1 => ?_)
      rw [if_pos (by go_simp)]
      apply Exists.intro
      refine And.intro (fun wx hx => ?_) ?_
      · go_simp
        try rfl
      go_simp
      refine hK1 _ ?_
      clear hK1 K1
      refine wpPre_e rfl rfl (fun K1 hK1 => ?_)
      apply Exists.intro
      refine And.intro (fun wx hx => ?_) ?_
      · go_simp
        try rfl
      go_simp
      refine hK1 _ ?_
      clear hK1 K1
      refine wpPre_e rfl rfl (fun K1 hK1 => ?_)
      apply Exists.intro
      refine And.intro (fun wx hx => ?_) ?_
      · go_simp
        try rfl
      go_simp
      refine hK1 _ ?_
      clear hK1 K1
      refine wpPre_nil ?_
      refine wpTg_done ?_
      have HF : Hid (Below w.heap.size w w14) := by
        have h1 := LQ.step HXd.out.old HXd.out.new HXd.out.but ⟨C12, ⟨_, _, _, _, _, _, _, _, _, _, HM12.out⟩, Ho12.out⟩
        obtain ⟨C13, hX13⟩ := HX9.out.on h1 HX9.out.inv.look (stLook_grw _)
        have h2 := px_below HB1.out Ho1.out hX13.but
        exact h2.trans (HB14.out.mono h2.size)
      clear d0 dl f0 f5 f6 f7 fl
      go_wp2
      exact bodyPost_ret (v := .bool true) (by simp [results, Tryd.results5, go_sem]) rfl ⟨rfl, HF.out⟩
end Go.Proofs.YtgnamngnmbaeeaaDoor
