import Derived.Test.YtgnamngnmbaeeaaDoorPack35
namespace Go.Proofs.YtgnamngnmbaeeaaDoor
open Go.RowKit
set_option maxRecDepth 8000
theorem begin_px {l n m : Int} {w w1 : World} {e : Ending} (h : BegQ l n m w e w1) (hT : Tab w) : ∃ lb C1, e = .returned (.pointer (some ⟨lb, 0, none⟩)) ∧ LI w1 C1 10 lb (ls0 l n m) ∧ (∀ k, k < w.heap.size → C1 k = 100) ∧ (∀ k, w.heap.size ≤ k → In8 C1 10 k) ∧ Below w.heap.size w w1 ∧ Tab w1 ∧ Out8 C1 10 := by
  obtain ⟨lb, he, hlb, hb, hC⟩ := h
  obtain ⟨C1, h1, h2, h3⟩ := hC (fun _ => 100) 10
  exact ⟨lb, C1, he, h1, h2, h3, hb, hT.later hb, fun e => by have := h2 0 hT.1; unfold In8 at e; omega⟩
theorem px_below {w w1 w2 : World} {C1 : Nat → Nat} (hb : Below w.heap.size w w1) (ho : ∀ k, k < w.heap.size → C1 k = 100) (h : But (In7 C1 10) w1 w2) : Below w.heap.size w w2 :=
  hb.trans (But.below h hb.size fun k hk e => by have := ho k hk; unfold In7 at e; omega)
theorem ops_px {w w1 : World} {C1 : Nat → Nat} {s : LT OpT} (hs : LT.In elOpT w (fun b => b < w.heap.size) s) (hb : Below w.heap.size w w1) (ho : ∀ k, k < w.heap.size → C1 k = 100) : LT.In elOpT w1 (fun k => ¬ In8 C1 10 k) s :=
  (hs.below hb).mono fun k hk _ => by have := ho k hk; unfold In8; omega
set_option maxHeartbeats 32000000 in
theorem linkOrder_walk (l n m : Int) (s : LT OpT) (w : World) (hs : LT.In elOpT w (fun b => b < w.heap.size) s) (hT : Tab w) : Calls Tryd.prog 3 #[.int .i64 l, .int .i64 n, .int .i64 m, .slice s.p s.n s.c] w fun e w' => e = .returned (.bool true) ∧ Below w.heap.size w w' := by
  have HBe := hid (begin_any l n m w)
  have HS := hid hs
  have HT := hid hT
  have hnn := hs.nn
  clear hs hT
  by_cases hlong : 1048576 < s.n
  · have hl1 : (1048576 : Int) < (s.n : Int) := by omega
    clear hlong
    go_enter Tryd.func3, Tryd.ntmps3
    go_wp2
    exact bodyPost_ret (v := .bool true) (by simp [results, Tryd.results3, go_sem]) rfl ⟨rfl, Below.refl _ _⟩
  have hl1 : ¬ (1048576 : Int) < (s.n : Int) := by omega
  have HLg := hid (show s.n ≤ 1048576 by omega)
  go_enter Tryd.func3, Tryd.ntmps3
  go_wp2_with fail
  refine HBe.out.mono ?_
  rintro e w1 hq
  obtain ⟨lb, C1, rfl, hLI, ho1, hn1, hb1, hT1, hO1⟩ := begin_px hq HT.out
  have hp0 : (ls0 l n m).P.length + s.n + 2 ≤ 1073741824 ∧ (ls0 l n m).ws.length + s.n + 2 ≤ 1073741824 := ⟨by show 0 + s.n + 2 ≤ _; omega, by show 1 + s.n + 2 ≤ _; omega⟩
  have HPl := hid (plays_any w1 C1 10 lb (ls0 l n m) hLI (fun k hk => hn1 k (Nat.le_trans hb1.size hk)) hT1 hO1 (Inv.zero l n m) s (ops_px HS.out hb1 ho1) hp0.1 hp0.2)
  have HB1 := hid hb1
  have Ho1 := hid ho1
  have HT1 := hid hT1
  have HO1 := hid hO1
  clear hq hLI ho1 hn1 hb1 hT1 hO1 HBe hlong
  go_wp2_with fail
  refine HPl.out.mono ?_
  rintro e w2 ⟨rfl, C2, S2, hX2, _⟩
  clear HPl hl1
  have hSz := stSz hX2.grw (Nat.le_refl _) hp0.1 hp0.2
  have HX2 := hid hX2
  obtain ⟨sb, rb, dv, nv, bv, pv, wv, D, N, P, hM⟩ := hX2.li
  have hX0 := LX.refl hM hX2.newc
  have hpl : P.length = S2.P.length := by rw [← hM.hp, List.length_map]
  obtain ⟨V3, hV3⟩ : ∃ V, V = w2.alloc (.cells #[.int .u8 7] 5) := ⟨_, rfl⟩
  have hb3 : Below w2.heap.size w2 V3 := by rw [hV3]; exact (Below.refl _ _).alloc (Nat.le_refl _) _
  have hx3 : BS.In V3 (fun k => w2.heap.size ≤ k) ⟨some ⟨w2.heap.size, 0, none⟩, 1, [7]⟩ := by rw [hV3]; exact bs_lit w2 [7] (by decide) (by decide)
  obtain ⟨C3, hC3⟩ : ∃ D, D = upC w2 C2 (10 + 7) := ⟨_, rfl⟩
  have hX3 := hX0.below hb3
  rw [← hC3] at hX3
  have HPt := hid (put_any V3 (Zc V3 C3 (10 + 1)) sb S2.A hX3.m.s zc_lt _ _ hx3)
  have hE : putE S2.A [7] = 0 := by unfold putE; rw [if_neg (by decide), if_neg (by have := hX2.inv.an; omega)]
  have HE := hid hE
  have HX3 := hid hX3
  have HPl2 := hid hpl
  have HSz := hid hSz
  have c0 := hM.bx.cell 0
  have cl := hM.bx.lt
  simp at c0
  have HV3 := hid hV3
  clear hX2 hM hX0 hpl hV3 hb3 hx3 hC3 hX3 hE hSz
  go_upto_region 6 with fail
  go_wp2_with fail
  rw [← HV3.out]
  refine HPt.out.mono ?_
  rintro e w4 ⟨he, hq⟩
  have he : e = .returned (.int .i64 (putE S2.A [7])) := he
  have hq : SndQ V3 (Zc V3 C3 (10 + 1)) sb (if putE S2.A [7] = 0 then { S2.A with q := S2.A.q ++ [[7]] } else S2.A) w4 := hq
  rw [HE.out] at he hq
  rw [if_pos rfl] at hq
  subst he
  have hX4 := HX3.out.snd hq
  obtain ⟨C4, hC4⟩ : ∃ D, D = upC V3 C3 (10 + 1) := ⟨_, rfl⟩
  rw [← hC4] at hX4
  have HX4 := hid hX4
  obtain ⟨pp, pc, hpv⟩ := hX4.m.p.slice
  subst hpv
  have c5 := hX4.m.bx.cell 5
  have cl4 := hX4.m.bx.lt
  simp at c5
  obtain ⟨V5, hV5⟩ : ∃ V, V = w4.alloc (.cells #[.int .u8 7] 5) := ⟨_, rfl⟩
  have hb5 : Below w4.heap.size w4 V5 := by rw [hV5]; exact (Below.refl _ _).alloc (Nat.le_refl _) _
  have hx5 : BS.In V5 (fun k => w4.heap.size ≤ k) ⟨some ⟨w4.heap.size, 0, none⟩, 1, [7]⟩ := by rw [hV5]; exact bs_lit w4 [7] (by decide) (by decide)
  have hs5 : V5.heap.size = w4.heap.size + 1 := by rw [hV5]; simp
  obtain ⟨V6, hV6⟩ : ∃ V, V = V5.alloc (.cells #[.slice (some ⟨w4.heap.size, 0, none⟩) 1 1] 36) := ⟨_, rfl⟩
  have hb6 : Below V5.heap.size V5 V6 := by rw [hV6]; exact (Below.refl _ _).alloc (Nat.le_refl _) _
  have hX6 : Box V6 V5.heap.size #[.slice (some ⟨w4.heap.size, 0, none⟩) 1 1] 36 := by rw [hV6]; exact Box.new _ _ _
  rw [hs5] at hX6
  have HY0 := hid (hX6.cell 0)
  have HB6 : Hid (Below w4.heap.size w4 V6) := hb5.trans (hb6.mono hb5.size)
  have HY6 := hid (hx5.below hb6)
  have HRow := hid (hX4.m.p.below HB6.out fun _ _ h => h)
  rw [hV5] at hV6
  have HV6 := hid hV6
  clear hq hX4 hC4 hV5 hb5 hx5 hs5 hV6 hb6 hX6 HPt c0 cl HV3
  go_wp2_with (at_builtin; rw [← HV6.out]; refine wpList_step (fun K hK => step_appQ rfl (.tmp 37) (.tmp 39) rfl _ (P.map BS.val) rfl HRow.out.row ⟨w4.heap.size + 1, 0, none⟩ 1 (.slice (some ⟨w4.heap.size, 0, none⟩) 1 1) rfl HY0.out rfl (by rw [List.length_map, HPl2.out]; have h9 := HSz.out.1; omega) (fun v7 w7 hr7 hg7 hn7 => ?_)); have hPR := HX4.out.putrow HB6.out HY6.out hr7 hg7 hn7; obtain ⟨⟨p4, c4, hv4⟩, df, dc, dl, hX7⟩ := hPR; subst hv4; refine hK _ _ ?_; clear hK hr7 hg7 hn7)
  obtain ⟨W8, hW8⟩ : ∃ W, W = w7.setCell ⟨lb, 5, none⟩ (.slice p4 (P.length + 1) c4) := ⟨_, rfl⟩
  rw [← hW8] at hX7
  obtain ⟨C8, hX8⟩ := HX2.out.on hX7.lq (HX2.out.inv.puts (z := [7]) (by decide) (by decide)) (j := 1) ⟨by show (S2.P ++ [[7]]).length ≤ _; rw [List.length_append]; exact Nat.le_refl _, Nat.le_succ _, rfl, rfl⟩
  have HX8 : Hid (PX w1 C1 10 lb (ls0 l n m) (s.n + 1) W8 C8 (putS S2 [7])) := hX8
  have HW8 := hid hW8
  clear hX7 hW8 hX8 c5 cl4
  go_wp2_with fail
  rw [← HW8.out]
  have hN30 : Hid ((putS S2 [7]).P.length ≤ 1048600 ∧ (putS S2 [7]).ws.length ≤ 1048600) := by
    have h1 := HX8.out.grw.p
    have h2 := HX8.out.grw.w
    have h3 : (ls0 l n m).P.length = 0 := rfl
    have h4 : (ls0 l n m).ws.length = 1 := rfl
    show _ ∧ _
    rw [h3] at h1
    rw [h4] at h2
    have h5 := HLg.out
    omega
  obtain ⟨np, hnp⟩ : ∃ np, np = (putS S2 [7]).P.length := ⟨_, rfl⟩
  have HNp := hid hnp
  clear hnp df dc dl
  go_loopw [11] (fun x wr => ∃ (i : Nat) (C' : Nat → Nat) (S' : LS), x = .int .i64 (i : Int) ∧ i ≤ S'.A.an ∧ PX w1 C1 10 lb (ls0 l n m) (s.n + 1) wr C' S' ∧ S'.P.length = np ∧ S'.ws.length ≤ 1048600) (fun x _ => np - (intOf x).toNat)
  case atStart => exact ⟨0, C8, _, rfl, Nat.zero_le _, HX8.out, HNp.out.symm, hN30.out.2⟩
  case round =>
    obtain ⟨i, C9, S9, rfl, hi, hX9, hP9, hw9⟩ := hrel
    have HX9 := hid hX9
    obtain ⟨sb9, rb9, dv9, nv9, bv9, pv9, wv9, D9, N9, P9, hM9⟩ := hX9.li
    obtain ⟨p9, c9, hv9⟩ := hM9.p.slice
    have hl9 : P9.length = np := by rw [← hP9, ← hM9.hp, List.length_map]
    rw [hl9] at hv9
    subst hv9
    have d0 := hM9.bx.cell 0
    have d5 := hM9.bx.cell 5
    have dl := hM9.bx.lt
    simp at d0 d5
    have hnp30 : np ≤ 1048600 := by rw [HNp.out]; exact hN30.out.1
    have han := hX9.inv.an
    have hinp : (i : Int) ≤ (np : Int) := by omega
    have HOp := hid (open_any wr _ sb9 S9.A hM9.s)
    by_cases hq0 : 0 < S9.A.q.length
    case pos =>
      as_aux_lemma =>
      have hfit : Fit64 (i : Int) := by unfold Fit64; omega
      have HRd := hid (round_any wr C9 10 lb S9 hX9.li hX9.newc (hX9.tab HT1.out HO1.out) (hX9.out HT1.out HO1.out) hX9.inv (by omega) (i : Int) hfit)
      obtain ⟨r1, r2, r3, r4⟩ := round_pure hX9.inv (by omega) (i : Int)
      have hwi := hX9.inv.wi
      have HR := hid (And.intro r1 (And.intro r2 (show i + 1 ≤ (rnS S9 (i : Int)).A.an by have := (r4 hq0).2.2; omega)))
      have hin : i < np := by omega
      obtain ⟨q, hqq⟩ : ∃ q, q = S9.A.q.length := ⟨_, rfl⟩
      rw [← hqq] at HOp hq0
      have hq0' : (0 : Int) < (q : Int) := by omega
      have HP9 := hid hP9
      have HW9 := hid hw9
      clear hX9 hM9 hl9 han hfit r1 r2 r3 r4 hwi hqq hi hP9 hw9
      go_wp2_with fail
      refine HOp.out.mono ?_
      rintro e w10 ⟨rfl, h10⟩
      rw [h10]
      clear h10 HOp
      go_wp2_with fail
      refine HRd.out.mono ?_
      rintro e w11 ⟨rfl, hq⟩
      obtain ⟨C11, hX11⟩ := HX9.out.on hq HR.out.1 HR.out.2.1
      have HX11 := hid hX11
      clear hq hX11 HRd d0 d5 dl
      go_wp2_with fail
      go_roundw
      case rel => exact ⟨i + 1, C11, _, by go_num, HR.out.2.2, HX11.out, HP9.out, HW9.out⟩
      case measure => simp [intOf]; omega
    case neg =>
      as_aux_lemma =>
      have hq0' : S9.A.q.length = 0 := by omega
      rw [hq0'] at HOp
      have hXd := (LX.refl hM9 hX9.newc).below (Below.refl wr.heap.size wr).drew
      obtain ⟨C10, hC10⟩ : ∃ D, D = upC wr C9 (10 + 7) := ⟨_, rfl⟩
      rw [← hC10] at hXd
      have HXd := hid hXd
      have HOp2 := hid (open_any wr.drew _ sb9 S9.A hXd.m.s)
      rw [hq0'] at HOp2
      have HLk := hid (looks_any wr.drew C10 10 lb S9 ⟨_, _, _, _, _, _, _, _, _, _, hXd.m⟩ hXd.newc (hX9.inv.lk (by omega) (by omega)))
      have hgv : (stLook S9).gv = np := by
        show S9.gv + S9.R.rd.length = np
        have h1 := hX9.inv.gv
        have h2 := hX9.inv.le
        have h3 := hX9.inv.wt
        omega
      have HGv := hid hgv
      have HP9 := hid hP9
      clear hX9 hM9 hl9 han hi hXd hC10 hgv hP9 hw9 hq0 hq0' hnp30
      go_wp2_with fail
      refine HOp.out.mono ?_
      rintro e w10 ⟨rfl, h10⟩
      rw [h10]
      clear h10 HOp
      go_upto_region 15 with fail
      refine wp_region_calmG 30 (fun wx => Below wr.heap.size wr wx) [(0, true), (1, true), (2, true), (3, false)] (.one 4 false [(5, true), (6, true), (7, true)] (.one 8 false [(9, true), (10, true), (11, true), (12, true), (13, true), (14, false), (15, true), (16, true), (17, true), (18, false), (19, true), (20, true), (21, true), (22, true)] .done)) (by kernel_rfl) (by kernel_rfl) (Below.refl _ _).drew ?_
      refine wpPre_e rfl rfl (fun K1 hK1 => ?_)
      apply Exists.intro
      refine And.intro (fun wx hx => ?_) ?_
      · go_simp
        try rfl
      go_simp
      refine hK1 _ ?_
      clear hK1 K1
      refine wpPre_e rfl rfl (fun K1 hK1 => ?_)
      apply Exists.intro
      refine And.intro (fun wx hx => ?_) ?_
      · go_simp
        try rfl
      go_simp
      refine hK1 _ ?_
      clear hK1 K1
      refine wpPre_e rfl rfl (fun K1 hK1 => ?_)
      apply Exists.intro
      refine And.intro (fun wx hx => ?_) ?_
      · go_simp
        try rfl
      go_simp
      refine hK1 _ ?_
      clear hK1 K1
      refine wpPre_e rfl rfl (fun K1 hK1 => ?_)
      apply Exists.intro
      refine And.intro (fun wx hx => ?_) ?_
      · have e0 := below_fact hx rfl d0
        go_simp
        try rfl
      go_simp
      refine hK1 _ ?_
      clear hK1 K1
      refine wpPre_nil ?_
      refine wpTg_e rfl (fun K1 hK1 => ?_)
      refine step_callG (by first | rfl | go_simp) 10 #[.tmp 69] _ rfl Tryd.f10 Tryd.func10 (by kernel_rfl) rfl #[.pointer (some ⟨sb9, 0, none⟩)] rfl _ (HOp2.out) ?_
      rintro e_ w11 ⟨rfl, rfl⟩
      refine ⟨_, rfl, ?_⟩
      go_simp
      refine hK1 _ _ _ (Below.refl _ _).drew (fun _ _ h => h) ?_
      clear hK1 K1
      refine wpPre_e rfl rfl (fun K1 hK1 => ?_)
      apply Exists.intro
      refine And.intro (fun wx hx => ?_) ?_
      · go_simp
        try rfl
      go_simp
      refine hK1 _ ?_
      clear hK1 K1
      refine wpPre_e rfl rfl (fun K1 hK1 => ?_)
      apply Exists.intro
      refine And.intro (fun wx hx => ?_) ?_
      · go_simp
        try rfl
      go_simp
      refine hK1 _ ?_
      clear hK1 K1
      refine wpPre_i rfl (fun K1 hK1 => ?_)
      rw [if_pos (by go_simp)]
      apply Exists.intro
      refine And.intro (fun wx hx => ?_) ?_
      · go_simp
        try rfl
      go_simp
      refine hK1 _ ?_
      clear hK1 K1
      refine wpPre_nil ?_
      refine wpTg_e rfl (fun K1 hK1 => ?_)
      refine step_callG (by first | rfl | go_simp) 12 #[.tmp 73] _ rfl Tryd.f12 Tryd.func12 (by kernel_rfl) rfl #[.pointer (some ⟨lb, 0, none⟩)] rfl _ (HLk.out) ?_
      rintro e_ w12 ⟨rfl, hq⟩
      refine ⟨_, rfl, ?_⟩
      obtain ⟨C12, ⟨sb12, rb12, dv12, nv12, bv12, pv12, wv12, D12, N12, P12, hM12⟩, ho12⟩ := hq
      obtain ⟨p12, c12, hv12⟩ := hM12.p.slice
      have hl12 : P12.length = np := by rw [← HP9.out, ← show P12.map BS.zs = S9.P from hM12.hp, List.length_map]
      rw [hl12] at hv12
      subst hv12
      have f5 := hM12.bx.cell 5
      have f6 := hM12.bx.cell 6
      have fl := hM12.bx.lt
      rw [HGv.out] at f6
      simp at f5 f6
      have HM12 := hid hM12
      have Ho12 := hid ho12
      clear hM12 ho12 hl12 HLk
      go_simp
      refine hK1 _ _ (fun wx => Below w12.heap.size w12 wx) (Below.refl _ _) (fun h => by cases h) ?_
      clear hK1 K1
      refine wpPre_e rfl rfl (fun K1 hK1 => ?_)
      apply Exists.intro
      refine And.intro (fun wx hx => ?_) ?_
      · go_simp
        try rfl
      go_simp
      refine hK1 _ ?_
      clear hK1 K1
      refine wpPre_e rfl rfl (fun K1 hK1 => ?_)
      apply Exists.intro
      refine And.intro (fun wx hx => ?_) ?_
      · go_simp
        try rfl
      go_simp
      refine hK1 _ ?_
      clear hK1 K1
      refine wpPre_i rfl (fun K1 hK1 => ?_)
      rw [if_pos (by go_simp)]
      apply Exists.intro
      refine And.intro (fun wx hx => ?_) ?_
      · go_simp
        try rfl
      go_simp
      refine hK1 _ ?_
      clear hK1 K1
      refine wpPre_i rfl (fun K1 hK1 => ?_)
      rw [if_pos (by go_simp)]
      apply Exists.intro
      refine And.intro (fun wx hx => ?_) ?_
      · go_simp
        try rfl
      go_simp
      refine hK1 _ ?_
      clear hK1 K1
      refine wpPre_i rfl (fun K1 hK1 => ?_)
      rw [if_pos (by go_simp)]
      apply Exists.intro
      refine And.intro (fun wx hx => ?_) ?_
      · go_simp
        try rfl
      go_simp
      refine hK1 _ ?_
      clear hK1 K1
      refine wpPre_i rfl (fun K1 hK1 => ?_)
      rw [if_pos (by go_simp)]
      apply Exists.intro
      refine And.intro (fun wx hx => ?_) ?_
      · have e0 := below_fact hx rfl f6
        go_simp
        try rfl
      go_simp
      refine hK1 _ ?_
      clear hK1 K1
      refine wpPre_i rfl (fun K1 hK1 => ?_)
      rw [if_pos (by go_simp)]
      apply Exists.intro
      refine And.intro (fun wx hx => ?_) ?_
      · go_simp
        try rfl
      go_simp
      refine hK1 _ ?_
      clear hK1 K1
      refine wpPre_i rfl (fun K1 hK1 => ?_)
      rw [if_pos (by go_simp)]
      apply Exists.intro
      refine And.intro (fun wx hx => ?_) ?_
      · go_simp
        try rfl
      go_simp
      refine hK1 _ ?_
      clear hK1 K1
      refine wpPre_i rfl (fun K1 hK1 => ?_)
      rw [if_pos (by go_simp)]
      apply Exists.intro
      refine And.intro (fun wx hx => ?_) ?_
      · go_simp
        try rfl
      go_simp
      refine hK1 _ ?_
      clear hK1 K1
      refine wpPre_i rfl (fun K1 hK1 => ?_)
      rw [if_pos (by go_simp)]
      apply Exists.intro
      refine And.intro (fun wx hx => ?_) ?_
      · have e0 := below_fact hx rfl f5
        go_simp
        try rfl
      go_simp
      refine hK1 _ ?_
      clear hK1 K1
      refine wpPre_i rfl (fun K1 hK1 => ?_)
      rw [if_pos (by go_simp)]
      apply Exists.intro
      refine And.intro (fun wx hx => ?_) ?_
      · go_simp
        try rfl
      go_simp
      refine hK1 _ ?_
      clear hK1 K1
      refine wpPre_i rfl (fun K1 hK1 => ?_)
      rw [if_pos (by go_simp)]
      apply Exists.intro
      refine And.intro (fun wx hx => ?_) ?_
      · go_simp
        try rfl
      go_simp
      refine hK1 _ ?_
      clear hK1 K1
      refine wpPre_e rfl rfl (fun K1 hK1 => ?_)
      apply Exists.intro
      refine And.intro (fun wx hx => ?_) ?_
      · go_simp
        try rfl
      go_simp
      refine hK1 _ ?_
      clear hK1 K1
      refine wpPre_e rfl rfl (fun K1 hK1 => ?_)
      apply Exists.intro
      refine And.intro (fun wx hx => ?_) ?_
      · go_simp
        try rfl
      go_simp
      refine hK1 _ ?_
      clear hK1 K1
      refine wpPre_nil ?_
      refine wpTg_done ?_
      have HF : Hid (Below w.heap.size w w12) := by
        have h1 := LQ.step HXd.out.old HXd.out.new HXd.out.but ⟨C12, ⟨_, _, _, _, _, _, _, _, _, _, HM12.out⟩, Ho12.out⟩
        obtain ⟨C13, hX13⟩ := HX9.out.on h1 HX9.out.inv.look (stLook_grw _)
        exact px_below HB1.out Ho1.out hX13.but
      clear d0 d5 dl f5 f6 fl
      go_wp2
      exact bodyPost_ret (v := .bool true) (by simp [results, Tryd.results3, go_sem]) rfl ⟨rfl, HF.out⟩
end Go.Proofs.YtgnamngnmbaeeaaDoor
