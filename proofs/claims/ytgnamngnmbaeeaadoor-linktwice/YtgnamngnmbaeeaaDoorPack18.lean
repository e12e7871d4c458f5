import Derived.Test.YtgnamngnmbaeeaaDoorLkN
namespace Go.Proofs.YtgnamngnmbaeeaaDoor
open Go.RowKit
set_option maxRecDepth 8000
/-- what goes out now -/
def pktD (A : SA) (k : Nat) : List Int := frameOf (bodyB 68 [A.ln, A.an + 1 + k] (A.q.getD k []))
def tickL (A : SA) : List (List Int) := (List.range (min A.q.length A.wi)).map (pktD A)
def TickQ (A : SA) (w : World) (e : Ending) (w' : World) : Prop := ∃ v L, e = .returned v ∧ Rw w' (fun k => k < w.heap.size) v L ∧ L.map BS.zs = tickL A ∧ Below w.heap.size w w'
set_option maxHeartbeats 16000000 in
theorem tick_any (w : World) (Z : Nat → Prop) (b : Nat) (A : SA) (h : SndI w Z b A) (hT : Tab w) : Calls Tryd.prog 19 #[.pointer (some ⟨b, 0, none⟩)] w fun e w' => TickQ A w e w' := by
  have hok := h.ok
  obtain ⟨v, L, hX, hR, hq, hz, _⟩ := h
  obtain ⟨p, c, hv⟩ := hR.slice
  subst hv
  obtain ⟨N, hN⟩ : ∃ N, N = L.length := ⟨_, rfl⟩
  have hNq : N = A.q.length := by rw [hN, ← hq, List.length_map]
  rw [← hN] at hX hR
  have c0 := hX.cell 0
  have c1 := hX.cell 1
  have c2 := hX.cell 2
  have c3 := hX.cell 3
  have cl := hX.lt
  simp at c0 c1 c2 c3
  obtain ⟨n, hn⟩ : ∃ n, n = min N A.wi := ⟨_, rfl⟩
  obtain ⟨wi, hwi⟩ : ∃ wi, wi = A.wi := ⟨_, rfl⟩
  have hnN : n ≤ N := by omega
  have hcap : N ≤ c := by
    by_cases h0 : 0 < N
    · obtain ⟨g, o, cap, e1, _, _, _, e5, _⟩ := hR.at_ (i := 0) (x := L[0]'(by omega)) (List.getElem?_eq_getElem _)
      simp only [Value.slice.injEq] at e1
      omega
    · omega
  rw [← hwi] at c1
  have hmin : (if wi < N then (wi : Int) else (N : Int)) = (n : Int) := by split <;> omega
  have hmx : max (n : Int) 0 = (n : Int) := by omega
  have hmt : ((n : Int)).toNat = n := by omega
  have hn16 : n ≤ 16 := by have := hok.wi; omega
  have HXb := hid hX
  have HR := hid hR
  have Hq := hid hq
  have Hok := hid hok
  have Hn := hid (show n = min A.q.length A.wi by rw [hn, hNq])
  have HN := hid hN
  have HNq := hid hNq
  have HTb := hid hT
  clear hX hR hq hz hok hN hNq hn hT hwi
  go_enter Tryd.func19, Tryd.ntmps19
  go_upto_region 2 with fail
  have E0 := fun u : BW w => u.fact c1 cl
  have E1 := fun u : BW w => u.fact c3 cl
  refine wp_region_bw w (Below.refl _ _).drew (by kernel_rfl) (by kernel_rfl) ?_
  repeat (go_big_quiet_step (fail))
  refine wpQuiet_nil ?_
  rintro w2 ⟨u0, hw0⟩
  have hb2 : Below w.heap.size w w2 := by rw [hw0]; exact u0.prop
  clear hw0 u0 E0 E1
  have HXb2 := hid (HXb.out.below hb2)
  have HR2 := hid (HR.out.below hb2 (Z' := fun k => Z k ∨ k = b) fun _ _ h => h)
  have HB2 := hid hb2
  clear hb2 hmin hmx hmt c0 c1 c2 c3 cl
  go_wp2_with fail
  go_loopw [3, 24] (fun v x wr => ∃ (k : Nat) (M : List BS), k ≤ n ∧ x = .int .i64 (k : Int) ∧ Rw wr (fun j => j < w.heap.size) v M ∧ M.map BS.zs = (List.range k).map (pktD A) ∧ Below w.heap.size w wr) (fun _ x _ => n - (intOf x).toNat)
  case atStart => exact ⟨0, [], Nat.zero_le _, rfl, Rw.nil _ _, rfl, HB2.out⟩
  case round =>
    obtain ⟨k, M, hk, rfl, hM, hMz, hbw⟩ := hrel
    have HM := hid hM
    have HMz := hid hMz
    have HBw := hid hbw
    clear hM hMz hbw
    by_cases hlt : k < n
    case neg =>
      as_aux_lemma =>
      obtain rfl : k = n := by omega
      have hlt' : ¬ (k : Int) < (k : Int) := by omega
      obtain ⟨p3, c3, hv3⟩ := HM.out.slice
      subst hv3
      have HQ : Hid (TickQ A w (.returned (.slice p3 M.length c3)) wr) := ⟨_, M, rfl, HM.out, by rw [HMz.out]; unfold tickL; rw [Hn.out], HBw.out⟩
      clear hlt hk
      go_wp2
      exact bodyPost_ret (v := .slice p3 M.length c3) (by simp [results, Tryd.results19, go_sem]) rfl HQ.out
    case pos =>
      as_aux_lemma =>
      have hlt' : (k : Int) < (n : Int) := by omega
      have hkL : k < L.length := by have := HN.out; omega
      have hRr := (HR.out.below HBw.out (Z' := fun k => Z k ∨ k = b) fun _ _ h => h)
      obtain ⟨g, o, cap, e1, hgl, hgc, _, hcp, hy⟩ := hRr.at_ (x := L[k]) (List.getElem?_eq_getElem hkL)
      obtain ⟨⟨yp, yc, yz⟩, hyL⟩ : ∃ y : BS, y = L[k] := ⟨_, rfl⟩
      rw [← hyL] at hgc hy
      have e2 : p = some ⟨g, o, none⟩ := by simp only [Value.slice.injEq] at e1; exact e1.1
      subst e2
      have hyz : yz = A.q.getD k [] := by
        have h1 : (L.map BS.zs)[k]? = some yz := by rw [List.getElem?_map, List.getElem?_eq_getElem hkL, ← hyL]; rfl
        rw [Hq.out] at h1
        rw [List.getD_eq_getElem?_getD, h1]; rfl
      dsimp only [BS.val] at hgc
      have HY := hid hy
      have HYz := hid hyz
      have hX := HXb.out.below HBw.out
      have d0 := hX.cell 0
      have d2 := hX.cell 2
      have dl := hX.lt
      simp at d0 d2
      have hk16 : k ≤ 16 := by omega
      have ho := Hok.out.an
      have hln := Hok.out.ln
      obtain ⟨an, han⟩ : ∃ an, an = A.an := ⟨_, rfl⟩
      obtain ⟨ln, hln'⟩ : ∃ ln, ln = A.ln := ⟨_, rfl⟩
      rw [← han] at d2
      rw [← hln'] at d0
      have hNn := HNq.out
      have hw1 : IntKind.i64.wrap ((an : Int) + 1) = (an : Int) + 1 := by rw [IntKind.wrap_i64]; omega
      have hw2 : IntKind.i64.wrap ((an : Int) + 1 + (k : Int)) = (an : Int) + 1 + (k : Int) := by rw [IntKind.wrap_i64]; omega
      have hcs : (an : Int) + 1 + (k : Int) = ((an + 1 + k : Nat) : Int) := by omega
      have hnum : an + 1 + k < 34359738368 := by omega
      obtain ⟨V, hV⟩ : ∃ V, V = (wr.alloc (.cells #[.int .u8 68, .int .i64 (ln : Int), .int .i64 ((an : Int) + 1 + (k : Int)), .int .i64 0, .slice yp yz.length yc] 100)).drew := ⟨_, rfl⟩
      have HAn := hid han
      have HLn := hid hln'
      have HV := hid hV
      have HCs := hid hcs
      have HNu := hid hnum
      clear e1 hcp hyL hy hyz hX hk16 ho hln han hln' hNn hnum hV hRr hcs
      go_upto_region 5 with fail
      refine wp_region_calmE 30 (fun wx => Below wr.heap.size wr wx) [(0, true), (1, true), (2, true), (3, true), (4, false), (5, true), (6, true), (7, true), (8, false), (9, true), (10, true), (11, true), (12, true), (13, true)] (.one 14 true [] (.one 15 false [] .done)) (by kernel_rfl) (by kernel_rfl) (Below.refl _ _).drew ?_
      refine wpPre_e rfl rfl (fun K1 hK1 => ?_)
      apply Exists.intro
      refine And.intro (fun wx hx => ?_) ?_
      · go_simp
        try rfl
      go_simp
      refine hK1 _ ?_
      clear hK1 K1
      refine wpPre_e rfl rfl (fun K1 hK1 => ?_)
      apply Exists.intro
      refine And.intro (fun wx hx => ?_) ?_
      · go_simp
        try rfl
      go_simp
      refine hK1 _ ?_
      clear hK1 K1
      refine wpPre_e rfl rfl (fun K1 hK1 => ?_)
      apply Exists.intro
      refine And.intro (fun wx hx => ?_) ?_
      · go_simp
        try rfl
      go_simp
      refine hK1 _ ?_
      clear hK1 K1
      refine wpPre_e rfl rfl (fun K1 hK1 => ?_)
      apply Exists.intro
      refine And.intro (fun wx hx => ?_) ?_
      · go_simp
        try rfl
      go_simp
      refine hK1 _ ?_
      clear hK1 K1
      refine wpPre_e rfl rfl (fun K1 hK1 => ?_)
      apply Exists.intro
      refine And.intro (fun wx hx => ?_) ?_
      · have e0 := below_fact hx rfl d0
        have e1 := below_fact hx rfl d2
        go_simp
        try rfl
      go_simp
      refine hK1 _ ?_
      clear hK1 K1
      refine wpPre_e rfl rfl (fun K1 hK1 => ?_)
      apply Exists.intro
      refine And.intro (fun wx hx => ?_) ?_
      · go_simp
        try rfl
      go_simp
      refine hK1 _ ?_
      clear hK1 K1
      refine wpPre_e rfl rfl (fun K1 hK1 => ?_)
      apply Exists.intro
      refine And.intro (fun wx hx => ?_) ?_
      · go_simp
        try rfl
      go_simp
      refine hK1 _ ?_
      clear hK1 K1
      refine wpPre_e rfl rfl (fun K1 hK1 => ?_)
      apply Exists.intro
      refine And.intro (fun wx hx => ?_) ?_
      · go_simp
        try rfl
      go_simp
      refine hK1 _ ?_
      clear hK1 K1
      refine wpPre_e rfl rfl (fun K1 hK1 => ?_)
      apply Exists.intro
      refine And.intro (fun wx hx => ?_) ?_
      · have e0 := below_fact hx rfl d0
        have e1 := below_fact hx rfl d2
        go_simp
        try rfl
      go_simp
      refine hK1 _ ?_
      clear hK1 K1
      refine wpPre_e rfl rfl (fun K1 hK1 => ?_)
      apply Exists.intro
      refine And.intro (fun wx hx => ?_) ?_
      · go_simp
        try rfl
      go_simp
      refine hK1 _ ?_
      clear hK1 K1
      refine wpPre_e rfl rfl (fun K1 hK1 => ?_)
      apply Exists.intro
      refine And.intro (fun wx hx => ?_) ?_
      · go_simp
        try rfl
      go_simp
      refine hK1 _ ?_
      clear hK1 K1
      refine wpPre_e rfl rfl (fun K1 hK1 => ?_)
      apply Exists.intro
      refine And.intro (fun wx hx => ?_) ?_
      · go_simp
        try rfl
      go_simp
      refine hK1 _ ?_
      clear hK1 K1
      refine wpPre_e rfl rfl (fun K1 hK1 => ?_)
      apply Exists.intro
      refine And.intro (fun wx hx => ?_) ?_
      · go_simp
        try rfl
      go_simp
      refine hK1 _ ?_
      clear hK1 K1
      refine wpPre_e rfl rfl (fun K1 hK1 => ?_)
      apply Exists.intro
      refine And.intro (fun wx hx => ?_) ?_
      · go_simp
        try rfl
      go_simp
      refine hK1 _ ?_
      clear hK1 K1
      refine wpPre_nil ?_
      refine wpTr_e rfl (fun K1 hK1 => ?_)
      go_simp
      refine hK1 _ _ (fun _ => ((Below.refl _ _).drew).alloc (Nat.le_refl _) _) ?_
      clear hK1 K1
      refine wpPre_nil ?_
      refine wpTr_e rfl (fun K1 hK1 => ?_)
      go_simp
      refine hK1 _ _ (fun h => by cases h) ?_
      clear hK1 K1
      refine wpPre_nil ?_
      refine wpTr_done ?_
      rw [← HV.out]
      obtain ⟨lb, hlb⟩ : ∃ lb, lb = wr.heap.size := ⟨_, rfl⟩
      rw [← hlb]
      have hbV : Below wr.heap.size wr V := by rw [HV.out]; exact ((Below.refl _ _).alloc (Nat.le_refl _) _).drew
      have hXV : Box V lb #[.int .u8 68, .int .i64 (ln : Int), .int .i64 ((an : Int) + 1 + (k : Int)), .int .i64 0, .slice yp yz.length yc] 100 := by rw [HV.out, hlb]; exact Box.new wr _ _
      have HBV := hid hbV
      have HBw2 : Hid (Below w.heap.size w V) := HBw.out.trans (hbV.mono HBw.out.size)
      have HMV := hid (HM.out.below hbV (Z' := fun j => j < w.heap.size) fun _ _ h => h)
      have hym : yz.length ≤ 4096 := by
        rw [HYz.out]
        refine Hok.out.q _ ?_
        have hNn := HNq.out
        rw [List.getD_eq_getElem?_getD, List.getElem?_eq_getElem (by omega)]
        exact List.getElem_mem _
      have HPk := hid (packet_data ln (an + 1 + k) 0 ⟨yp, yc, yz⟩ V (by have := Hok.out.ln; rw [HLn.out]; omega) HNu.out ((HY.out.below hbV).mono fun _ _ h => h) hym (HTb.out.later HBw2.out))
      rw [← HCs.out] at HPk
      have x0 := hXV.cell 0
      have x1 := hXV.cell 1
      have x2 := hXV.cell 2
      have x3 := hXV.cell 3
      have x4 := hXV.cell 4
      have xl := hXV.lt
      simp at x0 x1 x2 x3 x4
      dsimp only [BS.val] at HPk
      clear hlb hbV hXV hym d0 d2 dl hgc hgl hw1 hw2
      go_wp2_with fail
      refine HPk.out.mono ?_
      rintro e w5 ⟨p5, c5, rfl, hO5, hb5⟩
      obtain ⟨B, hBe⟩ : ∃ B, B = frameOf (bodyB 68 [ln, an + 1 + k] yz) := ⟨_, rfl⟩
      rw [← hBe] at hO5 ⊢
      have hBl : B.length ≤ 140737488355328 := by
        rw [hBe, frameOf_length]
        have h1 := bodyB_len (kd := 68) (nums := [ln, an + 1 + k]) (ms := yz) (by intro u hu; simp at hu; have := Hok.out.ln; have := HLn.out; have := HNu.out; omega) (by simp) (by
          rw [HYz.out]
          refine Hok.out.q _ ?_
          have hNn := HNq.out
          rw [List.getD_eq_getElem?_getD, List.getElem?_eq_getElem (by omega)]
          exact List.getElem_mem _)
        omega
      obtain ⟨m5, hm5⟩ : ∃ m5, m5 = B.length := ⟨_, rfl⟩
      rw [← hm5]
      obtain ⟨V6, hV6⟩ : ∃ W, W = w5.alloc (.cells #[.slice p5 m5 c5] 36) := ⟨_, rfl⟩
      have hb6 : Below w5.heap.size w5 V6 := by rw [hV6]; exact (Below.refl _ _).alloc (Nat.le_refl _) _
      have hX6 : Box V6 w5.heap.size #[.slice p5 m5 c5] 36 := by rw [hV6]; exact Box.new _ _ _
      have HBV6 : Hid (Below V.heap.size V V6) := hb5.trans (hb6.mono hb5.size)
      have HB6 : Hid (Below w.heap.size w V6) := HBw2.out.trans (HBV6.out.mono HBw2.out.size)
      have HM6 := hid (HMV.out.below HBV6.out (Z' := fun j => j < w.heap.size) fun _ _ h => h)
      have HI6 := hid ((own_in hO5 hBl hO5.cap.2).below hb6)
      have hy0 : V6.cell? ⟨w5.heap.size, 0, none⟩ = some (.slice p5 m5 c5) := hX6.cell 0
      have HY0 := hid hy0
      have HV6 := hid hV6
      have HBe := hid hBe
      have Hm5 := hid hm5
      have hM16 : M.length ≤ 16 := by
        have h1 := congrArg List.length HMz.out
        rw [List.length_map, List.length_map, List.length_range] at h1
        omega
      clear hO5 hb5 hBe hBl hm5 hV6 hb6 hX6 hy0 x0 x1 x2 x3 x4 xl HPk
      go_wp2_with (at_builtin; rw [← HV6.out]; refine wpList_step (fun K hK => step_appQ rfl (.tmp 43) (.tmp 46) rfl _ (M.map BS.val) rfl HM6.out.row ⟨w5.heap.size, 0, none⟩ 1 (.slice p5 m5 c5) rfl HY0.out rfl (by rw [List.length_map]; omega) (fun v7 w7 hr7 hg7 hn7 => hK _ _ ?_)))
      have hP := HM6.out.push (x := ⟨p5, c5, B⟩) (by dsimp only [BS.val]; rw [← Hm5.out]; exact hr7) hg7 hn7 (HI6.out.mono fun q hq hl => by
        have hq1 := hq.1
        have h1 := HBw2.out.size
        have h2 : ∀ j, u3.ownBlock = some j → j < V.heap.size := fun j hj => (HMV.out.row.lt hj).1
        refine ⟨fun e => by have e' : q < w.heap.size := e; omega, fun e => by have := h2 q e; omega⟩) (fun q hq => Nat.lt_of_lt_of_le hq HB6.out.size)
      have HP := hid hP
      have HB7 : Hid (Below w.heap.size w w7) := HB6.out.grown hg7 HB6.out.size fun q hq => by have := HMV.out.z q hq; omega
      have HMz7 : Hid ((M ++ [(⟨p5, c5, B⟩ : BS)]).map BS.zs = (List.range (k + 1)).map (pktD A)) := by
        show _ = _
        rw [List.map_append, HMz.out, List.range_succ, List.map_append, List.map_cons, List.map_nil, List.map_cons, List.map_nil]
        congr 2
        show B = _
        rw [HBe.out, pktD, ← HYz.out, ← HAn.out, ← HLn.out]
      clear hP hr7 hg7 hn7
      go_wp2
      go_roundw
      case rel => exact ⟨k + 1, _, by omega, by go_num, HP.out, HMz7.out, HB7.out⟩
      case measure => simp [intOf]; omega
end Go.Proofs.YtgnamngnmbaeeaaDoor

namespace Go.Proofs.YtgnamngnmbaeeaaDoor
open Go.RowKit
set_option maxRecDepth 8000
/-- what a receiving end holds -/
structure RA where
  ln : Nat
  wi : Nat
  wt : Nat
  kp : List (Int × List Int)
  rd : List (List Int)
  wd : Nat
structure RA.Ok (R : RA) : Prop where
  ln : R.ln ≤ 23
  wi : 1 ≤ R.wi ∧ R.wi ≤ 16
  wt : 1 ≤ R.wt ∧ R.wt ≤ 1073741825
  rd : R.rd.length + 1 ≤ R.wt
  rz : ∀ m ∈ R.rd, m.length ≤ 4096
  wd : R.wd ≤ 1073741824
  kp : ∀ p ∈ R.kp, (1 ≤ p.1 ∧ p.1 ≤ 1073741824) ∧ p.2.length ≤ 4096
/-- what nobody of Z writes beside the end's own two blocks -/
def Zr (Z : Nat → Prop) (b mb : Nat) (k : Nat) : Prop := Z k ∨ k = b ∨ k = mb
structure RcvM (w : World) (Z : Nat → Prop) (b mb : Nat) (v : Value) (E : List (Int × BS)) (L : List BS) (R : RA) : Prop where
  bx : Box w b #[.int .i64 (R.ln : Int), .int .i64 (R.wi : Int), .int .i64 (R.wt : Int), .map (some mb), v, .int .i64 (R.wd : Int)] 106
  mp : MpI w mb (E.map fun p => (p.1, p.2.val))
  row : Rw w (Zr Z b mb) v L
  ent : ∀ p ∈ E, p.2.In w (fun k => ¬ Zr Z b mb k ∧ v.ownBlock ≠ some k)
  kp : E.map (fun p => (p.1, p.2.zs)) = R.kp
  rd : L.map BS.zs = R.rd
  z : ¬ Z b ∧ ¬ Z mb ∧ b ≠ mb
  ok : R.Ok
def RcvI (w : World) (Z : Nat → Prop) (b : Nat) (R : RA) : Prop := ∃ mb v E L, RcvM w Z b mb v E L R
theorem RcvM.but {w w' : World} {Z Z' : Nat → Prop} {b mb : Nat} {v : Value} {E : List (Int × BS)} {L : List BS} {R : RA} (h : RcvM w Z b mb v E L R) (hb : But Z w w') (hz : ∀ k, k < w.heap.size → Z' k → Z k) : RcvM w' Z' b mb v E L R := by
  have hl := h.bx.lt
  have hm := h.mp.lt
  refine ⟨h.bx.but hb h.z.1, h.mp.kept (hb.block mb hm h.z.2.1), h.row.but (hb.mono fun k _ hk => .inl hk) fun k hk e => e.imp (hz k hk) id, fun p hp => ?_, h.kp, h.rd, ⟨fun e => h.z.1 (hz b hl e), fun e => h.z.2.1 (hz mb hm e), h.z.2.2⟩, h.ok⟩
  refine (((h.ent p hp).mono fun k hk hl => (⟨hk, hl⟩ : (¬ Zr Z b mb k ∧ v.ownBlock ≠ some k) ∧ k < w.heap.size)).kept hb.size fun k hk hl => hb.block k hl fun e => hk.1.1 (.inl e)).mono fun k hk _ => ⟨fun e => hk.1.1 (e.imp (hz k hk.2) id), hk.1.2⟩
theorem RcvI.but {w w' : World} {Z Z' : Nat → Prop} {b : Nat} {R : RA} (h : RcvI w Z b R) (hb : But Z w w') (hz : ∀ k, k < w.heap.size → Z' k → Z k) : RcvI w' Z' b R := by
  obtain ⟨mb, v, E, L, h⟩ := h
  exact ⟨mb, v, E, L, h.but hb hz⟩
theorem RcvI.below {w w' : World} {Z Z' : Nat → Prop} {b : Nat} {R : RA} (h : RcvI w Z b R) (hb : Below w.heap.size w w') (hz : ∀ k, k < w.heap.size → Z' k → Z k) : RcvI w' Z' b R := h.but (But.ofBelow hb) hz
theorem RcvI.z {w : World} {Z Z' : Nat → Prop} {b : Nat} {R : RA} (h : RcvI w Z b R) (hz : ∀ k, k < w.heap.size → Z' k → Z k) : RcvI w Z' b R := h.but (But.refl _ _) hz
theorem RcvI.ok {w : World} {Z : Nat → Prop} {b : Nat} {R : RA} (h : RcvI w Z b R) : R.Ok := by obtain ⟨_, _, _, _, h⟩ := h; exact h.ok
theorem RcvI.lt {w : World} {Z : Nat → Prop} {b : Nat} {R : RA} (h : RcvI w Z b R) : b < w.heap.size := by obtain ⟨_, _, _, _, h⟩ := h; exact h.bx.lt
theorem RcvI.nz {w : World} {Z : Nat → Prop} {b : Nat} {R : RA} (h : RcvI w Z b R) : ¬ Z b := by obtain ⟨_, _, _, _, h⟩ := h; exact h.z.1
def RcvQ (w : World) (Z : Nat → Prop) (b : Nat) (R : RA) (w' : World) : Prop := RcvI w' Z b R ∧ Fr Z w w'
theorem RcvI.same {w w' : World} {Z : Nat → Prop} {b : Nat} {R : RA} (h : RcvI w Z b R) (hb : Below w.heap.size w w') : RcvQ w Z b R w' := ⟨h.below hb fun _ _ h => h, Fr.below hb⟩
/-- the abstract end's own steps -/
def lkp (E : List (Int × List Int)) (k : Int) : Option (List Int) := (E.find? fun p => decide (p.1 = k)).map (·.2)
def keepR (R : RA) (n : Nat) (m : List Int) : RA := if n < R.wt ∨ R.wt + R.wi ≤ n then R else if (lkp R.kp n).isSome then R else { R with kp := R.kp ++ [((n : Int), m)] }
def stepR (R : RA) (m : List Int) : RA := { R with kp := R.kp.filter (fun p => !decide (p.1 = (R.wt : Int))), rd := R.rd ++ [m], wt := R.wt + 1 }
def readyF : Nat → RA → RA
  | 0, R => R
  | f + 1, R => match lkp R.kp R.wt with
    | none => R
    | some m => readyF f (stepR R m)
def readyR (R : RA) : RA := readyF R.kp.length R
theorem lk_map (E : List (Int × BS)) (k : Int) : lk (E.map fun p => (p.1, p.2.val)) k = (E.find? fun p => decide (p.1 = k)).map fun p => p.2.val := by
  unfold lk
  rw [List.find?_map]
  rw [Option.map_map]
  rfl
theorem lkp_map (E : List (Int × BS)) (k : Int) : lkp (E.map fun p => (p.1, p.2.zs)) k = (E.find? fun p => decide (p.1 = k)).map fun p => p.2.zs := by
  unfold lkp
  rw [List.find?_map]
  rw [Option.map_map]
  rfl
end Go.Proofs.YtgnamngnmbaeeaaDoor

namespace Go.Proofs.YtgnamngnmbaeeaaDoor
open Go.RowKit
set_option maxRecDepth 8000
def NrQ (l wi : Int) (w : World) (e : Ending) (w' : World) : Prop :=
  (fineE l wi → ∃ b, w.heap.size ≤ b ∧ e = .returned (.tuple #[.pointer (some ⟨b, 0, none⟩), .int .i64 0]) ∧ Below w.heap.size w w' ∧ ∀ Z, (∀ k, Z k → k < w.heap.size) → RcvI w' Z b ⟨l.toNat, wi.toNat, 1, [], [], 0⟩) ∧
  (¬ fineE l wi → e = .returned (.tuple #[.pointer none, .int .i64 210]) ∧ Below w.heap.size w w')
set_option maxHeartbeats 4000000 in
theorem newRcv_any (l wi : Int) (w : World) : Calls Tryd.prog 26 #[.int .i64 l, .int .i64 wi] w fun e w' => NrQ l wi w e w' := by
  have HN := hid (newEnd_any l wi w)
  have hmk : ∀ W : World, (Instr.makeMap 104 none).run Tryd.prog W = .ok (.map (some W.heap.size)) (W.alloc (.map #[] 0)) := fun W => by simp [Instr.makeMap, go_sem]
  go_enter Tryd.func26, Tryd.ntmps26
  go_wp2_with fail
  refine HN.out.mono ?_
  rintro e w1 hq
  have hb1 := hq.2.2
  by_cases hf : fineE l wi
  · have he := hq.1 hf
    subst he
    obtain ⟨eb, heb⟩ : ∃ eb, eb = w1.heap.size := ⟨_, rfl⟩
    obtain ⟨V, hV⟩ : ∃ V, V = w1.alloc (.cells #[.int .i64 l, .int .i64 wi] 65) := ⟨_, rfl⟩
    have hB : Below w1.heap.size w1 V := by rw [hV]; exact (Below.refl _ _).alloc (Nat.le_refl _) _
    have hX : Box V eb #[.int .i64 l, .int .i64 wi] 65 := by rw [hV, heb]; exact Box.new _ _ _
    have HB : Hid (Below w.heap.size w V) := hb1.trans (hB.mono hb1.size)
    have HV := hid hV
    have HEb := hid heb
    have HF := hid hf
    have c0 := hX.cell 0
    have c1 := hX.cell 1
    have cl := hX.lt
    simp at c0 c1
    clear hq hb1 hf heb hV hB hX HN
    go_upto_region 2 with fail
    rw [← HV.out, ← HEb.out]
    go_wp2
    obtain ⟨mb, hmb⟩ : ∃ mb, mb = V.heap.size := ⟨_, rfl⟩
    obtain ⟨W1, hW1⟩ : ∃ W, W = V.alloc (.map #[] 0) := ⟨_, rfl⟩
    obtain ⟨W2, hW2⟩ : ∃ W, W = W1.alloc (.cells #[.int .i64 l, .int .i64 wi, .int .i64 1, .map (some mb), .slice none 0 0, .int .i64 0] 106) := ⟨_, rfl⟩
    have hs1 : W1.heap.size = mb + 1 := by rw [hW1, hmb]; simp
    have hm1 : W1.heap[mb]? = some (.map #[] 0) := by rw [hW1, hmb]; exact heap_new _ _
    have hB1 : Below V.heap.size V W1 := by rw [hW1]; exact (Below.refl _ _).alloc (Nat.le_refl _) _
    have hB2 : Below W1.heap.size W1 W2 := by rw [hW2]; exact (Below.refl _ _).alloc (Nat.le_refl _) _
    obtain ⟨b, hb⟩ : ∃ b, b = W1.heap.size := ⟨_, rfl⟩
    have hX2 : Box W2 b #[.int .i64 l, .int .i64 wi, .int .i64 1, .map (some mb), .slice none 0 0, .int .i64 0] 106 := by rw [hW2, hb]; exact Box.new _ _ _
    have hbm : b = mb + 1 := by omega
    rw [← hmb, ← hW1, ← hbm, ← hW2]
    have HQ : Hid (NrQ l wi w (.returned (.tuple #[.pointer (some ⟨b, 0, none⟩), .int .i64 0])) W2) := by
      have hsB := HB.out.size
      refine ⟨fun _ => ⟨b, by omega, rfl, HB.out.trans ((hB1.trans (hB2.mono hB1.size)).mono HB.out.size), fun Z hZ => ?_⟩, fun h => absurd HF.out h⟩
      obtain ⟨f1, f2, f3, f4⟩ := HF.out
      have e1 : ((l.toNat : Nat) : Int) = l := by omega
      have e2 : ((wi.toNat : Nat) : Int) = wi := by omega
      refine ⟨mb, .slice none 0 0, [], [], ⟨?_, ⟨#[], 0, (hB2.block mb (by omega)).trans hm1, ⟨⟨by simp, by simp, by simp⟩, rfl, fun p hp => by simp at hp⟩⟩, Rw.nil _ _, fun p hp => by simp at hp, rfl, rfl, ⟨fun e => (by have := hZ b e; omega), fun e => (by have := hZ mb e; omega), by omega⟩, ?_⟩⟩
      · show Box _ _ #[.int .i64 ((l.toNat : Nat) : Int), .int .i64 ((wi.toNat : Nat) : Int), _, _, _, _] _
        rw [e1, e2]
        exact hX2
      · exact ⟨by show l.toNat ≤ 23; omega, by show 1 ≤ wi.toNat ∧ wi.toNat ≤ 16; omega, by show 1 ≤ 1 ∧ 1 ≤ _; omega, Nat.le_refl _, fun m hm => by simp at hm, by show (0 : Nat) ≤ _; omega, fun p hp => by simp at hp⟩
    clear hW1 hW2 hs1 hm1 hB1 hB2 hX2 hbm hb hmb hmk
    exact bodyPost_ret (v := .tuple #[.pointer (some ⟨b, 0, none⟩), .int .i64 0]) (by simp [results, Tryd.results26, go_sem]) rfl HQ.out
  · have he := hq.2.1 hf
    subst he
    have HB := hid hb1
    have HF := hid hf
    clear hq hb1 hf HN
    obtain ⟨V, hV⟩ : ∃ V, V = w1.alloc (.cells #[.int .i64 0, .int .i64 0] 65) := ⟨_, rfl⟩
    have hB : Below w1.heap.size w1 V := by rw [hV]; exact (Below.refl _ _).alloc (Nat.le_refl _) _
    have HBV : Hid (Below w.heap.size w V) := HB.out.trans (hB.mono HB.out.size)
    have HV := hid hV
    clear hB hV
    go_upto_region 2 with fail
    rw [← HV.out]
    go_wp2
    exact bodyPost_ret (v := .tuple #[.pointer none, .int .i64 210]) (by simp [results, Tryd.results26, go_sem]) rfl ⟨fun h => absurd h HF.out, fun _ => ⟨rfl, HBV.out⟩⟩
end Go.Proofs.YtgnamngnmbaeeaaDoor
