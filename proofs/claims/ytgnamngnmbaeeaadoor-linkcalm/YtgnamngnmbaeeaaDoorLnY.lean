import Derived.Test.YtgnamngnmbaeeaaDoorPack33
namespace Go.Proofs.YtgnamngnmbaeeaaDoor
open Go.RowKit
set_option maxRecDepth 8000
/-- the law's own lists change -/
theorem LX.tmp {w w1 w2 : World} {C C1 : Nat → Nat} {c lb sb rb : Nat} {dv nv bv pv wv : Value} {D N P : List BS} {S : LS} (h : LX w C c lb sb rb dv nv bv pv wv D N P S w1 C1) (hb : But (fun k => w.heap.size ≤ k ∧ C1 k = c + 7) w1 w2) : LX w C c lb sb rb dv nv bv pv wv D N P S w2 (upC w1 C1 (c + 7)) := by
  have hbd : ∀ d, d < 7 → But (Zc w1 C1 (c + d)) w1 w2 := fun d hd => hb.mono fun k hk e => ⟨hk, by rw [e.2]; omega⟩
  have hz : ∀ e, ∀ k, k < w1.heap.size → Zc w2 (upC w1 C1 (c + 7)) e k → Zc w1 C1 e k := fun e k hk => zc_old hk
  have hm := h.m
  have hs := h.but.size
  refine ⟨⟨hm.bx.but (hbd 0 (by omega)) fun e => e.2 (by rw [hm.cl]; rfl), by rw [upC_old hm.bx.lt]; exact hm.cl, hm.s.but (hbd 1 (by omega)) (hz _), hm.r.but (hbd 2 (by omega)) (hz _), hm.d.but (hbd 3 (by omega)) (hz _), hm.n.but (hbd 4 (by omega)) (hz _), hm.p.but (hbd 5 (by omega)) (hz _), hm.w.but (hbd 6 (by omega)) fun k hk => upC_old hk, hm.hd, hm.hn, hm.hp⟩, fun k hk => by rw [upC_old (by omega)]; exact h.old k hk, fun k hk => ?_, h.but.cc (hb.mono fun k hk e => .inr e.1)⟩
  rcases Nat.lt_or_ge k w1.heap.size with e | e
  · have := h.new k hk
    unfold In8 at this ⊢
    rw [upC_old e]
    exact this
  · unfold In8; rw [upC_new e]; omega
theorem LX.rcvD {w w1 w2 : World} {C C1 : Nat → Nat} {c lb sb rb : Nat} {dv nv bv pv wv : Value} {D N P : List BS} {S : LS} (h : LX w C c lb sb rb dv nv bv pv wv D N P S w1 C1) {R' : RA} {N3 : Nat} (hN : w1.heap.size ≤ N3) (hF : Fr (Zc w1 C1 (c + 2)) w1 w2) (hI : RcvI w2 (fun k => Zc w1 C1 (c + 2) k ∨ N3 ≤ k) rb R') :
    ∃ C2, LX w C c lb sb rb dv nv bv pv wv D N P { S with R := R' } w2 C2 ∧ (∀ k, N3 ≤ k → C2 k = c + 7) ∧ ∀ k, k < w1.heap.size → C2 k = C1 k := by
  obtain ⟨C2, h1, h2⟩ := (LX.refl h.m h.newc).rcvC hN hF hI
  exact ⟨C2, h.on h1.m h1.old h1.new h1.but, h2, h1.old⟩
theorem fit_third {t : Int} (ht : Fit64 t) : Fit64 (t.tdiv 3) := by
  unfold Fit64 at *
  rcases Int.le_total 0 t with h | h
  · rw [Int.tdiv_eq_ediv_of_nonneg h]; omega
  · obtain ⟨s, hs⟩ : ∃ s, s = -t := ⟨_, rfl⟩
    have e : t = -s := by omega
    rw [e, Int.neg_tdiv, Int.tdiv_eq_ediv_of_nonneg (by omega)]
    omega
/-- a row of lists of the law's own, made behind W -/
def Zt (W : World) (w : World) (C : Nat → Nat) (c : Nat) (k : Nat) : Prop := k < W.heap.size ∨ Zc w C (c + 7) k
theorem zt_new {W w w' : World} {C C' : Nat → Nat} {c k : Nat} (hk : k < w.heap.size) (hc : C' k = C k) (h : Zt W w' C' c k) : Zt W w C c k :=
  h.imp id fun e => ⟨hk, by rw [← hc]; exact e.2⟩
set_option maxHeartbeats 32000000 in
theorem round_any (w : World) (C : Nat → Nat) (c lb : Nat) (S : LS) (h : LI w C c lb S) (hn : ∀ k, w.heap.size ≤ k → In8 C c k) (hT : Tab w) (hO : Out8 C c) (hI : Inv S) (hz : S.P.length ≤ 1073741824) (t : Int) (ht : Fit64 t) :
    Calls Tryd.prog 11 #[.pointer (some ⟨lb, 0, none⟩), .int .i64 t] w fun e w' => e = .returned (.bool true) ∧ LQ w C c lb (rnS S t) w' := by
  obtain ⟨sb, rb, dv, nv, bv, pv, wv, D, N, P, hM⟩ := h
  have HX0 := hid (LX.refl hM hn)
  have HTk := hid (tick_any w (Zc w C (c + 1)) sb S.A hM.s hT)
  have c0 := hM.bx.cell 0
  have cl := hM.bx.lt
  simp at c0
  obtain ⟨q3, hq3⟩ : ∃ q, q = t.tdiv 3 := ⟨_, rfl⟩
  have hq3f : Fit64 q3 := by
    rw [hq3]
    exact fit_third ht
  have hq3w : IntKind.i64.wrap q3 = q3 := by unfold Fit64 at hq3f; exact wr64 (by omega) (by omega)
  have hq3' : t.tdiv 3 = q3 := hq3.symm
  have HT := hid hT
  have HO := hid hO
  have HI := hid hI
  have HZ := hid hz
  have Ht := hid ht
  have Hq := hid hq3f
  have HQ3 := hid hq3'
  have HQw := hid hq3w
  clear hM hn hT hO hI hz ht hq3 hq3f hq3' hq3w
  go_enter Tryd.func11, Tryd.ntmps11
  go_wp2_with fail
  refine HTk.out.mono ?_
  rintro e w1 ⟨v, L, rfl, hL, hLz, hb1⟩
  obtain ⟨n, hnL⟩ : ∃ n, n = L.length := ⟨_, rfl⟩
  have hnS : n = rnN S := by rw [hnL, ← List.length_map (f := BS.zs), hLz]; unfold tickL rnN; rw [List.length_map, List.length_range]
  obtain ⟨lp, lc, hlv⟩ := hL.slice
  rw [← hnL] at hlv
  subst hlv
  obtain ⟨C1, hC1⟩ : ∃ D, D = upC w C (c + 7) := ⟨_, rfl⟩
  have hX1 := HX0.out.below hb1
  rw [← hC1] at hX1
  have HX1 := hid hX1
  have hcol : ∀ k, w.heap.size ≤ k → k < w1.heap.size → C1 k = c + 7 := fun k hk _ => by rw [hC1]; exact upC_new hk
  have hL1 : Rw w1 (fun k => ¬ (w.heap.size ≤ k ∧ k < w1.heap.size)) (.slice lp n lc) L := hL.kept (Nat.le_refl _) (fun _ _ _ => rfl) fun k hk e => by
    have e' : ¬ (w.heap.size ≤ k ∧ k < w1.heap.size) := e
    show k < w.heap.size
    omega
  have hn16 : n ≤ 16 := by rw [hnS]; have := HI.out.wi; unfold rnN; omega
  have HC := hid hcol
  have HL := hid hL1
  have HLz := hid hLz
  have HN := hid hnS
  have HNL := hid hnL
  have HT1 := hid (hX1.tab HT.out HO.out)
  have HO1 : Hid (Out8 C1 c) := HO.out.line HT.out hX1.old
  have HQb := hid hb1
  clear hL hLz hb1 hnS hC1 hX1 hcol hL1 hnL HTk c0 cl
  go_wp2_with fail
  go_loopw [6, 8] (fun v x wr => ∃ (k : Nat) (BL : List BS) (C' : Nat → Nat), k ≤ n ∧ x = .int .i64 (k : Int) ∧ LX w1 C1 c lb sb rb dv nv bv pv wv D N P { S with R := tkR S n t k } wr C' ∧ Rw wr (Zt w1 wr C' c) v BL ∧ BL.map BS.zs = tkB S n t k) (fun _ x _ => n - (intOf x).toNat)
  case atStart => exact ⟨0, [], C1, Nat.zero_le _, rfl, LX.refl HX1.out.m HX1.out.newc, Rw.nil _ _, rfl⟩
  case round =>
    obtain ⟨k, BL, C2, hk, rfl, hX, hB, hBz⟩ := hrel
    have HX := hid hX
    have HB := hid hB
    have HBz := hid hBz
    have hTk := tki_all (n := n) (t := t) HI.out HZ.out (by rw [HN.out]; exact Nat.min_le_left _ _) k hk
    have HTk := hid hTk
    clear hB hBz
    by_cases hlt : k < n
    case pos =>
      as_aux_lemma =>
      have hlt' : (k : Int) < (n : Int) := by omega
      have hu := (tki_step HI.out HZ.out (by rw [HN.out]; exact Nat.min_le_left _ _) hlt hTk).1
      have hj := plP_lt t hlt
      obtain ⟨j, hjj⟩ : ∃ j, j = plP k n t := ⟨_, rfl⟩
      have hPl := place_any k n t hlt hn16 Ht.out wr.drew
      rw [← hjj] at hu hj hPl
      have hLr : Rw wr (fun k => ¬ (w.heap.size ≤ k ∧ k < w1.heap.size)) (.slice lp n lc) L := HL.out.but (hX.but.mono fun b hb e => fun e2 => by
        have := HC.out b e2.1 e2.2
        unfold In7 at e
        omega) fun _ _ h => h
      have hjL : j < L.length := by rw [← HNL.out]; exact hj
      obtain ⟨g, o, cap, e1, hgl, hgc, _, hcp, hy⟩ := hLr.at_ (x := L[j]) (List.getElem?_eq_getElem hjL)
      obtain ⟨y, hyL⟩ : ∃ y : BS, y = L[j] := ⟨_, rfl⟩
      rw [← hyL] at hgc hy
      have hyz : y.zs = pktD S.A j := by
        have h1 : (L.map BS.zs)[j]? = some y.zs := by rw [List.getElem?_map, List.getElem?_eq_getElem hjL, ← hyL]; rfl
        rw [HLz.out] at h1
        unfold tickL at h1
        rw [List.getElem?_map, List.getElem?_range (by have := HN.out; unfold rnN at this; omega)] at h1
        exact (Option.some.inj h1).symm
      rw [← hyz] at hu
      have e2 : lp = some ⟨g, o, none⟩ := by simp only [Value.slice.injEq] at e1; exact e1.1
      have hXd := hX.below (Below.refl wr.heap.size wr).drew
      obtain ⟨C3, hC3⟩ : ∃ D, D = upC wr C2 (c + 7) := ⟨_, rfl⟩
      rw [← hC3] at hXd
      have HXd := hid hXd
      have HC3 : Hid (∀ k, k < wr.heap.size → C3 k = C2 k) := fun k hk => by rw [hC3]; exact upC_old hk
      have HTa := hid (take_any wr.drew (Zc wr.drew C3 (c + 2)) rb (tkR S n t k) hXd.m.r zc_lt y _ (hy.below (Below.refl _ _).drew) (hXd.tab HT1.out HO1.out) (hXd.z0 HT1.out HO1.out (by omega)))
      obtain ⟨xv, hxv⟩ : ∃ v, v = y.val := ⟨_, rfl⟩
      rw [← hxv] at hgc HTa
      have c1 := hX.m.bx.cell 1
      have cl := hX.m.bx.lt
      simp at c1
      have hjl : (j : Int) < (n : Int) := by omega
      have HUn := hid hu
      have HPl := hid hPl
      have Hyz := hid hyz
      have HJ := hid hjj
      subst e2
      clear hX hu hj hPl hLr hjL e1 hcp hyL hy hyz hXd hC3 hxv hTk hjj
      go_upto_region 7 with fail
      refine wp_region_calmE 30 (fun wx => Below wr.heap.size wr wx) [(0, true), (1, true), (2, true), (3, false), (4, true), (5, true), (6, true), (7, true)] (.one 8 true [(9, true), (10, false)] (.one 11 false [(12, true), (13, true), (14, true), (15, true), (16, true)] .done)) (by kernel_rfl) (by kernel_rfl) (Below.refl _ _).drew ?_
      refine wpPre_e rfl rfl (fun K1 hK1 => ?_)
      apply Exists.intro
      refine And.intro (fun wx hx => ?_) ?_
      · go_simp
        try rfl
      go_simp
      refine hK1 _ ?_
      clear hK1 K1
      refine wpPre_e rfl rfl (fun K1 hK1 => ?_)
      apply Exists.intro
      refine And.intro (fun wx hx => ?_) ?_
      · go_simp
        try rfl
      go_simp
      refine hK1 _ ?_
      clear hK1 K1
      refine wpPre_e rfl rfl (fun K1 hK1 => ?_)
      apply Exists.intro
      refine And.intro (fun wx hx => ?_) ?_
      · go_simp
        try rfl
      go_simp
      refine hK1 _ ?_
      clear hK1 K1
      refine wpPre_e rfl rfl (fun K1 hK1 => ?_)
      apply Exists.intro
      refine And.intro (fun wx hx => ?_) ?_
      · have e0 := below_fact hx rfl c1
        have e1 := below_fact hx rfl hgc
        go_simp
        try rfl
      go_simp
      refine hK1 _ ?_
      clear hK1 K1
      refine wpPre_e rfl rfl (fun K1 hK1 => ?_)
      apply Exists.intro
      refine And.intro (fun wx hx => ?_) ?_
      · go_simp
        try rfl
      go_simp
      refine hK1 _ ?_
      clear hK1 K1
      refine wpPre_e rfl rfl (fun K1 hK1 => ?_)
      apply Exists.intro
      refine And.intro (fun wx hx => ?_) ?_
      · go_simp
        try rfl
      go_simp
      refine hK1 _ ?_
      clear hK1 K1
      refine wpPre_e rfl rfl (fun K1 hK1 => ?_)
      apply Exists.intro
      refine And.intro (fun wx hx => ?_) ?_
      · go_simp
        try rfl
      go_simp
      refine hK1 _ ?_
      clear hK1 K1
      refine wpPre_e rfl rfl (fun K1 hK1 => ?_)
      apply Exists.intro
      refine And.intro (fun wx hx => ?_) ?_
      · go_simp
        try rfl
      go_simp
      refine hK1 _ ?_
      clear hK1 K1
      refine wpPre_nil ?_
      refine wpTr_e rfl (fun K1 hK1 => ?_)
      refine step_callG (by first | rfl | go_simp) 29 #[.tmp 31, .tmp 32, .tmp 33] _ rfl Tryd.f29 Tryd.func29 (by kernel_rfl) rfl #[.int .i64 (k : Int), .int .i64 (n : Int), .int .i64 t] rfl _ (HPl.out) ?_
      rintro e_ w2 ⟨rfl, rfl⟩
      refine ⟨_, rfl, ?_⟩
      go_simp
      refine hK1 _ _ (fun _ => (Below.refl _ _).drew) ?_
      clear hK1 K1
      refine wpPre_e rfl rfl (fun K1 hK1 => ?_)
      apply Exists.intro
      refine And.intro (fun wx hx => ?_) ?_
      · go_simp
        try rfl
      go_simp
      refine hK1 _ ?_
      clear hK1 K1
      refine wpPre_e rfl rfl (fun K1 hK1 => ?_)
      apply Exists.intro
      refine And.intro (fun wx hx => ?_) ?_
      · have e0 := below_fact hx rfl c1
        have e1 := below_fact hx rfl hgc
        go_simp
        try rfl
      go_simp
      refine hK1 _ ?_
      clear hK1 K1
      refine wpPre_nil ?_
      refine wpTr_e rfl (fun K1 hK1 => ?_)
      refine step_callG (by first | rfl | go_simp) 21 #[.tmp 29, .tmp 36] _ rfl Tryd.f21 Tryd.func21 (by kernel_rfl) rfl #[.pointer (some ⟨rb, 0, none⟩), xv] rfl _ (HTa.out) ?_
      rintro e_ w3 ⟨_, hq⟩
      obtain ⟨y3, N3, he, hyz3, hN1, hN2, hyi3, hI3, hF3⟩ := hq HUn.out
      subst he
      refine ⟨_, rfl, ?_⟩
      have HYi := hid (And.intro hyz3 (And.intro hyi3 (And.intro hI3 (And.intro hF3 (And.intro hN1 hN2)))))
      clear hyz3 hyi3 hI3 hF3 hq hN1 hN2
      go_simp
      refine hK1 _ _ (fun h => by cases h) ?_
      clear hK1 K1
      refine wpPre_e rfl rfl (fun K1 hK1 => ?_)
      apply Exists.intro
      refine And.intro (fun wx hx => ?_) ?_
      · go_simp
        try rfl
      go_simp
      refine hK1 _ ?_
      clear hK1 K1
      refine wpPre_e rfl rfl (fun K1 hK1 => ?_)
      apply Exists.intro
      refine And.intro (fun wx hx => ?_) ?_
      · go_simp
        try rfl
      go_simp
      refine hK1 _ ?_
      clear hK1 K1
      refine wpPre_e rfl rfl (fun K1 hK1 => ?_)
      apply Exists.intro
      refine And.intro (fun wx hx => ?_) ?_
      · go_simp
        try rfl
      go_simp
      refine hK1 _ ?_
      clear hK1 K1
      refine wpPre_e rfl rfl (fun K1 hK1 => ?_)
      apply Exists.intro
      refine And.intro (fun wx hx => ?_) ?_
      · go_simp
        try rfl
      go_simp
      refine hK1 _ ?_
      clear hK1 K1
      refine wpPre_e rfl rfl (fun K1 hK1 => ?_)
      apply Exists.intro
      refine And.intro (fun wx hx => ?_) ?_
      · go_simp
        try rfl
      go_simp
      refine hK1 _ ?_
      clear hK1 K1
      refine wpPre_nil ?_
      refine wpTr_done ?_
      obtain ⟨hyz3, hyi3, hI3, hF3, hN1, hN2⟩ := HYi.out
      obtain ⟨C4, hX4, hC4, hO4⟩ := HXd.out.rcvD hN1 hF3 hI3
      have hyi4 : y3.In w3 (fun k => wr.heap.size ≤ k ∧ C4 k = c + 7) := hyi3.mono fun k hk _ => ⟨Nat.le_trans hN1 hk, hC4 k hk⟩
      have hB4 : Rw w3 (Zt w1 w3 C4 c) u6 BL := (HB.out.below (Below.refl wr.heap.size wr).drew (Z' := Zt w1 wr C2 c) fun _ _ h => h).but (hF3.mono fun q hq e => by
        refine .inr ⟨hq, ?_⟩
        have h1 : C3 q = c + 2 := Classical.byContradiction fun e3 => e ⟨hq, e3⟩
        rw [← HC3.out q hq]
        omega) fun q hq hz2 => zt_new hq ((hO4 q hq).trans (HC3.out q hq)) hz2
      have hX4b := hX4
      have HX4 := hid hX4
      have HB4 := hid hB4
      have HY4 := hid hyi4
      have HYz4 := hid hyz3
      have HW : Hid (wr.heap.size ≤ w3.heap.size) := hF3.size
      obtain ⟨yp, yc, yz⟩ := y3
      dsimp only [BS.val]
      obtain ⟨m5, hm5⟩ : ∃ m5, m5 = yz.length := ⟨_, rfl⟩
      rw [← hm5]
      obtain ⟨V6, hV6⟩ : ∃ W, W = w3.alloc (.cells #[.slice yp m5 yc] 36) := ⟨_, rfl⟩
      have hb6 : Below w3.heap.size w3 V6 := by rw [hV6]; exact (Below.refl _ _).alloc (Nat.le_refl _) _
      have hX6 : Box V6 w3.heap.size #[.slice yp m5 yc] 36 := by rw [hV6]; exact Box.new _ _ _
      have hy0 : V6.cell? ⟨w3.heap.size, 0, none⟩ = some (.slice yp m5 yc) := hX6.cell 0
      have HY0 := hid hy0
      have HV6 := hid hV6
      have Hm5 := hid hm5
      obtain ⟨C6, hC6⟩ : ∃ D, D = upC w3 C4 (c + 7) := ⟨_, rfl⟩
      have hX6b := hX4b.below hb6
      rw [← hC6] at hX6b
      have hO6 : ∀ q, q < w3.heap.size → C6 q = C4 q := fun q hq => by rw [hC6]; exact upC_old hq
      have HO6 := hid hO6
      have HXX := hid hX6b
      have HC6 : Hid (∀ q, w3.heap.size ≤ q → C6 q = c + 7) := fun q hq => by rw [hC6]; exact upC_new hq
      have HB6 := hid (hB4.below hb6 (Z' := Zt w1 V6 C6 c) fun q hq hz2 => zt_new hq (hO6 q hq) hz2)
      have HS6 := hid hb6.size
      have HY6 := hid (hyi4.below hb6)
      have hBlen : BL.length ≤ 16 := by
        have h1 := congrArg List.length HBz.out
        rw [List.length_map, HTk.out.len] at h1
        omega
      clear hyz3 hyi3 hI3 hF3 hN1 hN2 hX4 hC4 hO4 hyi4 hB4 HYi hm5 hV6 hb6 hX6 hy0 hC6 hX6b hX4b c1 cl hgl hgc hO6
      go_wp2_with (at_builtin; rw [← HV6.out]; refine wpList_step (fun K hK => step_appQ rfl (.tmp 42) (.tmp 44) rfl _ (BL.map BS.val) rfl HB6.out.row ⟨w3.heap.size, 0, none⟩ 1 (.slice yp m5 yc) rfl HY0.out rfl (by rw [List.length_map]; omega) (fun v7 w7 hr7 hg7 hn7 => hK _ _ ?_)))
      have hP := HB6.out.push (x := ⟨yp, yc, yz⟩) (by dsimp only [BS.val]; rw [← Hm5.out]; exact hr7) hg7 hn7 (HY6.out.mono fun q hq hl => by
        have hq1 := hq.1
        have hq2 := hq.2
        refine ⟨fun e => ?_, fun e => ?_⟩
        · rcases e with e | e
          · have := HX.out.but.size; omega
          · by_cases hq3 : q < w3.heap.size
            · exact e.2 (by rw [HO6.out q hq3]; exact hq2)
            · exact e.2 (HC6.out q (by omega))
        · have := (HB.out.row.lt e).1; omega) (fun q hq => by
          rcases hq with hq | hq
          · have := HX.out.but.size; have := HW.out; have := HS6.out; omega
          · exact hq.1)
      have hG7 := But.grow hg7
      have hX7 := HXX.out.tmp (hG7.mono fun q hq e => by
        have h1 := HB6.out.z q e
        unfold Zt Zc at h1
        refine ⟨by omega, Classical.byContradiction fun e2 => h1 (.inr ⟨hq, e2⟩)⟩)
      have hP7 := hP.but (Z' := Zt w1 w7 (upC V6 C6 (c + 7)) c) (But.refl _ _) fun q hq hz2 => by
        rcases Nat.lt_or_ge q V6.heap.size with h1 | h1
        · exact zt_new h1 (upC_old h1) hz2
        · rcases hz2 with h2 | h2
          · exact .inl h2
          · exact absurd (upC_new h1) h2.2
      have hz7 : (BL ++ [(⟨yp, yc, yz⟩ : BS)]).map BS.zs = tkB S n t (k + 1) := by
        rw [List.map_append, HBz.out]
        show tkB S n t k ++ [yz] = tkB S n t k ++ [pktA (takeN (tkR S n t k) (pktD S.A (plP k n t)))]
        rw [← HJ.out, ← Hyz.out, ← HYz4.out]
      have hs7 : ({ ({ S with R := tkR S n t k } : LS) with R := takeN (tkR S n t k) y.zs } : LS) = { S with R := tkR S n t (k + 1) } := by
        rw [Hyz.out, HJ.out]; rfl
      rw [hs7] at hX7
      have HX7 := hid hX7
      have HP7 := hid hP7
      have HZ7 := hid hz7
      clear hX7 hP7 hz7 hP hr7 hg7 hn7 hG7 hs7
      go_wp2
      go_roundw
      case rel => exact ⟨k + 1, _, _, by omega, by go_num, HX7.out, HP7.out, HZ7.out⟩
      case measure => simp [intOf]; omega
    case neg =>
      as_aux_lemma =>
      obtain ⟨W2, hW2⟩ : ∃ W, W = wr := ⟨_, rfl⟩
      subst hW2
      obtain rfl : k = n := by omega
      have hlt' : ¬ (k : Int) < (k : Int) := by omega
      have hBl : BL.length = k := by
        have h1 := congrArg List.length HBz.out
        rw [List.length_map, HTk.out.len] at h1
        exact h1
      obtain ⟨bp, bc, hbv⟩ := HB.out.slice
      rw [hBl] at hbv
      subst hbv
      have HR := hid (HB.out.but (Z' := fun q => ¬ (C2 q = c + 7 ∧ q < W2.heap.size)) (But.refl _ _) fun q hq e => .inr ⟨hq, fun e2 => e ⟨e2, hq⟩⟩)
      have HBl := hid hBl
      have HTb := hid (hX.tab HT1.out HO1.out)
      have HOb : Hid (Out8 C2 c) := HO1.out.line HT1.out hX.old
      have hA0 := aki_all (S := { S with R := tkR S k t k }) (B := tkB S k t k) (n := k) (t := q3) hTk.inv HZ.out hTk.ans hTk.len hTk.last
      have HA0 := hid hA0
      have hAs := fun i (hi : i < k) => aki_step (S := { S with R := tkR S k t k }) (B := tkB S k t k) (n := k) (t := q3) HZ.out hTk.ans hTk.len hTk.last hi (hA0 i (by omega))
      have HAs := hid hAs
      clear hX hTk hBl hA0 hAs hlt
      go_wp2_with fail
      go_loopw [11] (fun x wr => ∃ (i : Nat) (C' : Nat → Nat), i ≤ k ∧ x = .int .i64 (i : Int) ∧ LX W2 C2 c lb sb rb dv nv bv pv wv D N P { S with R := tkR S k t k, A := akA S.A (tkB S k t k) k q3 i } wr C') (fun x _ => k - (intOf x).toNat)
      case atStart => exact ⟨0, C2, Nat.zero_le _, rfl, LX.refl HX.out.m HX.out.newc⟩
      case round =>
        obtain ⟨i, C5, hi, rfl, hX5⟩ := hrel
        have HX5 := hid hX5
        by_cases hli : i < k
        case pos =>
          as_aux_lemma =>
          have hli' : (i : Int) < (k : Int) := by omega
          have hu := (HAs.out i hli).1
          have hj := plP_lt q3 hli
          obtain ⟨j, hjj⟩ : ∃ j, j = plP i k q3 := ⟨_, rfl⟩
          have hPl := place_any i k q3 hli hn16 Hq.out wr.drew
          rw [← hjj] at hu hj hPl
          have hLr : Rw wr (fun q => ¬ (C2 q = c + 7 ∧ q < W2.heap.size)) (.slice bp k bc) BL := HR.out.but (hX5.but.mono fun b hb e => fun e2 => by
            unfold In7 at e
            omega) fun _ _ h => h
          have hjL : j < BL.length := by rw [HBl.out]; exact hj
          obtain ⟨g, o, cap, e1, hgl, hgc, _, hcp, hy⟩ := hLr.at_ (x := BL[j]) (List.getElem?_eq_getElem hjL)
          obtain ⟨y, hyL⟩ : ∃ y : BS, y = BL[j] := ⟨_, rfl⟩
          rw [← hyL] at hgc hy
          have hyz : y.zs = (tkB S k t k).getD j [] := by
            have h1 : (BL.map BS.zs)[j]? = some y.zs := by rw [List.getElem?_map, List.getElem?_eq_getElem hjL, ← hyL]; rfl
            rw [HBz.out] at h1
            rw [List.getD_eq_getElem?_getD, h1]; rfl
          rw [← hyz] at hu
          have e2 : bp = some ⟨g, o, none⟩ := by simp only [Value.slice.injEq] at e1; exact e1.1
          have hXd := hX5.below (Below.refl wr.heap.size wr).drew
          obtain ⟨C6, hC6⟩ : ∃ D, D = upC wr C5 (c + 7) := ⟨_, rfl⟩
          rw [← hC6] at hXd
          have HXd := hid hXd
          have HAc := hid (ack_any wr.drew (Zc wr.drew C6 (c + 1)) sb _ hXd.m.s zc_lt y _ (hy.below (Below.refl _ _).drew) (hXd.tab HTb.out HOb.out))
          have hs8 : ({ ({ S with R := tkR S k t k, A := akA S.A (tkB S k t k) k q3 i } : LS) with A := ackN (akA S.A (tkB S k t k) k q3 i) y.zs } : LS) = { S with R := tkR S k t k, A := akA S.A (tkB S k t k) k q3 (i + 1) } := by
            rw [hyz, hjj]; rfl
          have HS8 := hid hs8
          obtain ⟨xv, hxv⟩ : ∃ v, v = y.val := ⟨_, rfl⟩
          rw [← hxv] at hgc HAc
          have c0 := hX5.m.bx.cell 0
          have cl := hX5.m.bx.lt
          simp at c0
          have hjl : (j : Int) < (k : Int) := by omega
          have hq3' := HQ3.out
          have hq3w := HQw.out
          have HUn := hid hu
          have HPl := hid hPl
          subst e2
          clear hX5 hu hj hPl hLr hjL e1 hcp hyL hy hyz hXd hC6 hxv hjj hs8
          go_upto_region 14 with fail
          refine wp_region_calmE 30 (fun wx => Below wr.heap.size wr wx) [(0, true), (1, true), (2, true), (3, false), (4, true), (5, true), (6, true), (7, true), (8, true)] (.one 9 true [(10, true), (11, false)] (.one 12 false [(13, true)] .done)) (by kernel_rfl) (by kernel_rfl) (Below.refl _ _).drew ?_
          refine wpPre_e rfl rfl (fun K1 hK1 => ?_)
          apply Exists.intro
          refine And.intro (fun wx hx => ?_) ?_
          · go_simp
            try rfl
          go_simp
          refine hK1 _ ?_
          clear hK1 K1
          refine wpPre_e rfl rfl (fun K1 hK1 => ?_)
          apply Exists.intro
          refine And.intro (fun wx hx => ?_) ?_
          · go_simp
            try rfl
          go_simp
          refine hK1 _ ?_
          clear hK1 K1
          refine wpPre_e rfl rfl (fun K1 hK1 => ?_)
          apply Exists.intro
          refine And.intro (fun wx hx => ?_) ?_
          · go_simp
            try rfl
          go_simp
          refine hK1 _ ?_
          clear hK1 K1
          refine wpPre_e rfl rfl (fun K1 hK1 => ?_)
          apply Exists.intro
          refine And.intro (fun wx hx => ?_) ?_
          · have e0 := below_fact hx rfl c0
            have e1 := below_fact hx rfl hgc
            go_simp
            try rfl
          go_simp
          refine hK1 _ ?_
          clear hK1 K1
          refine wpPre_e rfl rfl (fun K1 hK1 => ?_)
          apply Exists.intro
          refine And.intro (fun wx hx => ?_) ?_
          · go_simp
            try rfl
          go_simp
          refine hK1 _ ?_
          clear hK1 K1
          refine wpPre_e rfl rfl (fun K1 hK1 => ?_)
          apply Exists.intro
          refine And.intro (fun wx hx => ?_) ?_
          · go_simp
            try rfl
          go_simp
          refine hK1 _ ?_
          clear hK1 K1
          refine wpPre_e rfl rfl (fun K1 hK1 => ?_)
          apply Exists.intro
          refine And.intro (fun wx hx => ?_) ?_
          · go_simp
            try rfl
          go_simp
          refine hK1 _ ?_
          clear hK1 K1
          refine wpPre_e rfl rfl (fun K1 hK1 => ?_)
          apply Exists.intro
          refine And.intro (fun wx hx => ?_) ?_
          · go_simp
            try rfl
          go_simp
          refine hK1 _ ?_
          clear hK1 K1
          refine wpPre_e rfl rfl (fun K1 hK1 => ?_)
          apply Exists.intro
          refine And.intro (fun wx hx => ?_) ?_
          · go_simp
            try rfl
          go_simp
          refine hK1 _ ?_
          clear hK1 K1
          refine wpPre_nil ?_
          refine wpTr_e rfl (fun K1 hK1 => ?_)
          refine step_callG (by first | rfl | go_simp) 29 #[.tmp 56, .tmp 57, .tmp 59] _ rfl Tryd.f29 Tryd.func29 (by kernel_rfl) rfl #[.int .i64 (i : Int), .int .i64 (k : Int), .int .i64 q3] rfl _ (HPl.out) ?_
          rintro e_ w2 ⟨rfl, rfl⟩
          refine ⟨_, rfl, ?_⟩
          go_simp
          refine hK1 _ _ (fun _ => (Below.refl _ _).drew) ?_
          clear hK1 K1
          refine wpPre_e rfl rfl (fun K1 hK1 => ?_)
          apply Exists.intro
          refine And.intro (fun wx hx => ?_) ?_
          · go_simp
            try rfl
          go_simp
          refine hK1 _ ?_
          clear hK1 K1
          refine wpPre_e rfl rfl (fun K1 hK1 => ?_)
          apply Exists.intro
          refine And.intro (fun wx hx => ?_) ?_
          · have e0 := below_fact hx rfl c0
            have e1 := below_fact hx rfl hgc
            go_simp
            try rfl
          go_simp
          refine hK1 _ ?_
          clear hK1 K1
          refine wpPre_nil ?_
          refine wpTr_e rfl (fun K1 hK1 => ?_)
          refine step_callG (by first | rfl | go_simp) 24 #[.tmp 54, .tmp 62] _ rfl Tryd.f24 Tryd.func24 (by kernel_rfl) rfl #[.pointer (some ⟨sb, 0, none⟩), xv] rfl _ (HAc.out) ?_
          rintro e_ w3 ⟨he, hq⟩
          rw [HUn.out] at he hq
          rw [if_pos rfl] at hq
          subst he
          refine ⟨_, rfl, ?_⟩
          have hX9 := HXd.out.snd hq
          rw [HS8.out] at hX9
          have HX9 := hid hX9
          clear hq hX9
          go_simp
          refine hK1 _ _ (fun h => by cases h) ?_
          clear hK1 K1
          refine wpPre_e rfl rfl (fun K1 hK1 => ?_)
          apply Exists.intro
          refine And.intro (fun wx hx => ?_) ?_
          · go_simp
            try rfl
          go_simp
          refine hK1 _ ?_
          clear hK1 K1
          refine wpPre_nil ?_
          refine wpTr_done ?_
          clear c0 cl hgl hgc
          go_wp2_with fail
          go_roundw
          case rel => exact ⟨i + 1, _, by omega, by go_num, HX9.out⟩
          case measure => simp [intOf]; omega
        case neg =>
          as_aux_lemma =>
          obtain rfl : i = k := by omega
          have hli' : ¬ (i : Int) < (i : Int) := by omega
          have HF : Hid (LQ w C c lb (rnS S t) wr) := by
            have h1 : rnS S t = { S with R := tkR S i t i, A := akA S.A (tkB S i t i) i q3 i } := by
              unfold rnS
              rw [← HN.out, HQ3.out]
            rw [h1]
            exact LQ.step HX1.out.old HX1.out.new HX1.out.but (LQ.step HX.out.old HX.out.new HX.out.but HX5.out.lq)
          clear hX5 hli
          go_wp2
          exact bodyPost_ret (v := .bool true) (by simp [results, Tryd.results11, go_sem]) rfl ⟨rfl, HF.out⟩
end Go.Proofs.YtgnamngnmbaeeaaDoor
