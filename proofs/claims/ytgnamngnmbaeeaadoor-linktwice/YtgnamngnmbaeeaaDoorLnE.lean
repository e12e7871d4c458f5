import Derived.Test.YtgnamngnmbaeeaaDoorPack22
namespace Go.Proofs.YtgnamngnmbaeeaaDoor
open Go.RowKit
set_option maxRecDepth 8000
theorem But.cc {C : Nat → Prop} {w w1 w2 : World} (hb : But C w w1) (h3 : But (fun k => C k ∨ w.heap.size ≤ k) w1 w2) : But C w w2 :=
  ⟨h3.os.trans hb.os, h3.tape.trans hb.tape, h3.output.trans hb.output, Nat.le_trans hb.size h3.size, fun k hk hn => (h3.block k (Nat.lt_of_lt_of_le hk hb.size) fun e => e.elim hn fun e => by omega).trans (hb.block k hk hn)⟩
/-- one step behind others -/
theorem LQ.step {w w1 w2 : World} {C C1 : Nat → Nat} {c lb : Nat} {S : LS} (hold : ∀ k, k < w.heap.size → C1 k = C k) (hnew : ∀ k, w.heap.size ≤ k → In8 C1 c k) (hb : But (In7 C c) w w1) (h : LQ w1 C1 c lb S w2) : LQ w C c lb S w2 := by
  obtain ⟨C2, h1, h2, h3, h4⟩ := h
  have hs := hb.size
  refine ⟨C2, h1, fun k hk => by rw [h2 k (by omega)]; exact hold k hk, fun k hk => ?_, hb.cc (h4.mono fun k hk e => ?_)⟩
  · rcases Nat.lt_or_ge k w1.heap.size with h | h
    · have := hnew k hk
      unfold In8 at this ⊢
      rw [h2 k h]
      exact this
    · exact h3 k h
  · rcases Nat.lt_or_ge k w.heap.size with h | h
    · refine .inl ?_
      unfold In7 at e ⊢
      rw [← hold k h]
      exact e
    · exact .inr h
/-- a write into the line's own block -/
theorem LM.box {w w' : World} {C : Nat → Nat} {c lb sb rb : Nat} {dv nv bv pv wv : Value} {D N P : List BS} {S : LS} (h : LM w C c lb sb rb dv nv bv pv wv D N P S) (hb : But (fun k => k = lb) w w') (gv : Nat) (td wd dn : Int)
    (hX : Box w' lb #[.pointer (some ⟨sb, 0, none⟩), .pointer (some ⟨rb, 0, none⟩), dv, nv, bv, pv, .int .i64 (gv : Int), .int .i64 td, wv, .int .i64 wd, .int .i64 dn] 34) :
    LM w' (upC w C c) c lb sb rb dv nv bv pv wv D N P { S with gv := gv, td := td, wd := wd, dn := dn } ∧ (∀ k, k < w.heap.size → upC w C c k = C k) ∧ (∀ k, w.heap.size ≤ k → In8 (upC w C c) c k) ∧ But (In7 C c) w w' := by
  have hl := h.bx.lt
  have hbd : ∀ e, 0 < e → But (Zc w C (c + e)) w w' := fun e he => hb.mono fun k hk hn => ⟨hk, by rw [show k = lb from hn, h.cl]; omega⟩
  have hz : ∀ e, ∀ k, k < w.heap.size → Zc w' (upC w C c) e k → Zc w C e k := fun e k hk => zc_old hk
  refine ⟨⟨hX, by rw [upC_old hl]; exact h.cl, h.s.but (hbd 1 (by omega)) (hz _), h.r.but (hbd 2 (by omega)) (hz _), h.d.but (hbd 3 (by omega)) (hz _), h.n.but (hbd 4 (by omega)) (hz _), h.p.but (hbd 5 (by omega)) (hz _), h.w.but (hbd 6 (by omega)) fun k hk => upC_old hk, h.hd, h.hn, h.hp⟩, fun k hk => upC_old hk, fun k hk => ?_, hb.mono fun k hk hn => ?_⟩
  · unfold In8; rw [upC_new hk]; omega
  · unfold In7; rw [show k = lb from hn, h.cl]; omega
def gvM (w : World) (lb : Nat) : Nat := match w.cell? ⟨lb, 6, none⟩ with
  | some (.int _ n) => n.toNat
  | _ => 0
def drS (S : LS) (k : Nat) : LS := { S with gv := S.gv + k, R := { S.R with rd := S.R.rd.drop k } }
/-- what is ready is the next of what was put -/
def Rdy (S : LS) : Prop := ∃ r, S.P = S.P.take S.gv ++ (S.R.rd ++ r) ∧ S.gv ≤ S.P.length ∧ S.P.length ≤ 1073741824
theorem Rdy.get {S : LS} (h : Rdy S) {k : Nat} (hk : k < S.R.rd.length) : S.P[S.gv + k]? = S.R.rd[k]? := by
  obtain ⟨r, h1, h2, _⟩ := h
  have hl : (S.P.take S.gv).length = S.gv := by rw [List.length_take]; omega
  rw [h1, List.getElem?_append_right (by omega), hl, show S.gv + k - S.gv = k by omega, List.getElem?_append_left hk]
theorem Rdy.len {S : LS} (h : Rdy S) : S.gv + S.R.rd.length ≤ S.P.length := by
  obtain ⟨r, h1, h2, _⟩ := h
  have := congrArg List.length h1
  rw [List.length_append, List.length_append, List.length_take] at this
  omega
set_option maxHeartbeats 16000000 in
theorem drain_any (w : World) (C : Nat → Nat) (c lb : Nat) (S : LS) (h : LI w C c lb S) (hn : ∀ k, w.heap.size ≤ k → In8 C c k) (hr : Rdy S) :
    Calls Tryd.prog 52 #[.pointer (some ⟨lb, 0, none⟩)] w fun e w' => e = .returned (.bool true) ∧ LQ w C c lb (drS S S.R.rd.length) w' := by
  have H := hid h
  have HN := hid hn
  have HR := hid hr
  obtain ⟨n, hnn⟩ : ∃ n, n = S.R.rd.length := ⟨_, rfl⟩
  have HNn := hid hnn
  rw [← hnn]
  clear h hn hr hnn
  go_enter Tryd.func52, Tryd.ntmps52
  go_wp2_with fail
  go_loopw [] (fun wr => ∃ k, k ≤ n ∧ LQ w C c lb (drS S k) wr) (fun wr => S.gv + n - gvM wr lb)
  case atStart => exact ⟨0, Nat.zero_le _, LQ.refl (by have h := H.out; unfold drS; rw [Nat.add_zero, List.drop_zero]; exact h) HN.out⟩
  case round =>
    obtain ⟨k, hk, C', ⟨sb, rb, dv, nv, bv, pv, wv, D, N, P, hM⟩, hold, hnew, hbut⟩ := hrel
    have HM := hid hM
    have HOld := hid hold
    have HNew := hid hnew
    have HBut := hid hbut
    have HK := hid hk
    have hgm : gvM wr lb = S.gv + k := by unfold gvM; rw [hM.bx.cell 6]; rfl
    have HGm := hid hgm
    have HNx := hid (next_any wr (Zc wr C' (c + 2)) rb _ hM.r)
    have c1 := hM.bx.cell 1
    have cl := hM.bx.lt
    simp at c1
    clear H HN hM hold hnew hbut hk hgm
    go_wp2_with fail
    refine HNx.out.mono ?_
    rintro e w1 ⟨hnil, hcons⟩
    have hlen : (S.R.rd.drop k).length = n - k := by rw [List.length_drop, HNn.out]
    by_cases hkn : k = n
    · as_aux_lemma =>
      obtain ⟨he, hI, hF⟩ := hnil (List.eq_nil_of_length_eq_zero (by show (S.R.rd.drop k).length = 0; omega))
      subst he
      obtain ⟨p1, p2, p3, p4⟩ := HM.out.part (d := 2) (by omega) hF S.A { S.R with rd := S.R.rd.drop k } (fun e => by cases e) (fun _ => rfl) (fun _ => hI) (fun e => absurd rfl e) (by omega) (by omega) (by omega) (by omega)
      have HQ : Hid (LQ w C c lb (drS S n) w1) := LQ.step HOld.out HNew.out HBut.out ⟨_, ⟨sb, rb, dv, nv, bv, pv, wv, D, N, P, by rw [← hkn]; exact p1⟩, p2, p3, p4⟩
      clear hnil hcons hI hF p1 p2 p3 p4 hlen hkn c1 cl
      go_wp2
      exact bodyPost_ret (v := .bool true) (by simp [results, Tryd.results52, go_sem]) rfl ⟨rfl, HQ.out⟩
    · as_aux_lemma =>
      have hkl : k < S.R.rd.length := by have := HK.out; rw [← HNn.out]; omega
      obtain ⟨m, hm⟩ : ∃ m, S.R.rd[k]? = some m := ⟨_, List.getElem?_eq_getElem hkl⟩
      have hdr : S.R.rd.drop k = m :: S.R.rd.drop (k + 1) := by
        have h1 := List.getElem?_eq_some_iff.1 hm
        rw [List.drop_eq_getElem_cons hkl, h1.2]
      obtain ⟨y, he, hyz, hyi, hI, hF⟩ := hcons m _ hdr
      subst he
      obtain ⟨p1, p2, p3, p4⟩ := HM.out.part (d := 2) (by omega) hF S.A { S.R with rd := S.R.rd.drop (k + 1) } (fun e => by cases e) (fun _ => rfl) (fun _ => hI) (fun e => absurd rfl e) (by omega) (by omega) (by omega) (by omega)
      have HM1 := hid p1
      have HP := hid (And.intro p2 (And.intro p3 p4))
      have hPm : S.P[S.gv + k]? = some m := by rw [HR.out.get hkl]; exact hm
      have hPP : P.map BS.zs = S.P := p1.hp
      obtain ⟨x, hx, hxz⟩ : ∃ x, P[S.gv + k]? = some x ∧ x.zs = m := by
        have h1 : (P.map BS.zs)[S.gv + k]? = some m := by rw [hPP]; exact hPm
        rw [List.getElem?_map] at h1
        cases h2 : P[S.gv + k]? with
        | none => rw [h2] at h1; cases h1
        | some x => rw [h2] at h1; exact ⟨x, rfl, by simpa using h1⟩
      obtain ⟨g, o, cap, hpv, hg, hcx, _, hcap, hxi⟩ := p1.p.at_ hx
      have HSm := hid (sameB_any y x w1.drew _ _ (hyi.below (Below.refl _ _).drew) (hxi.below (Below.refl _ _).drew))
      have hD : decide (y.zs = x.zs) = true := decide_eq_true (hyz.trans hxz.symm)
      rw [hD] at HSm
      have hlP : P.length = S.P.length := by rw [← hPP, List.length_map]
      have hbx := p1.bx
      have c5 := hbx.cell 5
      have c6 := hbx.cell 6
      have cl1 := hbx.lt
      have cf1 := hbx.frozen
      simp at c5 c6
      rw [hpv] at c5
      obtain ⟨L, hL⟩ : ∃ L, L = P.length := ⟨_, rfl⟩
      rw [← hL] at c5 hcap
      obtain ⟨q, hq⟩ : ∃ q, q = S.gv + k := ⟨_, rfl⟩
      have hq6 : w1.cell? ⟨lb, 6, none⟩ = some (.int .i64 (q : Int)) := by rw [hq]; exact c6
      have hqL : q < L := by have h1 := HR.out.len; omega
      have hq30 : L ≤ 1073741824 := by obtain ⟨_, _, _, h⟩ := HR.out; omega
      rw [← hq] at hcx
      have hqL1 : (q : Int) < (L : Int) := by omega
      have hqL2 : ¬ ((L : Int) ≤ (q : Int)) := by omega
      obtain ⟨xv, hxv⟩ : ∃ v, v = x.val := ⟨_, rfl⟩
      obtain ⟨yv, hyv⟩ : ∃ v, v = y.val := ⟨_, rfl⟩
      rw [← hxv] at hcx HSm
      rw [← hyv] at HSm ⊢
      have hwq : IntKind.i64.wrap ((q : Int) + 1) = (q : Int) + 1 := wr64 (by omega) (by omega)
      have HQd := hid hq
      have HKn : Hid (k < n) := by have := HK.out; show k < n; omega
      clear hnil hcons hI hF p1 p2 p3 p4 hlen hkn hkl c1 cl hm hdr hyz hyi hPm hPP hx hxz hxi hD hlP hbx c6 hcap hq hL hpv hxv hyv hq30
      go_upto_region 4 with fail
      refine wp_region_calmE 30 (fun wx => Below w1.heap.size w1 wx) [(0, true), (1, true), (2, true), (3, false), (4, true), (5, true), (6, true), (7, false), (8, true), (9, true), (10, true), (11, true), (12, true), (13, true), (14, true), (15, false), (16, true), (17, true), (18, true), (19, false), (20, true), (21, false)] (.one 22 false [(23, true), (24, true)] .done) (by kernel_rfl) (by kernel_rfl) (Below.refl _ _).drew ?_
      refine wpPre_e rfl rfl (fun K1 hK1 => ?_)
      apply Exists.intro
      refine And.intro (fun wx hx => ?_) ?_
      · go_simp
        try rfl
      go_simp
      refine hK1 _ ?_
      clear hK1 K1
      refine wpPre_e rfl rfl (fun K1 hK1 => ?_)
      apply Exists.intro
      refine And.intro (fun wx hx => ?_) ?_
      · go_simp
        try rfl
      go_simp
      refine hK1 _ ?_
      clear hK1 K1
      refine wpPre_e rfl rfl (fun K1 hK1 => ?_)
      apply Exists.intro
      refine And.intro (fun wx hx => ?_) ?_
      · go_simp
        try rfl
      go_simp
      refine hK1 _ ?_
      clear hK1 K1
      refine wpPre_e rfl rfl (fun K1 hK1 => ?_)
      apply Exists.intro
      refine And.intro (fun wx hx => ?_) ?_
      · have e0 := below_fact hx rfl hq6
        have e1 := below_fact hx rfl c5
        have e2 := below_fact hx rfl hcx
        go_simp
        try rfl
      go_simp
      refine hK1 _ ?_
      clear hK1 K1
      refine wpPre_e rfl rfl (fun K1 hK1 => ?_)
      apply Exists.intro
      refine And.intro (fun wx hx => ?_) ?_
      · go_simp
        try rfl
      go_simp
      refine hK1 _ ?_
      clear hK1 K1
      refine wpPre_e rfl rfl (fun K1 hK1 => ?_)
      apply Exists.intro
      refine And.intro (fun wx hx => ?_) ?_
      · go_simp
        try rfl
      go_simp
      refine hK1 _ ?_
      clear hK1 K1
      refine wpPre_e rfl rfl (fun K1 hK1 => ?_)
      apply Exists.intro
      refine And.intro (fun wx hx => ?_) ?_
      · go_simp
        try rfl
      go_simp
      refine hK1 _ ?_
      clear hK1 K1
      refine wpPre_e rfl rfl (fun K1 hK1 => ?_)
      apply Exists.intro
      refine And.intro (fun wx hx => ?_) ?_
      · have e0 := below_fact hx rfl hq6
        have e1 := below_fact hx rfl c5
        have e2 := below_fact hx rfl hcx
        go_simp
        try rfl
      go_simp
      refine hK1 _ ?_
      clear hK1 K1
      refine wpPre_e rfl rfl (fun K1 hK1 => ?_)
      apply Exists.intro
      refine And.intro (fun wx hx => ?_) ?_
      · go_simp
        try rfl
      go_simp
      refine hK1 _ ?_
      clear hK1 K1
      refine wpPre_e rfl rfl (fun K1 hK1 => ?_)
      apply Exists.intro
      refine And.intro (fun wx hx => ?_) ?_
      · go_simp
        try rfl
      go_simp
      refine hK1 _ ?_
      clear hK1 K1
      refine wpPre_e rfl rfl (fun K1 hK1 => ?_)
      apply Exists.intro
      refine And.intro (fun wx hx => ?_) ?_
      · go_simp
        try rfl
      go_simp
      refine hK1 _ ?_
      clear hK1 K1
      refine wpPre_i rfl (fun K1 hK1 => ?_)
      rw [if_pos (by go_simp)]
      apply Exists.intro
      refine And.intro (fun wx hx => ?_) ?_
      · go_simp
        try rfl
      go_simp
      refine hK1 _ ?_
      clear hK1 K1
      refine wpPre_i rfl (fun K1 hK1 => ?_)
      rw [if_pos (by go_simp)]
      apply Exists.intro
      refine And.intro (fun wx hx => ?_) ?_
      · go_simp
        try rfl
      go_simp
      refine hK1 _ ?_
      clear hK1 K1
      refine wpPre_i rfl (fun K1 hK1 => ?_)
      rw [if_pos (by go_simp)]
      apply Exists.intro
      refine And.intro (fun wx hx => ?_) ?_
      · go_simp
        try rfl
      go_simp
      refine hK1 _ ?_
      clear hK1 K1
      refine wpPre_i rfl (fun K1 hK1 => ?_)
      rw [if_pos (by go_simp)]
      apply Exists.intro
      refine And.intro (fun wx hx => ?_) ?_
      · go_simp
        try rfl
      go_simp
      refine hK1 _ ?_
      clear hK1 K1
      refine wpPre_i rfl (fun K1 hK1 => ?_)
      rw [if_pos (by go_simp)]
      apply Exists.intro
      refine And.intro (fun wx hx => ?_) ?_
      · have e0 := below_fact hx rfl hq6
        have e1 := below_fact hx rfl c5
        have e2 := below_fact hx rfl hcx
        go_simp
        try rfl
      go_simp
      refine hK1 _ ?_
      clear hK1 K1
      refine wpPre_i rfl (fun K1 hK1 => ?_)
      rw [if_pos (by go_simp)]
      apply Exists.intro
      refine And.intro (fun wx hx => ?_) ?_
      · go_simp
        try rfl
      go_simp
      refine hK1 _ ?_
      clear hK1 K1
      refine wpPre_i rfl (fun K1 hK1 => ?_)
      rw [if_pos (by go_simp)]
      apply Exists.intro
      refine And.intro (fun wx hx => ?_) ?_
      · go_simp
        try rfl
      go_simp
      refine hK1 _ ?_
      clear hK1 K1
      refine wpPre_i rfl (fun K1 hK1 => ?_)
      rw [if_pos (by go_simp)]
      apply Exists.intro
      refine And.intro (fun wx hx => ?_) ?_
      · go_simp
        try rfl
      go_simp
      refine hK1 _ ?_
      clear hK1 K1
      refine wpPre_i rfl (fun K1 hK1 => ?_)
      rw [if_pos (by go_simp)]
      apply Exists.intro
      refine And.intro (fun wx hx => ?_) ?_
      · have e0 := below_fact hx rfl hq6
        have e1 := below_fact hx rfl c5
        have e2 := below_fact hx rfl hcx
        go_simp
        try rfl
      go_simp
      refine hK1 _ ?_
      clear hK1 K1
      refine wpPre_i rfl (fun K1 hK1 => ?_)
      rw [if_pos (by go_simp)]
      apply Exists.intro
      refine And.intro (fun wx hx => ?_) ?_
      · go_simp
        try rfl
      go_simp
      refine hK1 _ ?_
      clear hK1 K1
      refine wpPre_i rfl (fun K1 hK1 => ?_)
      rw [if_pos (by go_simp)]
      apply Exists.intro
      refine And.intro (fun wx hx => ?_) ?_
      · have e0 := below_fact hx rfl hq6
        have e1 := below_fact hx rfl c5
        have e2 := below_fact hx rfl hcx
        go_simp
        try rfl
      go_simp
      refine hK1 _ ?_
      clear hK1 K1
      refine wpPre_nil ?_
      refine wpTr_e rfl (fun K1 hK1 => ?_)
      refine step_callG (by first | rfl | go_simp) 22 #[.tmp 26, .tmp 36] _ rfl Tryd.f22 Tryd.func22 (by kernel_rfl) rfl #[yv, xv] rfl _ (HSm.out) ?_
      rintro e_ w2 ⟨rfl, rfl⟩
      refine ⟨_, rfl, ?_⟩
      go_simp
      refine hK1 _ _ (fun h => by cases h) ?_
      clear hK1 K1
      refine wpPre_i rfl (fun K1 hK1 => ?_)
      rw [if_pos (by go_simp)]
      apply Exists.intro
      refine And.intro (fun wx hx => ?_) ?_
      · go_simp
        try rfl
      go_simp
      refine hK1 _ ?_
      clear hK1 K1
      refine wpPre_e rfl rfl (fun K1 hK1 => ?_)
      apply Exists.intro
      refine And.intro (fun wx hx => ?_) ?_
      · go_simp
        try rfl
      go_simp
      refine hK1 _ ?_
      clear hK1 K1
      refine wpPre_nil ?_
      refine wpTr_done ?_
      clear hqL1 hqL2 c5 hcx hg
      have d6 : w1.drew.cell? ⟨lb, 6, none⟩ = some (.int .i64 (q : Int)) := hq6
      have dl : lb < w1.drew.heap.size := cl1
      have df : w1.drew.frozen? ⟨lb, 6, none⟩ = false := cf1 6
      clear hq6 cl1 cf1 HSm
      obtain ⟨W7, hW7⟩ : ∃ W, W = (w1.setCell ⟨lb, 6, none⟩ (.int .i64 ((q : Int) + 1))).drew := ⟨_, rfl⟩
      have HQ : Hid ((∃ k, k ≤ n ∧ LQ w C c lb (drS S k) W7) ∧ S.gv + n - gvM W7 lb < S.gv + n - gvM wr lb) := by
        obtain ⟨p2, p3, p4⟩ := HP.out
        have hbt : But (fun k => k = lb) w1 W7 := by rw [hW7]; exact ((But.one _ _).setAt _ _).drew
        have hX7 : Box W7 lb #[.pointer (some ⟨sb, 0, none⟩), .pointer (some ⟨rb, 0, none⟩), dv, nv, bv, pv, .int .i64 ((S.gv + (k + 1) : Nat) : Int), .int .i64 S.td, wv, .int .i64 S.wd, .int .i64 S.dn] 34 := by
          rw [hW7, show ((S.gv + (k + 1) : Nat) : Int) = (q : Int) + 1 by have := HQd.out; omega]
          exact (HM1.out.bx.set 6 _).below (Below.refl _ _).drew
        obtain ⟨q1, q2, q3, q4⟩ := HM1.out.box hbt (S.gv + (k + 1)) S.td S.wd S.dn hX7
        refine ⟨⟨k + 1, HKn.out, LQ.step HOld.out HNew.out HBut.out (LQ.step p2 p3 p4 ⟨_, ⟨sb, rb, dv, nv, bv, pv, wv, D, N, P, q1⟩, q2, q3, q4⟩)⟩, ?_⟩
        rw [HGm.out]
        have h1 : gvM W7 lb = S.gv + (k + 1) := by unfold gvM; rw [hX7.cell 6]; rfl
        rw [h1]
        have := HKn.out
        omega
      go_upto_region 6 with fail
      go_wp2
      rw [← hW7]
      exact HQ.out
end Go.Proofs.YtgnamngnmbaeeaaDoor
