import Derived.Test.YtgnamngnmbaeeaaDoorPack30
namespace Go.Proofs.YtgnamngnmbaeeaaDoor
open Go.RowKit
set_option maxRecDepth 8000
set_option maxHeartbeats 4000000 in
theorem lready_any (w : World) (C : Nat → Nat) (c lb : Nat) (S : LS) (h : LI w C c lb S) (hn : ∀ k, w.heap.size ≤ k → In8 C c k) (hr : Rdy S) :
    Calls Tryd.prog 30 #[.pointer (some ⟨lb, 0, none⟩)] w fun e w' => e = .returned (.tuple #[.int .i64 ((S.gv + S.R.rd.length : Nat) : Int), .bool true]) ∧ LQ w C c lb (drS S S.R.rd.length) w' := by
  have HDr := hid (drain_any w C c lb S h hn hr)
  obtain ⟨n, hnn⟩ : ∃ n, n = S.gv + S.R.rd.length := ⟨_, rfl⟩
  have HN := hid hnn
  rw [← hnn]
  clear h hn hr hnn
  go_enter Tryd.func30, Tryd.ntmps30
  go_wp2_with fail
  refine HDr.out.mono ?_
  rintro e w1 ⟨rfl, hq⟩
  have HQ := hid hq
  obtain ⟨C1, ⟨sb, rb, dv, nv, bv, pv, wv, D, N, P, hM⟩, _⟩ := hq
  have c6 : w1.cell? ⟨lb, 6, none⟩ = some (.int .i64 (n : Int)) := by rw [hM.bx.cell, HN.out]; rfl
  have cl := hM.bx.lt
  clear hM HDr
  go_wp2
  exact bodyPost_ret (v := .tuple #[.int .i64 (n : Int), .bool true]) (by simp [results, Tryd.results30, go_sem]) rfl ⟨rfl, HQ.out⟩
/-- what the law's look asks of the line -/
structure Lk (S : LS) : Prop where
  r : Rdy S
  an : S.A.an + S.A.q.length = S.P.length
  le : S.A.an ≤ S.gv + S.R.rd.length
  dn : S.dn ≤ S.A.an
  wd : S.wd ≤ S.A.wd
  ws : (S.A.wd : Int) ∈ S.ws
  wl : S.ws.length ≤ 1073741825
def stLook (S : LS) : LS := { drS S S.R.rd.length with dn := S.A.an, wd := S.A.wd }
set_option maxHeartbeats 8000000 in
theorem looks_any (w : World) (C : Nat → Nat) (c lb : Nat) (S : LS) (h : LI w C c lb S) (hn : ∀ k, w.heap.size ≤ k → In8 C c k) (hk : Lk S) :
    Calls Tryd.prog 12 #[.pointer (some ⟨lb, 0, none⟩)] w fun e w' => e = .returned (.bool true) ∧ LQ w C c lb (stLook S) w' := by
  obtain ⟨sb, rb, dv, nv, bv, pv, wv, D, N, P, hM⟩ := h
  have hX1 := (LX.refl hM hn).below ((Below.refl w.heap.size w).drew)
  obtain ⟨C1, hC1⟩ : ∃ D, D = upC w C (c + 7) := ⟨_, rfl⟩
  rw [← hC1] at hX1
  have HX1 := hid hX1
  have HK := hid hk
  have HOp := hid (open_any w.drew _ sb S.A hX1.m.s)
  have HWo := hid (word_any w.drew _ sb S.A hX1.m.s)
  have HRd := hid (lready_any w.drew C1 c lb S ⟨sb, rb, dv, nv, bv, pv, wv, D, N, P, hX1.m⟩ hX1.newc hk.r)
  have hpl : P.length = S.P.length := by rw [← hM.hp, List.length_map]
  obtain ⟨pp, pc, hpv⟩ := hM.p.slice
  obtain ⟨np, hnp⟩ : ∃ n, n = S.P.length := ⟨_, rfl⟩
  obtain ⟨q, hq⟩ : ∃ q, q = S.A.q.length := ⟨_, rfl⟩
  obtain ⟨an, han⟩ : ∃ q, q = S.A.an := ⟨_, rfl⟩
  obtain ⟨wd, hwd⟩ : ∃ q, q = S.A.wd := ⟨_, rfl⟩
  obtain ⟨gn, hgn⟩ : ∃ n, n = S.gv + S.R.rd.length := ⟨_, rfl⟩
  rw [← hq] at HOp
  rw [← hwd] at HWo
  rw [← hgn] at HRd
  have hp30 : np ≤ 1073741824 := by obtain ⟨_, _, _, h⟩ := hk.r; omega
  have hsub : wrap64 ((np : Int) - (q : Int)) = (an : Int) := by have := hk.an; rw [wq64 (by omega) (by omega)]; omega
  have hsub' : IntKind.i64.wrap ((np : Int) - (q : Int)) = (an : Int) := by have := hk.an; rw [wr64 (by omega) (by omega)]; omega
  have hle : ¬ ((gn : Int) < (an : Int)) := by have := hk.le; omega
  have hdn : ¬ ((an : Int) < S.dn) := by have := hk.dn; omega
  have hwl : ¬ ((wd : Int) < S.wd) := by have := hk.wd; omega
  have c5 := hM.bx.cell 5
  have c0 := hM.bx.cell 0
  have cl := hM.bx.lt
  simp at c0 c5
  rw [hpv, hpl, ← hnp] at c5
  have HAn := hid han
  have HWd := hid hwd
  clear hM hn hk hX1 hC1 hpl hpv hnp hq han hwd hgn hp30
  go_enter Tryd.func12, Tryd.ntmps12
  go_upto_region 1 with fail
  refine wp_region_calmE 30 (fun wx => Below w.heap.size w wx) [(0, true), (1, true), (2, true), (3, false), (4, true), (5, true), (6, true), (7, true), (8, false)] (.one 9 true [(10, true), (11, true)] .done) (by kernel_rfl) (by kernel_rfl) (Below.refl _ _).drew ?_
  refine wpPre_e rfl rfl (fun K1 hK1 => ?_)
  apply Exists.intro
  refine And.intro (fun wx hx => ?_) ?_
  · go_simp
    try rfl
  go_simp
  refine hK1 _ ?_
  clear hK1 K1
  refine wpPre_e rfl rfl (fun K1 hK1 => ?_)
  apply Exists.intro
  refine And.intro (fun wx hx => ?_) ?_
  · go_simp
    try rfl
  go_simp
  refine hK1 _ ?_
  clear hK1 K1
  refine wpPre_e rfl rfl (fun K1 hK1 => ?_)
  apply Exists.intro
  refine And.intro (fun wx hx => ?_) ?_
  · go_simp
    try rfl
  go_simp
  refine hK1 _ ?_
  clear hK1 K1
  refine wpPre_e rfl rfl (fun K1 hK1 => ?_)
  apply Exists.intro
  refine And.intro (fun wx hx => ?_) ?_
  · have e0 := below_fact hx rfl c5
    have e1 := below_fact hx rfl c0
    go_simp
    try rfl
  go_simp
  refine hK1 _ ?_
  clear hK1 K1
  refine wpPre_e rfl rfl (fun K1 hK1 => ?_)
  apply Exists.intro
  refine And.intro (fun wx hx => ?_) ?_
  · go_simp
    try rfl
  go_simp
  refine hK1 _ ?_
  clear hK1 K1
  refine wpPre_e rfl rfl (fun K1 hK1 => ?_)
  apply Exists.intro
  refine And.intro (fun wx hx => ?_) ?_
  · go_simp
    try rfl
  go_simp
  refine hK1 _ ?_
  clear hK1 K1
  refine wpPre_e rfl rfl (fun K1 hK1 => ?_)
  apply Exists.intro
  refine And.intro (fun wx hx => ?_) ?_
  · go_simp
    try rfl
  go_simp
  refine hK1 _ ?_
  clear hK1 K1
  refine wpPre_e rfl rfl (fun K1 hK1 => ?_)
  apply Exists.intro
  refine And.intro (fun wx hx => ?_) ?_
  · go_simp
    try rfl
  go_simp
  refine hK1 _ ?_
  clear hK1 K1
  refine wpPre_e rfl rfl (fun K1 hK1 => ?_)
  apply Exists.intro
  refine And.intro (fun wx hx => ?_) ?_
  · have e0 := below_fact hx rfl c5
    have e1 := below_fact hx rfl c0
    go_simp
    try rfl
  go_simp
  refine hK1 _ ?_
  clear hK1 K1
  refine wpPre_nil ?_
  refine wpTr_e rfl (fun K1 hK1 => ?_)
  refine step_callG (by first | rfl | go_simp) 10 #[.tmp 15] _ rfl Tryd.f10 Tryd.func10 (by kernel_rfl) rfl #[.pointer (some ⟨sb, 0, none⟩)] rfl _ (HOp.out) ?_
  rintro e_ w2 ⟨rfl, rfl⟩
  refine ⟨_, rfl, ?_⟩
  go_simp
  refine hK1 _ _ (fun _ => (Below.refl _ _).drew) ?_
  clear hK1 K1
  refine wpPre_e rfl rfl (fun K1 hK1 => ?_)
  apply Exists.intro
  refine And.intro (fun wx hx => ?_) ?_
  · go_simp
    try rfl
  go_simp
  refine hK1 _ ?_
  clear hK1 K1
  refine wpPre_e rfl rfl (fun K1 hK1 => ?_)
  apply Exists.intro
  refine And.intro (fun wx hx => ?_) ?_
  · go_simp
    try rfl
  go_simp
  refine hK1 _ ?_
  clear hK1 K1
  refine wpPre_nil ?_
  refine wpTr_done ?_
  clear c5 hsub hsub'
  have c0' : w.drew.cell? ⟨lb, 0, none⟩ = some (.pointer (some ⟨sb, 0, none⟩)) := c0
  have cl' : lb < w.drew.heap.size := cl
  clear c0 cl
  go_wp2_with fail
  refine HWo.out.mono ?_
  rintro e w3 ⟨rfl, rfl⟩
  go_wp2_with fail
  refine HRd.out.mono ?_
  rintro e w4 ⟨rfl, C4, ⟨sb4, rb4, dv4, nv4, bv4, pv4, wv4, D4, N4, P4, hm4⟩, ho4, hn4, hb4⟩
  have hX4 := HX1.out.on hm4 ho4 hn4 hb4
  have HHd := hid (had_any w4 C4 c lb _ ⟨sb4, rb4, dv4, nv4, bv4, pv4, wv4, D4, N4, P4, hX4.m⟩ (wd : Int) (by show (wd : Int) ∈ S.ws; rw [HWd.out]; exact HK.out.ws) HK.out.wl)
  have HX4 := hid hX4
  have d9 := hX4.m.bx.cell 9
  have d10 := hX4.m.bx.cell 10
  have dl := hX4.m.bx.lt
  have df := hX4.m.bx.frozen
  simp at d9 d10
  have e9 : (drS S S.R.rd.length).wd = S.wd := rfl
  have e10 : (drS S S.R.rd.length).dn = S.dn := rfl
  rw [e9] at d9
  rw [e10] at d10
  clear hX4 hm4 ho4 hn4 hb4 c0' cl' e9 e10
  go_wp2_with fail
  refine HHd.out.mono ?_
  rintro e w5 ⟨rfl, h5⟩
  rw [h5]
  clear h5 HHd
  obtain ⟨W7, hW7⟩ : ∃ W, W = (w4.setCell ⟨lb, 10, none⟩ (.int .i64 (an : Int))).setCell ⟨lb, 9, none⟩ (.int .i64 (wd : Int)) := ⟨_, rfl⟩
  have HW7 := hid hW7
  have HQ : Hid (LQ w C c lb (stLook S) W7) := by
    have hbt : But (fun k => k = lb) w4 W7 := by rw [hW7]; exact ((But.one _ _).setAt _ _).setAt _ _
    have hX7 := (HX4.out.m.bx.set 10 (.int .i64 (an : Int))).set 9 (.int .i64 (wd : Int))
    rw [← hW7] at hX7
    obtain ⟨p1, p2, p3, p4⟩ := HX4.out.m.box hbt (S.gv + S.R.rd.length) S.td (wd : Int) (an : Int) hX7
    have e : stLook S = { drS S S.R.rd.length with gv := S.gv + S.R.rd.length, td := S.td, wd := (wd : Int), dn := (an : Int) } := by rw [HAn.out, HWd.out]; rfl
    rw [e]
    exact (HX4.out.on p1 p2 p3 p4).lq
  clear hW7
  go_wp2
  rw [← HW7.out]
  exact bodyPost_ret (v := .bool true) (by simp [results, Tryd.results12, go_sem]) rfl ⟨rfl, HQ.out⟩
end Go.Proofs.YtgnamngnmbaeeaaDoor

namespace Go.Proofs.YtgnamngnmbaeeaaDoor
open Go.RowKit
set_option maxRecDepth 8000
theorem lkp_mem {E : List (Int × List Int)} {k : Int} {m : List Int} (h : lkp E k = some m) : (k, m) ∈ E := by
  unfold lkp at h
  obtain ⟨p, hp, rfl⟩ := Option.map_eq_some_iff.1 h
  have h1 := List.find?_some hp
  have h2 := List.mem_of_find?_eq_some hp
  obtain ⟨a, b⟩ := p
  have h3 : a = k := by simpa using h1
  subst h3
  exact h2
theorem lkp_cons (p : Int × List Int) (E : List (Int × List Int)) (k : Int) : lkp (p :: E) k = if p.1 = k then some p.2 else lkp E k := by
  unfold lkp
  by_cases h : p.1 = k
  · rw [List.find?_cons_of_pos (by simpa using h), if_pos h]; rfl
  · rw [List.find?_cons_of_neg (by simpa using h), if_neg h]
theorem lkp_filter {a k : Int} (h : k ≠ a) : ∀ E : List (Int × List Int), lkp (E.filter fun p => !decide (p.1 = a)) k = lkp E k
  | [] => rfl
  | p :: E => by
    by_cases hp : p.1 = a
    · rw [List.filter_cons_of_neg (by simpa using hp), lkp_filter h E, lkp_cons, if_neg (by omega)]
    · rw [List.filter_cons_of_pos (by simpa using hp), lkp_cons, lkp_cons, lkp_filter h E]
theorem lkp_app (a : Int) (m : List Int) (k : Int) : ∀ E : List (Int × List Int), lkp (E ++ [(a, m)]) k = if (lkp E k).isSome then lkp E k else if a = k then some m else none
  | [] => by rw [List.nil_append, lkp_cons]; rfl
  | p :: E => by
    rw [List.cons_append, lkp_cons, lkp_cons, lkp_app a m k E]
    by_cases h : p.1 = k
    · rw [if_pos h, if_pos h]; rfl
    · rw [if_neg h, if_neg h]
/-- what making ready does -/
structure RdF (R R' : RA) : Prop where
  ln : R'.ln = R.ln
  wi : R'.wi = R.wi
  wd : R'.wd = R.wd
  wt : R.wt ≤ R'.wt
  rd : ∃ ms, R'.rd = R.rd ++ ms ∧ R.wt + ms.length = R'.wt ∧ ∀ (i : Nat) m, ms[i]? = some m → (((R.wt + i : Nat) : Int), m) ∈ R.kp
  kp : ∀ p ∈ R'.kp, p ∈ R.kp
  lk : ∀ j : Int, (R'.wt : Int) ≤ j → lkp R'.kp j = lkp R.kp j
theorem RdF.refl (R : RA) : RdF R R := ⟨rfl, rfl, rfl, Nat.le_refl _, ⟨[], by simp, by simp, fun i m h => by simp at h⟩, fun _ h => h, fun _ _ => rfl⟩
theorem readyF_F : ∀ (f : Nat) (R : RA), RdF R (readyF f R)
  | 0, R => RdF.refl R
  | f + 1, R => by
    unfold readyF
    cases h : lkp R.kp R.wt with
    | none => exact RdF.refl R
    | some m =>
      show RdF R (readyF f (stepR R m))
      have ih := readyF_F f (stepR R m)
      obtain ⟨ms, e1, e2, e3⟩ := ih.rd
      have hw := ih.wt
      have hsub : ∀ p ∈ (stepR R m).kp, p ∈ R.kp := fun p hp => (List.mem_filter.1 hp).1
      have hwt : (stepR R m).wt = R.wt + 1 := rfl
      rw [hwt] at e2 hw e3
      refine ⟨ih.ln, ih.wi, ih.wd, by omega, ⟨m :: ms, ?_, by rw [List.length_cons]; omega, fun i x hx => ?_⟩, fun p hp => hsub p (ih.kp p hp), fun j hj => ?_⟩
      · rw [e1]; show R.rd ++ [m] ++ ms = _; rw [List.append_assoc]; rfl
      · cases i with
        | zero => simp only [List.getElem?_cons_zero, Option.some.injEq] at hx; subst hx; exact lkp_mem h
        | succ i =>
          simp only [List.getElem?_cons_succ] at hx
          have := hsub _ (e3 i x hx)
          rw [show R.wt + 1 + i = R.wt + (i + 1) by omega] at this
          exact this
      · rw [ih.lk j hj]
        exact lkp_filter (by omega) R.kp
theorem lkp_flt {E : List (Int × List Int)} {k : Int} {m : List Int} (h : lkp E k = some m) : (E.filter fun p => !decide (p.1 = k)).length < E.length := by
  refine List.length_filter_lt_length_iff_exists.2 ⟨(k, m), lkp_mem h, ?_⟩
  simp
theorem readyF_set : ∀ (f : Nat) (R : RA), R.kp.length ≤ f → lkp (readyF f R).kp (readyF f R).wt = none
  | 0, R, h => by
    have : R.kp = [] := List.eq_nil_of_length_eq_zero (by omega)
    unfold readyF
    rw [this]
    rfl
  | f + 1, R, h => by
    unfold readyF
    cases hk : lkp R.kp R.wt with
    | none => exact hk
    | some m =>
      refine readyF_set f (stepR R m) ?_
      have := lkp_flt hk
      show (R.kp.filter fun p => !decide (p.1 = (R.wt : Int))).length ≤ f
      omega
/-- no message that is wanted is kept -/
def Sett (R : RA) : Prop := lkp R.kp R.wt = none
theorem readyR_same {R : RA} (h : Sett R) : readyR R = R := by
  unfold readyR
  cases R.kp.length with
  | zero => rfl
  | succ n =>
    unfold readyF
    rw [show lkp R.kp R.wt = none from h]
/-- is that number's message there? -/
def Got (R : RA) (j : Nat) : Prop := j < R.wt ∨ (lkp R.kp j).isSome
/-- what taking does -/
structure TkF (R : RA) (n : Nat) (m : List Int) (R' : RA) : Prop where
  ln : R'.ln = R.ln
  wi : R'.wi = R.wi
  wd : R'.wd = R.wd
  wt : R.wt ≤ R'.wt
  rd : ∃ ms, R'.rd = R.rd ++ ms ∧ R.wt + ms.length = R'.wt ∧ ∀ (i : Nat) x, ms[i]? = some x → (((R.wt + i : Nat) : Int), x) ∈ R.kp ∨ (((R.wt + i : Nat) : Int), x) = ((n : Int), m)
  kp : ∀ p ∈ R'.kp, p ∈ R.kp ∨ p = ((n : Int), m)
  se : Sett R'
  got : n < R.wt + R.wi → Got R' n
  mono : ∀ j, Got R j → Got R' j
theorem keepR_kp (R : RA) (n : Nat) (m : List Int) : ∃ E, keepR R n m = { R with kp := E } ∧ (∀ p ∈ E, p ∈ R.kp ∨ p = ((n : Int), m)) ∧ (n < R.wt + R.wi → Got { R with kp := E } n) ∧ ∀ j, Got R j → Got { R with kp := E } j := by
  unfold keepR
  split
  · rename_i h
    exact ⟨R.kp, rfl, fun p hp => .inl hp, fun hn => .inl (by show n < R.wt; omega), fun j hj => hj⟩
  · split
    · rename_i h1 h2
      exact ⟨R.kp, rfl, fun p hp => .inl hp, fun hn => .inr h2, fun j hj => hj⟩
    · rename_i h1 h2
      refine ⟨R.kp ++ [((n : Int), m)], rfl, fun p hp => ?_, fun _ => .inr ?_, fun j hj => hj.imp id fun h => ?_⟩
      · simpa using hp
      · show (lkp (R.kp ++ [((n : Int), m)]) n).isSome
        rw [lkp_app, if_neg h2, if_pos rfl]; rfl
      · show (lkp (R.kp ++ [((n : Int), m)]) j).isSome
        rw [lkp_app, if_pos h]; exact h
theorem got_ready {R R' : RA} (h : RdF R R') {j : Nat} (hg : Got R j) : Got R' j := by
  unfold Got at *
  have := h.wt
  rcases Nat.lt_or_ge j R'.wt with h1 | h1
  · exact .inl h1
  · right
    rw [h.lk j (by omega)]
    rcases hg with h2 | h2
    · omega
    · exact h2
theorem take_f (R : RA) (n : Nat) (m : List Int) : TkF R n m (readyR (keepR R n m)) := by
  obtain ⟨E, hE, h1, h2, h3⟩ := keepR_kp R n m
  rw [hE]
  have hF := readyF_F E.length { R with kp := E }
  have hS := readyF_set E.length { R with kp := E } (Nat.le_refl _)
  obtain ⟨ms, e1, e2, e3⟩ := hF.rd
  exact ⟨hF.ln, hF.wi, hF.wd, hF.wt, ⟨ms, e1, e2, fun i x hx => h1 _ (e3 i x hx)⟩, fun p hp => h1 _ (hF.kp p hp), hS, fun hn => got_ready hF (h2 hn), fun j hj => got_ready hF (h3 j hj)⟩
/-- a packet that is taken again changes nothing -/
theorem take_again {R : RA} (hs : Sett R) (n : Nat) (m : List Int) : readyR (keepR (readyR (keepR R n m)) n m) = readyR (keepR R n m) := by
  have hT := take_f R n m
  obtain ⟨R', hR⟩ : ∃ R', R' = readyR (keepR R n m) := ⟨_, rfl⟩
  rw [← hR] at hT ⊢
  have hk : keepR R' n m = R' := by
    by_cases h : n < R'.wt ∨ R'.wt + R'.wi ≤ n
    · unfold keepR; rw [if_pos h]
    · have h1 : n < R.wt + R.wi := by
        refine Classical.byContradiction fun hc => ?_
        have h2 : keepR R n m = R := by unfold keepR; rw [if_pos (by omega)]
        rw [h2, readyR_same hs] at hR
        rw [hR] at h
        omega
      have h2 := hT.got h1
      unfold keepR
      rw [if_neg h]
      rcases h2 with h2 | h2
      · omega
      · rw [if_pos h2]
  rw [hk, readyR_same hT.se]
/-- an answer of this line -/
def IsAns (S : LS) (z : List Int) : Prop := ∃ nx wd : Nat, 1 ≤ nx ∧ nx ≤ S.R.wt ∧ (wd : Int) ∈ S.ws ∧ wd ≤ 1073741824 ∧ z = frameOf (bodyB 65 [S.R.ln, nx, wd] [])
/-- a data packet of this line -/
def IsDat (S : LS) (z : List Int) : Prop := ∃ (k : Nat) (m : List Int), S.P[k]? = some m ∧ z = frameOf (bodyB 68 [S.R.ln, k + 1] m)
/-- what holds of a line behind any steps -/
structure Inv (S : LS) : Prop where
  ln : S.A.ln = S.R.ln ∧ S.R.ln ≤ 23
  wi : (1 ≤ S.A.wi ∧ S.A.wi ≤ 16) ∧ 1 ≤ S.R.wi ∧ S.R.wi ≤ 16
  pm : ∀ m ∈ S.P, m.length ≤ 4096
  pb : ∀ m ∈ S.P, ∀ z ∈ m, 0 ≤ z ∧ z < 256
  an : S.A.an + S.A.q.length = S.P.length
  q : S.A.q = S.P.drop S.A.an
  gv : S.gv + S.R.rd.length + 1 = S.R.wt
  rd : S.P.take (S.R.wt - 1) = S.P.take S.gv ++ S.R.rd
  wt : S.R.wt ≤ S.P.length + 1
  le : S.A.an + 1 ≤ S.R.wt
  kp : ∀ p ∈ S.R.kp, 1 ≤ p.1 ∧ S.P[p.1.toNat - 1]? = some p.2
  se : Sett S.R
  d : ∀ z ∈ S.D, IsDat S z
  n : ∀ z ∈ S.N, IsAns S z
  td : S.td = (S.R.wd : Int)
  wdm : (S.R.wd : Int) ∈ S.ws
  wdl : S.R.wd ≤ 1073741824
  aw : (S.A.wd : Int) ∈ S.ws
  wsl : ∀ u ∈ S.ws, u ≤ S.td
  dn : S.dn ≤ S.A.an
  wd : S.wd ≤ S.A.wd
/-- how much there is at most -/
def Sz (n : Nat) (S : LS) : Prop := S.P.length ≤ n ∧ S.ws.length ≤ n + 1
theorem IsDat.mono {S S' : LS} {z : List Int} (h : IsDat S z) (hl : S'.R.ln = S.R.ln) (hp : ∀ (k : Nat) m, S.P[k]? = some m → S'.P[k]? = some m) : IsDat S' z := by
  obtain ⟨k, m, h1, h2⟩ := h
  exact ⟨k, m, hp k m h1, by rw [hl]; exact h2⟩
theorem IsAns.mono {S S' : LS} {z : List Int} (h : IsAns S z) (hl : S'.R.ln = S.R.ln) (hw : S.R.wt ≤ S'.R.wt) (hs : ∀ u ∈ S.ws, u ∈ S'.ws) : IsAns S' z := by
  obtain ⟨nx, wd, h1, h2, h3, h4, h5⟩ := h
  exact ⟨nx, wd, h1, by omega, hs _ h3, h4, by rw [hl]; exact h5⟩
theorem IsDat.read {S : LS} (h : Inv S) (hz : S.P.length ≤ 1073741824) {z : List Int} (hd : IsDat S z) : ∃ (k : Nat) (m : List Int), S.P[k]? = some m ∧ readP z = some ⟨68, S.R.ln, k + 1, 0, m⟩ := by
  obtain ⟨k, m, h1, h2⟩ := hd
  have hk := (List.getElem?_eq_some_iff.1 h1).1
  exact ⟨k, m, h1, by rw [h2]; exact read_data h.ln.2 ⟨by omega, by omega⟩ (h.pm m (List.mem_of_getElem? h1))⟩
theorem IsAns.read {S : LS} (h : Inv S) (hz : S.P.length ≤ 1073741824) {z : List Int} (hd : IsAns S z) : ∃ nx wd : Nat, 1 ≤ nx ∧ nx ≤ S.R.wt ∧ (wd : Int) ∈ S.ws ∧ wd ≤ 1073741824 ∧ readP z = some ⟨65, S.R.ln, nx, wd, []⟩ := by
  obtain ⟨nx, wd, h1, h2, h3, h4, h5⟩ := hd
  have := h.wt
  exact ⟨nx, wd, h1, h2, h3, h4, by rw [h5]; exact read_ans h.ln.2 (by omega) h4⟩
/-- the pools' adding -/
theorem addP_mem {l : List (List Int)} {x z : List Int} (h : z ∈ addP l x) : z ∈ l ∨ z = x := by
  unfold addP at h
  split at h
  · simpa using h
  · exact .inl h
theorem adds_mem {z : List Int} : ∀ (xs l : List (List Int)), z ∈ xs.foldl addP l → z ∈ l ∨ z ∈ xs
  | [], l, h => .inl h
  | x :: xs, l, h => by
    rcases adds_mem xs _ h with h | h
    · rcases addP_mem h with h | h
      · exact .inl h
      · right; rw [h]; exact List.mem_cons_self
    · exact .inr (List.mem_cons_of_mem _ h)
end Go.Proofs.YtgnamngnmbaeeaaDoor

namespace Go.Proofs.YtgnamngnmbaeeaaDoor
open Go.RowKit
set_option maxRecDepth 8000
theorem body_byt {kd : Int} {nums : List Nat} {ms : List Int} (hk : 0 ≤ kd ∧ kd < 256) (hm : ∀ z ∈ ms, 0 ≤ z ∧ z < 256) : ∀ z ∈ bodyB kd nums ms, 0 ≤ z ∧ z < 256 := by
  intro z hz
  unfold bodyB numsB at hz
  simp only [List.mem_cons, List.mem_append, List.mem_flatMap] at hz
  rcases hz with rfl | ⟨u, _, h⟩ | h
  · exact hk
  · exact grp_byt u z h
  · exact hm z h
theorem IsDat.frm {S : LS} (h : Inv S) (hz : S.P.length ≤ 1073741824) {z : List Int} (hd : IsDat S z) : Frm z := by
  obtain ⟨k, m, h1, h2⟩ := hd
  have hk := (List.getElem?_eq_some_iff.1 h1).1
  have hm := List.mem_of_getElem? h1
  have hl := h.ln.2
  exact ⟨_, h2, bodyB_len (by intro u hu; simp at hu; omega) (by simp) (h.pm m hm), body_byt (by decide) (h.pb m hm)⟩
theorem IsAns.frm {S : LS} (h : Inv S) (hz : S.P.length ≤ 1073741824) {z : List Int} (hd : IsAns S z) : Frm z := by
  obtain ⟨nx, wd, h1, h2, h3, h4, h5⟩ := hd
  have := h.wt
  have hl := h.ln.2
  exact ⟨_, h5, bodyB_len (by intro u hu; simp at hu; omega) (by simp) (by simp), body_byt (by decide) (by simp)⟩
theorem Inv.put {S : LS} (h : Inv S) {z : List Int} (hz : z.length ≤ 4096) (hb : ∀ u ∈ z, 0 ≤ u ∧ u < 256) : Inv { S with A := { S.A with q := S.A.q ++ [z] }, P := S.P ++ [z] } := by
  have hw := h.wt
  have hle := h.le
  have hgv := h.gv
  have han := h.an
  have hp : ∀ (k : Nat) m, S.P[k]? = some m → (S.P ++ [z])[k]? = some m := fun k m hk => by
    rw [List.getElem?_append_left (List.getElem?_eq_some_iff.1 hk).1]; exact hk
  refine ⟨h.ln, h.wi, ?_, ?_, ?_, ?_, h.gv, ?_, ?_, h.le, ?_, h.se, ?_, h.n, h.td, h.wdm, h.wdl, h.aw, h.wsl, h.dn, h.wd⟩
  · intro m hm
    simp only [List.mem_append, List.mem_singleton] at hm
    rcases hm with hm | rfl
    · exact h.pm m hm
    · exact hz
  · intro m hm
    simp only [List.mem_append, List.mem_singleton] at hm
    rcases hm with hm | rfl
    · exact h.pb m hm
    · exact hb
  · show S.A.an + (S.A.q ++ [z]).length = (S.P ++ [z]).length
    rw [List.length_append, List.length_append]; omega
  · show S.A.q ++ [z] = (S.P ++ [z]).drop S.A.an
    rw [List.drop_append_of_le_length (by omega), h.q]
  · show (S.P ++ [z]).take (S.R.wt - 1) = (S.P ++ [z]).take S.gv ++ S.R.rd
    rw [List.take_append_of_le_length (by omega), List.take_append_of_le_length (by omega)]
    exact h.rd
  · show S.R.wt ≤ (S.P ++ [z]).length + 1
    rw [List.length_append]; omega
  · exact fun p hp' => ⟨(h.kp p hp').1, hp _ _ (h.kp p hp').2⟩
  · exact fun x hx => (h.d x hx).mono rfl hp
theorem tick_dat {S : LS} (h : Inv S) {z : List Int} (hz : z ∈ tickL S.A) : IsDat S z := by
  unfold tickL at hz
  obtain ⟨k, hk, rfl⟩ := List.mem_map.1 hz
  have hk' := List.mem_range.1 hk
  have hkq : k < S.A.q.length := by omega
  have han := h.an
  refine ⟨S.A.an + k, S.A.q.getD k [], ?_, ?_⟩
  · rw [List.getD_eq_getElem?_getD, List.getElem?_eq_getElem hkq, Option.getD_some, ← List.getElem?_eq_getElem hkq, h.q, List.getElem?_drop]
  · unfold pktD
    rw [h.ln.1, show S.A.an + k + 1 = S.A.an + 1 + k by omega]
theorem Inv.dat {S : LS} (h : Inv S) (D : List (List Int)) (hd : ∀ z ∈ D, IsDat S z) : Inv { S with D := D } :=
  ⟨h.ln, h.wi, h.pm, h.pb, h.an, h.q, h.gv, h.rd, h.wt, h.le, h.kp, h.se, fun z hz => hd z hz, h.n, h.td, h.wdm, h.wdl, h.aw, h.wsl, h.dn, h.wd⟩
theorem Inv.ans {S : LS} (h : Inv S) (N : List (List Int)) (hd : ∀ z ∈ N, IsAns S z) : Inv { S with N := N } :=
  ⟨h.ln, h.wi, h.pm, h.pb, h.an, h.q, h.gv, h.rd, h.wt, h.le, h.kp, h.se, h.d, fun z hz => hd z hz, h.td, h.wdm, h.wdl, h.aw, h.wsl, h.dn, h.wd⟩
theorem Inv.tick {S : LS} (h : Inv S) : Inv (stTick S) :=
  h.dat _ fun z hz => by
    rcases adds_mem _ _ hz with hz | hz
    · exact h.d z hz
    · exact tick_dat h hz
theorem ans_now {S : LS} (h : Inv S) : IsAns S (pktA S.R) := ⟨S.R.wt, S.R.wd, by have := h.le; omega, Nat.le_refl _, h.wdm, h.wdl, rfl⟩
theorem Inv.answer {S : LS} (h : Inv S) : Inv (stAns S) :=
  h.ans _ fun z hz => by
    rcases addP_mem hz with hz | rfl
    · exact h.n z hz
    · exact ans_now h
/-- what taking a message of the line does -/
theorem TkF.inv {S : LS} (h : Inv S) {k : Nat} {m : List Int} (hk : S.P[k]? = some m) {R' : RA} (hT : TkF S.R (k + 1) m R') : Inv { S with R := R' } := by
  obtain ⟨ms, e1, e2, e3⟩ := hT.rd
  have hkl := (List.getElem?_eq_some_iff.1 hk).1
  have hwt := h.wt
  have hle := h.le
  have hgv := h.gv
  have ent : ∀ (i : Nat) x, ms[i]? = some x → S.P[S.R.wt - 1 + i]? = some x := fun i x hx => by
    rcases e3 i x hx with hp | hp
    · have h1 := (h.kp _ hp).2
      rw [show (((S.R.wt + i : Nat) : Int)).toNat - 1 = S.R.wt - 1 + i by omega] at h1
      exact h1
    · have h1 := congrArg Prod.fst hp
      have h2 := congrArg Prod.snd hp
      simp only at h1 h2
      rw [h2, ← hk]
      congr 1
      omega
  have hlen : S.R.wt - 1 + ms.length ≤ S.P.length := by
    cases hm : ms.length with
    | zero => omega
    | succ n =>
      have hn : n < ms.length := by omega
      have h1 := ent n _ (List.getElem?_eq_getElem hn)
      have := (List.getElem?_eq_some_iff.1 h1).1
      omega
  have htk : S.P.take (R'.wt - 1) = S.P.take (S.R.wt - 1) ++ ms := by
    apply List.ext_getElem?
    intro i
    rcases Nat.lt_or_ge i (S.R.wt - 1) with hi | hi
    · rw [List.getElem?_append_left (by rw [List.length_take]; omega), List.getElem?_take, List.getElem?_take, if_pos hi, if_pos (by omega)]
    · rw [List.getElem?_append_right (by rw [List.length_take]; omega), List.length_take, show min (S.R.wt - 1) S.P.length = S.R.wt - 1 by omega, List.getElem?_take]
      by_cases hi2 : i - (S.R.wt - 1) < ms.length
      · rw [if_pos (by omega)]
        have h1 := ent _ _ (List.getElem?_eq_getElem hi2)
        rw [show S.R.wt - 1 + (i - (S.R.wt - 1)) = i by omega] at h1
        rw [h1, List.getElem?_eq_getElem hi2]
      · rw [if_neg (by omega), List.getElem?_eq_none (by omega)]
  refine ⟨⟨by rw [hT.ln]; exact h.ln.1, by rw [hT.ln]; exact h.ln.2⟩, ⟨h.wi.1, by rw [hT.wi]; exact h.wi.2⟩, h.pm, h.pb, h.an, h.q, ?_, ?_, ?_, ?_, fun p hp => ?_, hT.se, fun z hz => (h.d z hz).mono hT.ln fun _ _ h => h, fun z hz => (h.n z hz).mono hT.ln hT.wt fun _ h => h, by rw [hT.wd]; exact h.td, by rw [hT.wd]; exact h.wdm, by rw [hT.wd]; exact h.wdl, h.aw, h.wsl, h.dn, h.wd⟩
  · show S.gv + R'.rd.length + 1 = R'.wt
    rw [e1, List.length_append]; omega
  · show S.P.take (R'.wt - 1) = S.P.take S.gv ++ R'.rd
    rw [htk, h.rd, e1, List.append_assoc]
  · show R'.wt ≤ S.P.length + 1
    omega
  · show S.A.an + 1 ≤ R'.wt
    omega
  · rcases hT.kp p hp with hp | rfl
    · exact h.kp p hp
    · refine ⟨by show (1 : Int) ≤ ((k + 1 : Nat) : Int); omega, ?_⟩
      show S.P[(((k + 1 : Nat) : Int)).toNat - 1]? = some m
      rw [show (((k + 1 : Nat) : Int)).toNat - 1 = k by omega]
      exact hk
theorem unpE_read {ln : Nat} {kd : Int} {zs : List Int} {l : Let} (h : readP zs = some l) (hk : l.kd = kd) (hl : l.ln = ln) : unpE ln kd zs = 0 := by
  unfold unpE
  rw [h]
  simp only
  rw [if_neg (fun e => e hk), if_neg (fun e => e hl)]
theorem take_dat {S : LS} (h : Inv S) (hz : S.P.length ≤ 1073741824) {z : List Int} (hd : IsDat S z) : unpE S.R.ln 68 z = 0 ∧ ∃ (k : Nat) (m : List Int), S.P[k]? = some m ∧ takeN S.R z = readyR (keepR S.R (k + 1) m) := by
  obtain ⟨k, m, h1, h2⟩ := hd.read h hz
  have h3 : unpE S.R.ln 68 z = 0 := unpE_read h2 rfl rfl
  refine ⟨h3, k, m, h1, ?_⟩
  unfold takeN
  rw [h2]
  simp only
  rw [if_pos h3]
theorem Inv.take1 {S : LS} (h : Inv S) (hz : S.P.length ≤ 1073741824) {z : List Int} (hd : IsDat S z) : Inv { S with R := takeN S.R z } := by
  obtain ⟨_, k, m, h1, h2⟩ := take_dat h hz hd
  rw [h2]
  exact TkF.inv h h1 (take_f _ _ _)
theorem atZ_mem {l : List (List Int)} (h : l ≠ []) (i : Int) : atZ l i ∈ l := by
  have hl : idxP i l.length < l.length := Nat.mod_lt _ (List.length_pos_iff.2 h)
  unfold atZ
  rw [List.getD_eq_getElem?_getD, List.getElem?_eq_getElem hl, Option.getD_some]
  exact List.getElem_mem hl
theorem Inv.take {S : LS} (h : Inv S) (hz : S.P.length ≤ 1073741824) (i : Int) : Inv (stTake S i) := by
  unfold stTake
  by_cases h0 : S.D = []
  · rw [if_pos h0]; exact h
  · rw [if_neg h0]
    have h1 := h.take1 hz (h.d _ (atZ_mem h0 i))
    exact h1.answer
theorem Inv.take_ok {S : LS} (h : Inv S) (hz : S.P.length ≤ 1073741824) (i : Int) : S.D ≠ [] → unpE S.R.ln 68 (atZ S.D i) = 0 := fun h0 => (take_dat h hz (h.d _ (atZ_mem h0 i))).1
/-- an answer that comes -/
theorem ack_ans {S : LS} (h : Inv S) (hz : S.P.length ≤ 1073741824) {z : List Int} (hd : IsAns S z) : ackE S.A z = 0 ∧ ∃ nx wd : Nat, 1 ≤ nx ∧ nx ≤ S.R.wt ∧ (wd : Int) ∈ S.ws ∧ wd ≤ 1073741824 ∧ readP z = some ⟨65, S.R.ln, nx, wd, []⟩ ∧
    ackN S.A z = { S.A with q := S.A.q.drop (max S.A.an (nx - 1) - S.A.an), an := max S.A.an (nx - 1), wd := max S.A.wd wd } := by
  obtain ⟨nx, wd, h1, h2, h3, h4, h5⟩ := hd.read h hz
  have hu : unpE S.A.ln 65 z = 0 := unpE_read h5 rfl h.ln.1.symm
  refine ⟨?_, nx, wd, h1, h2, h3, h4, h5, ?_⟩
  · unfold ackE
    rw [hu, h5]
    simp only
    have := h.an
    have := h.wt
    rw [if_neg (by decide), if_neg (by omega)]
  · unfold ackN
    rw [h5]
theorem Inv.ack1 {S : LS} (h : Inv S) (hz : S.P.length ≤ 1073741824) {z : List Int} (hd : IsAns S z) : Inv { S with A := ackN S.A z } := by
  obtain ⟨_, nx, wd, h1, h2, h3, h4, _, h5⟩ := ack_ans h hz hd
  rw [h5]
  have han := h.an
  have hwt := h.wt
  have hle := h.le
  refine ⟨h.ln, h.wi, h.pm, h.pb, ?_, ?_, h.gv, h.rd, h.wt, ?_, h.kp, h.se, h.d, h.n, h.td, h.wdm, h.wdl, ?_, h.wsl, ?_, ?_⟩
  · show max S.A.an (nx - 1) + (S.A.q.drop (max S.A.an (nx - 1) - S.A.an)).length = S.P.length
    rw [List.length_drop]; omega
  · show S.A.q.drop (max S.A.an (nx - 1) - S.A.an) = S.P.drop (max S.A.an (nx - 1))
    rw [h.q, List.drop_drop]
    congr 1
    omega
  · show max S.A.an (nx - 1) + 1 ≤ S.R.wt
    omega
  · show ((max S.A.wd wd : Nat) : Int) ∈ S.ws
    rcases Nat.le_total S.A.wd wd with e | e
    · rw [Nat.max_eq_right e]; exact h3
    · rw [Nat.max_eq_left e]; exact h.aw
  · show S.dn ≤ ((max S.A.an (nx - 1) : Nat) : Int)
    have := h.dn
    omega
  · show S.wd ≤ ((max S.A.wd wd : Nat) : Int)
    have := h.wd
    omega
theorem Inv.ack {S : LS} (h : Inv S) (hz : S.P.length ≤ 1073741824) (i : Int) : Inv (stAck S i) := by
  unfold stAck
  by_cases h0 : S.N = []
  · rw [if_pos h0]; exact h
  · rw [if_neg h0]
    exact h.ack1 hz (h.n _ (atZ_mem h0 i))
theorem Inv.ack_ok {S : LS} (h : Inv S) (hz : S.P.length ≤ 1073741824) (i : Int) : S.N ≠ [] → ackE S.A (atZ S.N i) = 0 := fun h0 => (ack_ans h hz (h.n _ (atZ_mem h0 i))).1
theorem Inv.rdy {S : LS} (h : Inv S) (hz : S.P.length ≤ 1073741824) : Rdy S := by
  have hgv := h.gv
  have hwt := h.wt
  refine ⟨S.P.drop (S.R.wt - 1), ?_, by omega, hz⟩
  rw [← List.append_assoc, ← h.rd, List.take_append_drop]
theorem Inv.drain {S : LS} (h : Inv S) : Inv (drS S S.R.rd.length) := by
  have hgv := h.gv
  have hwt := h.wt
  refine ⟨h.ln, h.wi, h.pm, h.pb, h.an, h.q, ?_, ?_, h.wt, h.le, h.kp, h.se, h.d, h.n, h.td, h.wdm, h.wdl, h.aw, h.wsl, h.dn, h.wd⟩
  · show S.gv + S.R.rd.length + (S.R.rd.drop S.R.rd.length).length + 1 = S.R.wt
    rw [List.length_drop]; omega
  · show S.P.take (S.R.wt - 1) = S.P.take (S.gv + S.R.rd.length) ++ S.R.rd.drop S.R.rd.length
    rw [List.drop_length, List.append_nil, show S.gv + S.R.rd.length = S.R.wt - 1 by omega]
theorem Inv.tell {S : LS} (h : Inv S) (i : Int) : Inv (stTell S i) := by
  have htd := h.td
  have hwl := h.wdl
  unfold stTell
  by_cases hi : S.td < min i 1073741824
  · rw [if_pos hi]
    have hw : ((max S.R.wd (min i 1073741824).toNat : Nat) : Int) = min i 1073741824 := by omega
    refine ⟨h.ln, h.wi, h.pm, h.pb, h.an, h.q, h.gv, h.rd, h.wt, h.le, h.kp, h.se, h.d, fun z hz => (h.n z hz).mono rfl (Nat.le_refl _) fun u hu => List.mem_append_left _ hu, hw.symm, ?_, ?_, List.mem_append_left _ h.aw, fun u hu => ?_, h.dn, h.wd⟩
    · show ((max S.R.wd (min i 1073741824).toNat : Nat) : Int) ∈ S.ws ++ [min i 1073741824]
      rw [hw]; simp
    · show max S.R.wd (min i 1073741824).toNat ≤ 1073741824
      omega
    · show u ≤ min i 1073741824
      simp only [List.mem_append, List.mem_singleton] at hu
      rcases hu with hu | rfl
      · have := h.wsl u hu; omega
      · exact Int.le_refl _
  · rw [if_neg hi]
    have hw : max S.R.wd (min i 1073741824).toNat = S.R.wd := by omega
    have e : tellR S.R i = S.R := by unfold tellR; rw [hw]
    rw [e]
    exact h
theorem Inv.lk {S : LS} (h : Inv S) (hz : S.P.length ≤ 1073741824) (hw : S.ws.length ≤ 1073741825) : Lk S :=
  ⟨h.rdy hz, h.an, by have := h.le; have := h.gv; omega, h.dn, h.wd, h.aw, hw⟩
theorem Inv.look {S : LS} (h : Inv S) : Inv (stLook S) := by
  have h1 := h.drain
  exact ⟨h1.ln, h1.wi, h1.pm, h1.pb, h1.an, h1.q, h1.gv, h1.rd, h1.wt, h1.le, h1.kp, h1.se, h1.d, h1.n, h1.td, h1.wdm, h1.wdl, h1.aw, h1.wsl, Int.le_refl _, Int.le_refl _⟩
/-- the line begins so -/
theorem Inv.zero (l n m : Int) : Inv (ls0 l n m) := by
  have hl := fairL_c l
  have hn : 1 ≤ (fairW n).toNat ∧ (fairW n).toNat ≤ 16 := by unfold fairW; split <;> omega
  have hm : 1 ≤ (fairW m).toNat ∧ (fairW m).toNat ≤ 16 := by unfold fairW; split <;> omega
  refine ⟨⟨rfl, by show (fairL l).toNat ≤ 23; omega⟩, ⟨hn, hm⟩, ?_, ?_, rfl, rfl, rfl, rfl, Nat.le_refl _, Nat.le_refl _, ?_, rfl, ?_, ?_, rfl, List.mem_cons_self, Nat.zero_le _, List.mem_cons_self, ?_, Int.le_refl _, Int.le_refl _⟩
  all_goals intro x hx
  all_goals first
    | (cases hx; done)
    | skip
  have hx' : x ∈ [(0 : Int)] := hx
  rw [List.mem_singleton.1 hx']
  exact Int.le_refl _
end Go.Proofs.YtgnamngnmbaeeaaDoor
