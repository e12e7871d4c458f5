import Derived.Test.YtgnamngnmbaeeaaDoorLnH
namespace Go.Proofs.YtgnamngnmbaeeaaDoor
open Go.RowKit
set_option maxRecDepth 8000
theorem LM.dat {w w' : World} {C : Nat → Nat} {c lb sb rb : Nat} {dv nv bv pv wv v' : Value} {D N P L' : List BS} {S : LS} {l' : List (List Int)} (h : LM w C c lb sb rb dv nv bv pv wv D N P S)
    (hX : Box w' lb #[.pointer (some ⟨sb, 0, none⟩), .pointer (some ⟨rb, 0, none⟩), v', nv, bv, pv, .int .i64 (S.gv : Int), .int .i64 S.td, wv, .int .i64 S.wd, .int .i64 S.dn] 34) (hR : Rw w' (Zc w C (c + 3)) v' L') (hm : L'.map BS.zs = l') (hb : But (fun k => k = lb ∨ ¬ Zc w C (c + 3) k) w w') :
    LM w' (upC w C (c + 3)) c lb sb rb v' nv bv pv wv L' N P { S with D := l' } ∧ (∀ k, k < w.heap.size → upC w C (c + 3) k = C k) ∧ (∀ k, w.heap.size ≤ k → In8 (upC w C (c + 3)) c k) ∧ But (In7 C c) w w' := by
  have hl := h.bx.lt
  have hcol : ∀ k, k < w.heap.size → (k = lb ∨ ¬ Zc w C (c + 3) k) → C k = c ∨ C k = c + 3 := fun k hk e => e.elim (fun e => .inl (by rw [e]; exact h.cl)) fun e => .inr (by
    by_cases e2 : C k = c + 3
    · exact e2
    · exact absurd ⟨hk, e2⟩ e)
  have hbd : ∀ e, e ≠ 0 ∧ e ≠ 3 → But (Zc w C (c + e)) w w' := fun e he => hb.mono fun k hk hn => ⟨hk, by have := hcol k hk hn; omega⟩
  have hz : ∀ e, ∀ k, k < w.heap.size → Zc w' (upC w C (c + 3)) e k → Zc w C e k := fun e k hk => zc_old hk
  refine ⟨⟨hX, by rw [upC_old hl]; exact h.cl, h.s.but (hbd 1 (by omega)) (hz _), h.r.but (hbd 2 (by omega)) (hz _), hR.but (But.refl _ _) fun k hk e => zc_own e, h.n.but (hbd 4 (by omega)) (hz _), h.p.but (hbd 5 (by omega)) (hz _), h.w.but (hbd 6 (by omega)) fun k hk => upC_old hk, hm, h.hn, h.hp⟩, fun k hk => upC_old hk, fun k hk => ?_, hb.mono fun k hk hn => ?_⟩
  · unfold In8; rw [upC_new hk]; omega
  · have := hcol k hk hn; unfold In7; omega
theorem LX.dat {w w1 w2 : World} {C C1 : Nat → Nat} {c lb sb rb : Nat} {dv nv bv pv wv : Value} {D N P : List BS} {S : LS} {e : Ending} {x : List Int} (h : LX w C c lb sb rb dv nv bv pv wv D N P S w1 C1) (hq : AddQ w1 (Zc w1 C1 (c + 3)) lb 2 #[.pointer (some ⟨sb, 0, none⟩), .pointer (some ⟨rb, 0, none⟩), dv, nv, bv, pv, .int .i64 (S.gv : Int), .int .i64 S.td, wv, .int .i64 S.wd, .int .i64 S.dn] 34 dv D x e w2) :
    e = .returned (.tuple #[]) ∧ ∃ v' L', LX w C c lb sb rb v' nv bv pv wv L' N P { S with D := addP S.D x } w2 (upC w1 C1 (c + 3)) ∧ Fr (fun k => k < w1.heap.size ∧ C1 k = c + 7) w1 w2 := by
  obtain ⟨he, v', L', hX, hR, hm, hb⟩ := hq
  obtain ⟨p1, p2, p3, p4⟩ := h.m.dat hX hR (hm.trans (by rw [h.m.hd])) hb
  refine ⟨he, v', L', h.on p1 p2 p3 p4, hb.mono fun k hk e => fun e2 => ?_⟩
  rcases e with e | e
  · have := h.m.cl; rw [← e] at this; omega
  · exact e ⟨hk, by omega⟩
theorem LM.zdat {w : World} {C : Nat → Nat} {c lb sb rb : Nat} {dv nv bv pv wv : Value} {D N P : List BS} {S : LS} (h : LM w C c lb sb rb dv nv bv pv wv D N P S) : Zc w C (c + 3) lb := ⟨h.bx.lt, by rw [h.cl]; omega⟩
theorem LM.ans {w w' : World} {C : Nat → Nat} {c lb sb rb : Nat} {dv nv bv pv wv v' : Value} {D N P L' : List BS} {S : LS} {l' : List (List Int)} (h : LM w C c lb sb rb dv nv bv pv wv D N P S)
    (hX : Box w' lb #[.pointer (some ⟨sb, 0, none⟩), .pointer (some ⟨rb, 0, none⟩), dv, v', bv, pv, .int .i64 (S.gv : Int), .int .i64 S.td, wv, .int .i64 S.wd, .int .i64 S.dn] 34) (hR : Rw w' (Zc w C (c + 4)) v' L') (hm : L'.map BS.zs = l') (hb : But (fun k => k = lb ∨ ¬ Zc w C (c + 4) k) w w') :
    LM w' (upC w C (c + 4)) c lb sb rb dv v' bv pv wv D L' P { S with N := l' } ∧ (∀ k, k < w.heap.size → upC w C (c + 4) k = C k) ∧ (∀ k, w.heap.size ≤ k → In8 (upC w C (c + 4)) c k) ∧ But (In7 C c) w w' := by
  have hl := h.bx.lt
  have hcol : ∀ k, k < w.heap.size → (k = lb ∨ ¬ Zc w C (c + 4) k) → C k = c ∨ C k = c + 4 := fun k hk e => e.elim (fun e => .inl (by rw [e]; exact h.cl)) fun e => .inr (by
    by_cases e2 : C k = c + 4
    · exact e2
    · exact absurd ⟨hk, e2⟩ e)
  have hbd : ∀ e, e ≠ 0 ∧ e ≠ 4 → But (Zc w C (c + e)) w w' := fun e he => hb.mono fun k hk hn => ⟨hk, by have := hcol k hk hn; omega⟩
  have hz : ∀ e, ∀ k, k < w.heap.size → Zc w' (upC w C (c + 4)) e k → Zc w C e k := fun e k hk => zc_old hk
  refine ⟨⟨hX, by rw [upC_old hl]; exact h.cl, h.s.but (hbd 1 (by omega)) (hz _), h.r.but (hbd 2 (by omega)) (hz _), h.d.but (hbd 3 (by omega)) (hz _), hR.but (But.refl _ _) fun k hk e => zc_own e, h.p.but (hbd 5 (by omega)) (hz _), h.w.but (hbd 6 (by omega)) fun k hk => upC_old hk, h.hd, hm, h.hp⟩, fun k hk => upC_old hk, fun k hk => ?_, hb.mono fun k hk hn => ?_⟩
  · unfold In8; rw [upC_new hk]; omega
  · have := hcol k hk hn; unfold In7; omega
theorem LX.ans {w w1 w2 : World} {C C1 : Nat → Nat} {c lb sb rb : Nat} {dv nv bv pv wv : Value} {D N P : List BS} {S : LS} {e : Ending} {x : List Int} (h : LX w C c lb sb rb dv nv bv pv wv D N P S w1 C1) (hq : AddQ w1 (Zc w1 C1 (c + 4)) lb 3 #[.pointer (some ⟨sb, 0, none⟩), .pointer (some ⟨rb, 0, none⟩), dv, nv, bv, pv, .int .i64 (S.gv : Int), .int .i64 S.td, wv, .int .i64 S.wd, .int .i64 S.dn] 34 nv N x e w2) :
    e = .returned (.tuple #[]) ∧ ∃ v' L', LX w C c lb sb rb dv v' bv pv wv D L' P { S with N := addP S.N x } w2 (upC w1 C1 (c + 4)) ∧ Fr (fun k => k < w1.heap.size ∧ C1 k = c + 7) w1 w2 := by
  obtain ⟨he, v', L', hX, hR, hm, hb⟩ := hq
  obtain ⟨p1, p2, p3, p4⟩ := h.m.ans hX hR (hm.trans (by rw [h.m.hn])) hb
  refine ⟨he, v', L', h.on p1 p2 p3 p4, hb.mono fun k hk e => fun e2 => ?_⟩
  rcases e with e | e
  · have := h.m.cl; rw [← e] at this; omega
  · exact e ⟨hk, by omega⟩
theorem LM.zans {w : World} {C : Nat → Nat} {c lb sb rb : Nat} {dv nv bv pv wv : Value} {D N P : List BS} {S : LS} (h : LM w C c lb sb rb dv nv bv pv wv D N P S) : Zc w C (c + 4) lb := ⟨h.bx.lt, by rw [h.cl]; omega⟩
theorem LM.pts {w w' : World} {C : Nat → Nat} {c lb sb rb : Nat} {dv nv bv pv wv v' : Value} {D N P L' : List BS} {S : LS} {l' : List (List Int)} (h : LM w C c lb sb rb dv nv bv pv wv D N P S)
    (hX : Box w' lb #[.pointer (some ⟨sb, 0, none⟩), .pointer (some ⟨rb, 0, none⟩), dv, nv, bv, v', .int .i64 (S.gv : Int), .int .i64 S.td, wv, .int .i64 S.wd, .int .i64 S.dn] 34) (hR : Rw w' (Zc w C (c + 5)) v' L') (hm : L'.map BS.zs = l') (hb : But (fun k => k = lb ∨ ¬ Zc w C (c + 5) k) w w') :
    LM w' (upC w C (c + 5)) c lb sb rb dv nv bv v' wv D N L' { S with P := l' } ∧ (∀ k, k < w.heap.size → upC w C (c + 5) k = C k) ∧ (∀ k, w.heap.size ≤ k → In8 (upC w C (c + 5)) c k) ∧ But (In7 C c) w w' := by
  have hl := h.bx.lt
  have hcol : ∀ k, k < w.heap.size → (k = lb ∨ ¬ Zc w C (c + 5) k) → C k = c ∨ C k = c + 5 := fun k hk e => e.elim (fun e => .inl (by rw [e]; exact h.cl)) fun e => .inr (by
    by_cases e2 : C k = c + 5
    · exact e2
    · exact absurd ⟨hk, e2⟩ e)
  have hbd : ∀ e, e ≠ 0 ∧ e ≠ 5 → But (Zc w C (c + e)) w w' := fun e he => hb.mono fun k hk hn => ⟨hk, by have := hcol k hk hn; omega⟩
  have hz : ∀ e, ∀ k, k < w.heap.size → Zc w' (upC w C (c + 5)) e k → Zc w C e k := fun e k hk => zc_old hk
  refine ⟨⟨hX, by rw [upC_old hl]; exact h.cl, h.s.but (hbd 1 (by omega)) (hz _), h.r.but (hbd 2 (by omega)) (hz _), h.d.but (hbd 3 (by omega)) (hz _), h.n.but (hbd 4 (by omega)) (hz _), hR.but (But.refl _ _) fun k hk e => zc_own e, h.w.but (hbd 6 (by omega)) fun k hk => upC_old hk, h.hd, h.hn, hm⟩, fun k hk => upC_old hk, fun k hk => ?_, hb.mono fun k hk hn => ?_⟩
  · unfold In8; rw [upC_new hk]; omega
  · have := hcol k hk hn; unfold In7; omega
/-- a list of the law's own stays when others than it are written -/
theorem Tmp.kept {w w' : World} {C : Nat → Nat} {c d : Nat} {y : BS} (h : Tmp w C c y) (hb : Fr (fun k => k < w.heap.size ∧ C k = c + 7) w w') : Tmp w' (upC w C d) c y :=
  (h.mono fun k hk hl => (⟨hl, hk⟩ : k < w.heap.size ∧ C k = c + 7)).kept hb.size (fun k hk hl => hb.block k hl fun e => e hk) |>.mono fun k hk _ => by rw [upC_old hk.1]; exact hk.2
end Go.Proofs.YtgnamngnmbaeeaaDoor

namespace Go.Proofs.YtgnamngnmbaeeaaDoor
open Go.RowKit
set_option maxRecDepth 8000
def atZ (l : List (List Int)) (i : Int) : List Int := l.getD (idxP i l.length) []
theorem atP_zs (L : List BS) (i : Int) : (atP L i).zs = atZ (L.map BS.zs) i := by
  unfold atP atZ
  rw [List.length_map, List.getD_eq_getElem?_getD, List.getD_eq_getElem?_getD, List.getElem?_map]
  cases L[idxP i L.length]? <;> rfl
theorem atP_in {w : World} {Z : Nat → Prop} {v : Value} {L : List BS} (h : Rw w Z v L) (i : Int) : (atP L i).In w (fun k => ¬ Z k) := by
  by_cases h0 : L = []
  · subst h0
    exact bs_nil _ _
  · obtain ⟨_, _, _, _, _, _, _, _, h⟩ := h.at_ (atP_mem h0 i)
    exact h.mono fun k hk _ => hk.1
theorem LX.rcvC {w w1 w2 : World} {C C1 : Nat → Nat} {c lb sb rb : Nat} {dv nv bv pv wv : Value} {D N P : List BS} {S : LS} (h : LX w C c lb sb rb dv nv bv pv wv D N P S w1 C1) {R' : RA} {N3 : Nat} (hN : w1.heap.size ≤ N3) (hF : Fr (Zc w1 C1 (c + 2)) w1 w2) (hI : RcvI w2 (fun k => Zc w1 C1 (c + 2) k ∨ N3 ≤ k) rb R') :
    ∃ C2, LX w C c lb sb rb dv nv bv pv wv D N P { S with R := R' } w2 C2 ∧ ∀ k, N3 ≤ k → C2 k = c + 7 := by
  obtain ⟨C2, hC2⟩ : ∃ C2 : Nat → Nat, C2 = fun k => if k < w1.heap.size then C1 k else if k < N3 then c + 2 else c + 7 := ⟨_, rfl⟩
  have c0 : ∀ k, k < w1.heap.size → C2 k = C1 k := fun k hk => by rw [hC2]; exact if_pos hk
  have c1 : ∀ k, w1.heap.size ≤ k → k < N3 → C2 k = c + 2 := fun k hk hl => by rw [hC2]; show (if _ then _ else _) = _; rw [if_neg (by omega), if_pos hl]
  have c2 : ∀ k, N3 ≤ k → C2 k = c + 7 := fun k hk => by rw [hC2]; show (if _ then _ else _) = _; rw [if_neg (by omega), if_neg (by omega)]
  have hm := h.m
  have hbd : ∀ e, e ≠ 2 → But (Zc w1 C1 (c + e)) w1 w2 := fun e he => fr_but hF (by omega)
  have hz : ∀ e, ∀ k, k < w1.heap.size → Zc w2 C2 e k → Zc w1 C1 e k := fun e k hk hz => ⟨hk, by rw [← c0 k hk]; exact hz.2⟩
  refine ⟨C2, h.on ⟨hm.bx.but (hbd 0 (by omega)) fun e => e.2 (by rw [hm.cl]; rfl), by rw [c0 _ hm.bx.lt]; exact hm.cl, hm.s.but (hbd 1 (by omega)) (hz _), hI.z fun k hk hz2 => ?_, hm.d.but (hbd 3 (by omega)) (hz _), hm.n.but (hbd 4 (by omega)) (hz _), hm.p.but (hbd 5 (by omega)) (hz _), hm.w.but (hbd 6 (by omega)) c0, hm.hd, hm.hn, hm.hp⟩ c0 (fun k hk => ?_) (But.mono hF fun k hk hn => ?_), c2⟩
  · rcases Nat.lt_or_ge k w1.heap.size with e | e
    · exact .inl (hz _ k e hz2)
    · rcases Nat.lt_or_ge k N3 with e2 | e2
      · exact absurd (c1 k e e2) hz2.2
      · exact .inr e2
  · unfold In8
    rcases Nat.lt_or_ge k N3 with e2 | e2
    · rw [c1 k hk e2]; omega
    · rw [c2 k e2]; omega
  · unfold In7
    have : C1 k = c + 2 := Classical.byContradiction fun e => hn ⟨hk, e⟩
    omega
/-- a packet of the data pool is taken -/
def stTake (S : LS) (i : Int) : LS := if S.D = [] then S else { S with R := takeN S.R (atZ S.D i), N := addP S.N (pktA (takeN S.R (atZ S.D i))) }
set_option maxHeartbeats 16000000 in
theorem step_take (w : World) (C : Nat → Nat) (c lb : Nat) (S : LS) (h : LI w C c lb S) (hn : ∀ k, w.heap.size ≤ k → In8 C c k) (hT : Tab w) (hO : Out8 C c) (s2 : Bool) (i bit : Int) (hi : Fit64 i) (bp : Option Addr) (bn bc : Nat)
    (hok : S.D ≠ [] → unpE S.R.ln 68 (atZ S.D i) = 0) : Calls Tryd.prog 20 #[.pointer (some ⟨lb, 0, none⟩), .agg #[.int .i64 3, .bool s2, .int .i64 i, .int .i64 bit, .slice bp bn bc]] w fun e w' => e = .returned (.bool true) ∧ LQ w C c lb (stTake S i) w' := by
  obtain ⟨sb, rb, dv, nv, bv, pv, wv, D, N, P, hM⟩ := h
  obtain ⟨V1, hV1⟩ : ∃ V, V = w.alloc (.cells #[.int .i64 3, .bool s2, .int .i64 i, .int .i64 bit, .slice bp bn bc] 46) := ⟨_, rfl⟩
  obtain ⟨ob, hob⟩ : ∃ b, b = w.heap.size := ⟨_, rfl⟩
  have hb1 : Below w.heap.size w V1 := by rw [hV1]; exact (Below.refl _ _).alloc (Nat.le_refl _) _
  have hOb : Box V1 ob #[.int .i64 3, .bool s2, .int .i64 i, .int .i64 bit, .slice bp bn bc] 46 := by rw [hV1, hob]; exact Box.new _ _ _
  obtain ⟨C1, hC1⟩ : ∃ D, D = upC w C (c + 7) := ⟨_, rfl⟩
  have hX1 := (LX.refl hM hn).below hb1
  rw [← hC1] at hX1
  have HX1 := hid hX1
  have HV1 := hid hV1
  have HOb := hid hob
  have HT := hid hT
  have HO := hid hO
  have HBx := hid hOb
  have hd := hM.hd
  obtain ⟨dp, dc, hdv⟩ := hX1.m.d.slice
  have c2 := hX1.m.bx.cell 2
  have c1 := hX1.m.bx.cell 1
  have cl := hX1.m.bx.lt
  simp at c1 c2
  rw [hdv] at c2
  have k2 := hOb.cell 2
  have k0 := hOb.cell 0
  have kl := hOb.lt
  simp at k0 k2
  have HDv := hid hdv
  by_cases h0 : D = []
  · as_aux_lemma =>
    subst h0
    have HS : Hid (stTake S i = S) := by show stTake S i = S; unfold stTake; rw [if_pos (show S.D = [] from hd.symm)]
    dsimp only [List.length_nil] at c2
    clear hM hV1 hob hb1 hOb hC1 hX1 hdv hd hT hO hi hok c1 hn
    go_enter Tryd.func20, Tryd.ntmps20
    go_upto_region 1 with fail
    rw [← HV1.out, ← HOb.out]
    go_wp2
    exact bodyPost_ret (v := .bool true) (by simp [results, Tryd.results20, go_sem]) rfl ⟨rfl, by rw [HS.out]; exact HX1.out.lq⟩
  · as_aux_lemma =>
    have hD0 : S.D ≠ [] := fun e => h0 (List.map_eq_nil_iff.1 (hd.trans e))
    have hzz : (atP D i).zs = atZ S.D i := by rw [atP_zs, hd]
    have HS : Hid (stTake S i = { S with R := takeN S.R (atP D i).zs, N := addP S.N (pktA (takeN S.R (atP D i).zs)) }) := by show stTake S i = _; unfold stTake; rw [if_neg hD0, hzz]
    have hun : unpE S.R.ln 68 (atP D i).zs = 0 := by rw [hzz]; exact hok hD0
    obtain ⟨m, hm⟩ : ∃ m, m = D.length := ⟨_, rfl⟩
    have hm0 : ¬ (m : Int) = 0 := by
      have := List.length_pos_iff.2 h0
      omega
    rw [← hm] at c2
    have HAt := hid (at_any V1.drew (Zc V1 C1 (c + 3)) lb 2 dv D hX1.m.bx.lt (by rw [hdv, ← hm]; exact c2) (hX1.m.d.below (Below.refl _ _).drew fun _ _ h => h) i hi)
    obtain ⟨xv, hxv⟩ : ∃ v, v = (atP D i).val := ⟨_, rfl⟩
    rw [← hxv] at HAt
    have HXv := hid hxv
    have HUn := hid hun
    clear hM hV1 hob hb1 hOb hC1 hX1 hdv hd hT hO hi hok hn h0 hD0 hzz hun hm hxv
    go_enter Tryd.func20, Tryd.ntmps20
    go_upto_region 1 with fail
    rw [← HV1.out, ← HOb.out]
    go_upto_region 18 with fail
    refine wp_region_calmE 30 (fun wx => Below V1.heap.size V1 wx) [(0, true), (1, true), (2, true), (3, false), (4, true), (5, true), (6, true), (7, true), (8, false)] (.one 9 true [] (.one 10 false [(11, true), (12, true), (13, true), (14, true), (15, true)] .done)) (by kernel_rfl) (by kernel_rfl) (Below.refl _ _).drew ?_
    refine wpPre_e rfl rfl (fun K1 hK1 => ?_)
    apply Exists.intro
    refine And.intro (fun wx hx => ?_) ?_
    · go_simp
      try rfl
    go_simp
    refine hK1 _ ?_
    clear hK1 K1
    refine wpPre_e rfl rfl (fun K1 hK1 => ?_)
    apply Exists.intro
    refine And.intro (fun wx hx => ?_) ?_
    · go_simp
      try rfl
    go_simp
    refine hK1 _ ?_
    clear hK1 K1
    refine wpPre_e rfl rfl (fun K1 hK1 => ?_)
    apply Exists.intro
    refine And.intro (fun wx hx => ?_) ?_
    · go_simp
      try rfl
    go_simp
    refine hK1 _ ?_
    clear hK1 K1
    refine wpPre_e rfl rfl (fun K1 hK1 => ?_)
    apply Exists.intro
    refine And.intro (fun wx hx => ?_) ?_
    · have e0 := below_fact hx rfl c1
      have e1 := below_fact hx rfl k2
      go_simp
      try rfl
    go_simp
    refine hK1 _ ?_
    clear hK1 K1
    refine wpPre_e rfl rfl (fun K1 hK1 => ?_)
    apply Exists.intro
    refine And.intro (fun wx hx => ?_) ?_
    · go_simp
      try rfl
    go_simp
    refine hK1 _ ?_
    clear hK1 K1
    refine wpPre_e rfl rfl (fun K1 hK1 => ?_)
    apply Exists.intro
    refine And.intro (fun wx hx => ?_) ?_
    · go_simp
      try rfl
    go_simp
    refine hK1 _ ?_
    clear hK1 K1
    refine wpPre_e rfl rfl (fun K1 hK1 => ?_)
    apply Exists.intro
    refine And.intro (fun wx hx => ?_) ?_
    · go_simp
      try rfl
    go_simp
    refine hK1 _ ?_
    clear hK1 K1
    refine wpPre_e rfl rfl (fun K1 hK1 => ?_)
    apply Exists.intro
    refine And.intro (fun wx hx => ?_) ?_
    · go_simp
      try rfl
    go_simp
    refine hK1 _ ?_
    clear hK1 K1
    refine wpPre_e rfl rfl (fun K1 hK1 => ?_)
    apply Exists.intro
    refine And.intro (fun wx hx => ?_) ?_
    · have e0 := below_fact hx rfl c1
      have e1 := below_fact hx rfl k2
      go_simp
      try rfl
    go_simp
    refine hK1 _ ?_
    clear hK1 K1
    refine wpPre_nil ?_
    refine wpTr_e rfl (fun K1 hK1 => ?_)
    refine step_callG (by first | rfl | go_simp) 15 #[.tmp 90, .tmp 92] _ rfl Tryd.f15 Tryd.func15 (by kernel_rfl) rfl #[.pointer (some ⟨lb, 2, none⟩), .int .i64 i] rfl _ (HAt.out) ?_
    rintro e_ w2 ⟨rfl, hb2⟩
    refine ⟨_, rfl, ?_⟩
    have hb12 : Below V1.heap.size V1 w2 := (Below.refl _ _).drew.trans (hb2.mono (Nat.le_refl _))
    obtain ⟨C2, hC2⟩ : ∃ D, D = upC V1 C1 (c + 7) := ⟨_, rfl⟩
    have hX2 := HX1.out.below hb12
    rw [← hC2] at hX2
    have hIn : (atP D i).In w2 (fun k => C2 k = c + 3 ∧ k < w2.heap.size) := ((atP_in hX2.m.d i).mono fun k hk hl => ⟨Classical.byContradiction fun e => hk ⟨hl, e⟩, hl⟩)
    have HTk := hid (take_any w2 (Zc w2 C2 (c + 2)) rb S.R hX2.m.r zc_lt (atP D i) _ hIn (hX2.tab HT.out HO.out) (hX2.z0 HT.out HO.out (by omega)))
    rw [← HXv.out] at HTk
    have HX2 := hid hX2
    have HB12 := hid hb12
    clear hb2 hb12 hC2 hX2 hIn
    go_simp
    refine hK1 _ _ (fun _ => HB12.out) ?_
    clear hK1 K1
    refine wpPre_nil ?_
    refine wpTr_e rfl (fun K1 hK1 => ?_)
    refine step_callG (by first | rfl | go_simp) 21 #[.tmp 87, .tmp 93] _ rfl Tryd.f21 Tryd.func21 (by kernel_rfl) rfl #[.pointer (some ⟨rb, 0, none⟩), xv] rfl _ (HTk.out) ?_
    rintro e_ w3 ⟨_, hq⟩
    obtain ⟨y, N3, he, hyz, hN1, hN2, hyi, hI3, hF3⟩ := hq HUn.out
    subst he
    refine ⟨_, rfl, ?_⟩
    have HYi := hid (And.intro hyz (And.intro hyi (And.intro hI3 (And.intro hF3 (And.intro hN1 hN2)))))
    clear hyz hyi hI3 hF3 hq hN1 hN2
    go_simp
    refine hK1 _ _ (fun h => by cases h) ?_
    clear hK1 K1
    refine wpPre_e rfl rfl (fun K1 hK1 => ?_)
    apply Exists.intro
    refine And.intro (fun wx hx => ?_) ?_
    · go_simp
      try rfl
    go_simp
    refine hK1 _ ?_
    clear hK1 K1
    refine wpPre_e rfl rfl (fun K1 hK1 => ?_)
    apply Exists.intro
    refine And.intro (fun wx hx => ?_) ?_
    · go_simp
      try rfl
    go_simp
    refine hK1 _ ?_
    clear hK1 K1
    refine wpPre_e rfl rfl (fun K1 hK1 => ?_)
    apply Exists.intro
    refine And.intro (fun wx hx => ?_) ?_
    · go_simp
      try rfl
    go_simp
    refine hK1 _ ?_
    clear hK1 K1
    refine wpPre_e rfl rfl (fun K1 hK1 => ?_)
    apply Exists.intro
    refine And.intro (fun wx hx => ?_) ?_
    · go_simp
      try rfl
    go_simp
    refine hK1 _ ?_
    clear hK1 K1
    refine wpPre_e rfl rfl (fun K1 hK1 => ?_)
    apply Exists.intro
    refine And.intro (fun wx hx => ?_) ?_
    · go_simp
      try rfl
    go_simp
    refine hK1 _ ?_
    clear hK1 K1
    refine wpPre_nil ?_
    refine wpTr_done ?_
    obtain ⟨hyz, hyi, hI3, hF3, hN1, hN2⟩ := HYi.out
    obtain ⟨C3, hX3, hC3⟩ := HX2.out.rcvC hN1 hF3 hI3
    have hY3 : Tmp w3 C3 c y := hyi.mono fun k hk _ => hC3 k hk
    have HAd := hid (padd_any w3 (Zc w3 C3 (c + 4)) lb 3 _ 34 hX3.m.bx nv rfl N hX3.m.n hX3.m.zans zc_lt y _ hY3)
    obtain ⟨yv, hyv⟩ : ∃ v, v = y.val := ⟨_, rfl⟩
    rw [← hyv] at HAd ⊢
    have HX3 := hid hX3
    have HYz := hid hyz
    clear hyz hyi hI3 hF3 hN1 hN2 hX3 hC3 hY3 HYi hyv c1 cl c2 k0 k2 kl
    go_wp2_with fail
    refine HAd.out.mono ?_
    rintro e w4 hq
    obtain ⟨he, v', L', hX4, _⟩ := HX3.out.ans hq
    subst he
    have HX4 := hid hX4
    clear hq hX4
    go_wp2
    exact bodyPost_ret (v := .bool true) (by simp [results, Tryd.results20, go_sem]) rfl ⟨rfl, by rw [HS.out, ← HYz.out]; exact HX4.out.lq⟩
end Go.Proofs.YtgnamngnmbaeeaaDoor

namespace Go.Proofs.YtgnamngnmbaeeaaDoor
open Go.RowKit
set_option maxRecDepth 8000
/-- an answer of the pool is handed in -/
def stAck (S : LS) (i : Int) : LS := if S.N = [] then S else { S with A := ackN S.A (atZ S.N i) }
set_option maxHeartbeats 16000000 in
theorem step_ack (w : World) (C : Nat → Nat) (c lb : Nat) (S : LS) (h : LI w C c lb S) (hn : ∀ k, w.heap.size ≤ k → In8 C c k) (hT : Tab w) (hO : Out8 C c) (s2 : Bool) (i bit : Int) (hi : Fit64 i) (bp : Option Addr) (bn bc : Nat)
    (hok : S.N ≠ [] → ackE S.A (atZ S.N i) = 0) : Calls Tryd.prog 20 #[.pointer (some ⟨lb, 0, none⟩), .agg #[.int .i64 4, .bool s2, .int .i64 i, .int .i64 bit, .slice bp bn bc]] w fun e w' => e = .returned (.bool true) ∧ LQ w C c lb (stAck S i) w' := by
  obtain ⟨sb, rb, dv, nv, bv, pv, wv, D, N, P, hM⟩ := h
  obtain ⟨V1, hV1⟩ : ∃ V, V = w.alloc (.cells #[.int .i64 4, .bool s2, .int .i64 i, .int .i64 bit, .slice bp bn bc] 46) := ⟨_, rfl⟩
  obtain ⟨ob, hob⟩ : ∃ b, b = w.heap.size := ⟨_, rfl⟩
  have hb1 : Below w.heap.size w V1 := by rw [hV1]; exact (Below.refl _ _).alloc (Nat.le_refl _) _
  have hOb : Box V1 ob #[.int .i64 4, .bool s2, .int .i64 i, .int .i64 bit, .slice bp bn bc] 46 := by rw [hV1, hob]; exact Box.new _ _ _
  obtain ⟨C1, hC1⟩ : ∃ D, D = upC w C (c + 7) := ⟨_, rfl⟩
  have hX1 := (LX.refl hM hn).below hb1
  rw [← hC1] at hX1
  have HX1 := hid hX1
  have HV1 := hid hV1
  have HOb := hid hob
  have HT := hid hT
  have HO := hid hO
  have HBx := hid hOb
  have hd := hM.hn
  obtain ⟨dp, dc, hdv⟩ := hX1.m.n.slice
  have c3 := hX1.m.bx.cell 3
  have c0 := hX1.m.bx.cell 0
  have cl := hX1.m.bx.lt
  simp at c0 c3
  rw [hdv] at c3
  have k2 := hOb.cell 2
  have k0 := hOb.cell 0
  have kl := hOb.lt
  simp at k0 k2
  have HDv := hid hdv
  by_cases h0 : N = []
  · as_aux_lemma =>
    subst h0
    have HS : Hid (stAck S i = S) := by show stAck S i = S; unfold stAck; rw [if_pos (show S.N = [] from hd.symm)]
    dsimp only [List.length_nil] at c3
    clear hM hV1 hob hb1 hOb hC1 hX1 hdv hd hT hO hi hok c0 hn
    go_enter Tryd.func20, Tryd.ntmps20
    go_upto_region 1 with fail
    rw [← HV1.out, ← HOb.out]
    go_wp2
    exact bodyPost_ret (v := .bool true) (by simp [results, Tryd.results20, go_sem]) rfl ⟨rfl, by rw [HS.out]; exact HX1.out.lq⟩
  · as_aux_lemma =>
    have hD0 : S.N ≠ [] := fun e => h0 (List.map_eq_nil_iff.1 (hd.trans e))
    have hzz : (atP N i).zs = atZ S.N i := by rw [atP_zs, hd]
    have HS : Hid (stAck S i = { S with A := ackN S.A (atP N i).zs }) := by show stAck S i = _; unfold stAck; rw [if_neg hD0, hzz]
    have hun : ackE S.A (atP N i).zs = 0 := by rw [hzz]; exact hok hD0
    obtain ⟨m, hm⟩ : ∃ m, m = N.length := ⟨_, rfl⟩
    have hm0 : ¬ (m : Int) = 0 := by
      have := List.length_pos_iff.2 h0
      omega
    rw [← hm] at c3
    have HAt := hid (at_any V1.drew (Zc V1 C1 (c + 4)) lb 3 nv N hX1.m.bx.lt (by rw [hdv, ← hm]; exact c3) (hX1.m.n.below (Below.refl _ _).drew fun _ _ h => h) i hi)
    obtain ⟨xv, hxv⟩ : ∃ v, v = (atP N i).val := ⟨_, rfl⟩
    rw [← hxv] at HAt
    have HXv := hid hxv
    have HUn := hid hun
    clear hM hV1 hob hb1 hOb hC1 hX1 hdv hd hT hO hi hok hn h0 hD0 hzz hun hm hxv
    go_enter Tryd.func20, Tryd.ntmps20
    go_upto_region 1 with fail
    rw [← HV1.out, ← HOb.out]
    go_upto_region 24 with fail
    refine wp_region_calmE 30 (fun wx => Below V1.heap.size V1 wx) [(0, true), (1, true), (2, true), (3, false), (4, true), (5, true), (6, true), (7, true), (8, false)] (.one 9 true [] (.one 10 false [(11, true)] .done)) (by kernel_rfl) (by kernel_rfl) (Below.refl _ _).drew ?_
    refine wpPre_e rfl rfl (fun K1 hK1 => ?_)
    apply Exists.intro
    refine And.intro (fun wx hx => ?_) ?_
    · go_simp
      try rfl
    go_simp
    refine hK1 _ ?_
    clear hK1 K1
    refine wpPre_e rfl rfl (fun K1 hK1 => ?_)
    apply Exists.intro
    refine And.intro (fun wx hx => ?_) ?_
    · go_simp
      try rfl
    go_simp
    refine hK1 _ ?_
    clear hK1 K1
    refine wpPre_e rfl rfl (fun K1 hK1 => ?_)
    apply Exists.intro
    refine And.intro (fun wx hx => ?_) ?_
    · go_simp
      try rfl
    go_simp
    refine hK1 _ ?_
    clear hK1 K1
    refine wpPre_e rfl rfl (fun K1 hK1 => ?_)
    apply Exists.intro
    refine And.intro (fun wx hx => ?_) ?_
    · have e0 := below_fact hx rfl c0
      have e1 := below_fact hx rfl k2
      go_simp
      try rfl
    go_simp
    refine hK1 _ ?_
    clear hK1 K1
    refine wpPre_e rfl rfl (fun K1 hK1 => ?_)
    apply Exists.intro
    refine And.intro (fun wx hx => ?_) ?_
    · go_simp
      try rfl
    go_simp
    refine hK1 _ ?_
    clear hK1 K1
    refine wpPre_e rfl rfl (fun K1 hK1 => ?_)
    apply Exists.intro
    refine And.intro (fun wx hx => ?_) ?_
    · go_simp
      try rfl
    go_simp
    refine hK1 _ ?_
    clear hK1 K1
    refine wpPre_e rfl rfl (fun K1 hK1 => ?_)
    apply Exists.intro
    refine And.intro (fun wx hx => ?_) ?_
    · go_simp
      try rfl
    go_simp
    refine hK1 _ ?_
    clear hK1 K1
    refine wpPre_e rfl rfl (fun K1 hK1 => ?_)
    apply Exists.intro
    refine And.intro (fun wx hx => ?_) ?_
    · go_simp
      try rfl
    go_simp
    refine hK1 _ ?_
    clear hK1 K1
    refine wpPre_e rfl rfl (fun K1 hK1 => ?_)
    apply Exists.intro
    refine And.intro (fun wx hx => ?_) ?_
    · have e0 := below_fact hx rfl c0
      have e1 := below_fact hx rfl k2
      go_simp
      try rfl
    go_simp
    refine hK1 _ ?_
    clear hK1 K1
    refine wpPre_nil ?_
    refine wpTr_e rfl (fun K1 hK1 => ?_)
    refine step_callG (by first | rfl | go_simp) 15 #[.tmp 119, .tmp 121] _ rfl Tryd.f15 Tryd.func15 (by kernel_rfl) rfl #[.pointer (some ⟨lb, 3, none⟩), .int .i64 i] rfl _ (HAt.out) ?_
    rintro e_ w2 ⟨rfl, hb2⟩
    refine ⟨_, rfl, ?_⟩
    have hb12 : Below V1.heap.size V1 w2 := (Below.refl _ _).drew.trans (hb2.mono (Nat.le_refl _))
    obtain ⟨C2, hC2⟩ : ∃ D, D = upC V1 C1 (c + 7) := ⟨_, rfl⟩
    have hX2 := HX1.out.below hb12
    rw [← hC2] at hX2
    have hIn : (atP N i).In w2 (fun k => C2 k = c + 4 ∧ k < w2.heap.size) := ((atP_in hX2.m.n i).mono fun k hk hl => ⟨Classical.byContradiction fun e => hk ⟨hl, e⟩, hl⟩)
    have HAk := hid (ack_any w2 (Zc w2 C2 (c + 1)) sb S.A hX2.m.s zc_lt (atP N i) _ hIn (hX2.tab HT.out HO.out))
    rw [← HXv.out] at HAk
    have HX2 := hid hX2
    have HB12 := hid hb12
    clear hb2 hb12 hC2 hX2 hIn
    go_simp
    refine hK1 _ _ (fun _ => HB12.out) ?_
    clear hK1 K1
    refine wpPre_nil ?_
    refine wpTr_e rfl (fun K1 hK1 => ?_)
    refine step_callG (by first | rfl | go_simp) 24 #[.tmp 116, .tmp 122] _ rfl Tryd.f24 Tryd.func24 (by kernel_rfl) rfl #[.pointer (some ⟨sb, 0, none⟩), xv] rfl _ (HAk.out) ?_
    rintro e_ w3 ⟨he, hq⟩
    rw [HUn.out] at he
    rw [HUn.out, if_pos rfl] at hq
    subst he
    refine ⟨_, rfl, ?_⟩
    have HX3 := hid (HX2.out.snd hq)
    clear hq
    go_simp
    refine hK1 _ _ (fun h => by cases h) ?_
    clear hK1 K1
    refine wpPre_e rfl rfl (fun K1 hK1 => ?_)
    apply Exists.intro
    refine And.intro (fun wx hx => ?_) ?_
    · go_simp
      try rfl
    go_simp
    refine hK1 _ ?_
    clear hK1 K1
    refine wpPre_nil ?_
    refine wpTr_done ?_
    clear c0 cl c3 k0 k2 kl
    go_wp2
    exact bodyPost_ret (v := .bool true) (by simp [results, Tryd.results20, go_sem]) rfl ⟨rfl, by rw [HS.out]; exact HX3.out.lq⟩
/-- an answer that nobody asked for -/
def stAns (S : LS) : LS := { S with N := addP S.N (pktA S.R) }
set_option maxHeartbeats 16000000 in
theorem step_ans (w : World) (C : Nat → Nat) (c lb : Nat) (S : LS) (h : LI w C c lb S) (hn : ∀ k, w.heap.size ≤ k → In8 C c k) (hT : Tab w) (hO : Out8 C c) (s2 : Bool) (i bit : Int) (bp : Option Addr) (bn bc : Nat) : Calls Tryd.prog 20 #[.pointer (some ⟨lb, 0, none⟩), .agg #[.int .i64 7, .bool s2, .int .i64 i, .int .i64 bit, .slice bp bn bc]] w fun e w' => e = .returned (.bool true) ∧ LQ w C c lb (stAns S) w' := by
  obtain ⟨sb, rb, dv, nv, bv, pv, wv, D, N, P, hM⟩ := h
  obtain ⟨V1, hV1⟩ : ∃ V, V = w.alloc (.cells #[.int .i64 7, .bool s2, .int .i64 i, .int .i64 bit, .slice bp bn bc] 46) := ⟨_, rfl⟩
  obtain ⟨ob, hob⟩ : ∃ b, b = w.heap.size := ⟨_, rfl⟩
  have hb1 : Below w.heap.size w V1 := by rw [hV1]; exact (Below.refl _ _).alloc (Nat.le_refl _) _
  have hOb : Box V1 ob #[.int .i64 7, .bool s2, .int .i64 i, .int .i64 bit, .slice bp bn bc] 46 := by rw [hV1, hob]; exact Box.new _ _ _
  obtain ⟨C1, hC1⟩ : ∃ D, D = upC w C (c + 7) := ⟨_, rfl⟩
  have hX1 := (LX.refl hM hn).below hb1
  rw [← hC1] at hX1
  have HX1 := hid hX1
  have HV1 := hid hV1
  have HOb := hid hob
  have HT := hid hT
  have HO := hid hO
  have HBx := hid hOb
  have c1 := hX1.m.bx.cell 1
  have cl := hX1.m.bx.lt
  simp at c1
  have k0 := hOb.cell 0
  have kl := hOb.lt
  simp at k0
  have HAn := hid (answer_any V1.drew (Zc V1 C1 (c + 2)) rb S.R (hX1.m.r.below (Below.refl _ _).drew fun _ _ h => h) ((hX1.tab hT hO).later (Below.refl _ _).drew))
  clear hM hV1 hob hb1 hOb hC1 hX1 hT hO hn
  go_enter Tryd.func20, Tryd.ntmps20
  go_upto_region 1 with fail
  rw [← HV1.out, ← HOb.out]
  go_upto_region 33 with fail
  refine wp_region_calmE 30 (fun wx => Below V1.heap.size V1 wx) [(0, true), (1, true), (2, true), (3, true), (4, true), (5, true), (6, false)] (.one 7 false [] (.one 8 false [] .done)) (by kernel_rfl) (by kernel_rfl) (Below.refl _ _).drew ?_
  refine wpPre_e rfl rfl (fun K1 hK1 => ?_)
  apply Exists.intro
  refine And.intro (fun wx hx => ?_) ?_
  · go_simp
    try rfl
  go_simp
  refine hK1 _ ?_
  clear hK1 K1
  refine wpPre_e rfl rfl (fun K1 hK1 => ?_)
  apply Exists.intro
  refine And.intro (fun wx hx => ?_) ?_
  · go_simp
    try rfl
  go_simp
  refine hK1 _ ?_
  clear hK1 K1
  refine wpPre_e rfl rfl (fun K1 hK1 => ?_)
  apply Exists.intro
  refine And.intro (fun wx hx => ?_) ?_
  · go_simp
    try rfl
  go_simp
  refine hK1 _ ?_
  clear hK1 K1
  refine wpPre_e rfl rfl (fun K1 hK1 => ?_)
  apply Exists.intro
  refine And.intro (fun wx hx => ?_) ?_
  · go_simp
    try rfl
  go_simp
  refine hK1 _ ?_
  clear hK1 K1
  refine wpPre_e rfl rfl (fun K1 hK1 => ?_)
  apply Exists.intro
  refine And.intro (fun wx hx => ?_) ?_
  · go_simp
    try rfl
  go_simp
  refine hK1 _ ?_
  clear hK1 K1
  refine wpPre_e rfl rfl (fun K1 hK1 => ?_)
  apply Exists.intro
  refine And.intro (fun wx hx => ?_) ?_
  · go_simp
    try rfl
  go_simp
  refine hK1 _ ?_
  clear hK1 K1
  refine wpPre_e rfl rfl (fun K1 hK1 => ?_)
  apply Exists.intro
  refine And.intro (fun wx hx => ?_) ?_
  · have e0 := below_fact hx rfl c1
    go_simp
    try rfl
  go_simp
  refine hK1 _ ?_
  clear hK1 K1
  refine wpPre_nil ?_
  refine wpTr_e rfl (fun K1 hK1 => ?_)
  refine step_callG (by first | rfl | go_simp) 23 #[.tmp 166] _ rfl Tryd.f23 Tryd.func23 (by kernel_rfl) rfl #[.pointer (some ⟨rb, 0, none⟩)] rfl _ (HAn.out) ?_
  rintro e_ w2 ⟨y, rfl, hy, hyi, hb2⟩
  refine ⟨_, rfl, ?_⟩
  have hb12 : Below V1.heap.size V1 w2 := (Below.refl _ _).drew.trans (hb2.mono (Nat.le_refl _))
  obtain ⟨C2, hC2⟩ : ∃ D, D = upC V1 C1 (c + 7) := ⟨_, rfl⟩
  have hX2 := HX1.out.below hb12
  have hY2 : Tmp w2 (upC V1 C1 (c + 7)) c y := hyi.mono fun k hk _ => upC_new hk
  rw [← hC2] at hX2 hY2
  have HAd := hid (padd_any w2 (Zc w2 C2 (c + 4)) lb 3 _ 34 hX2.m.bx nv rfl N hX2.m.n hX2.m.zans zc_lt y _ hY2)
  obtain ⟨yv, hyv⟩ : ∃ v, v = y.val := ⟨_, rfl⟩
  rw [← hyv] at HAd ⊢
  have HX2 := hid hX2
  have HYz := hid hy
  clear hb2 hb12 hC2 hX2 hY2 hyi hy hyv
  go_simp
  refine hK1 _ _ (fun h => by cases h) ?_
  clear hK1 K1
  refine wpPre_nil ?_
  refine wpTr_e rfl (fun K1 hK1 => ?_)
  refine step_callG (by first | rfl | go_simp) 36 #[.tmp 162, .tmp 167] _ rfl Tryd.f36 Tryd.func36 (by kernel_rfl) rfl #[.pointer (some ⟨lb, 3, none⟩), yv] rfl _ (HAd.out) ?_
  rintro e_ w3 hq
  obtain ⟨he, v', L', hX4, _⟩ := HX2.out.ans hq
  subst he
  rw [HYz.out] at hX4
  refine ⟨_, rfl, ?_⟩
  have HX4 := hid hX4
  clear hX4 hq
  go_simp
  refine hK1 _ _ (fun h => by cases h) ?_
  clear hK1 K1
  refine wpPre_nil ?_
  refine wpTr_done ?_
  clear c1 cl k0 kl
  go_wp2
  exact bodyPost_ret (v := .bool true) (by simp [results, Tryd.results20, go_sem]) rfl ⟨rfl, HX4.out.lq⟩
end Go.Proofs.YtgnamngnmbaeeaaDoor
