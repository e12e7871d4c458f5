import Derived.Test.YtdncnnjhfipokabPack25
import Derived.Test.YtdncnnjhfipokabKrN0
namespace Go.Proofs.Ytdncnnjhfipokab
open Go.RowKit
set_option maxRecDepth 8000
/-- outside of what may change -/
def Sy (a b rb : Nat) (K : Bk) (R : Rb) : Nat → Prop := fun k => a ≤ k ∧ ¬ K.C b k ∧ ¬ R.C rb k
theorem Sy.b {α : Type} {E : El α} {W W' : World} {a b rb : Nat} {K K' : Bk} {R : Rb} {u : α} (g : SetLog W b K W' K') (h : E.In W (Sy a b rb K R) u) : E.In W' (Sy a b rb K' R) u := by
  have h1 : E.In W (fun k => Sy a b rb K' R k ∧ ¬ K.C b k) u := E.mono h fun k hk hl => ⟨⟨hk.1, (g.out hl hk.2.1).2.1, hk.2.2⟩, hk.2.1⟩
  exact E.mono (E.kept h1 g.but.size fun k hk hl => g.but.block k hl hk.2) fun k hk _ => hk.1
theorem Sy.r {α : Type} {E : El α} {W W' : World} {a b rb : Nat} {K : Bk} {R R' : Rb} {u : α} (g : RSet W rb R W' R') (h : E.In W (Sy a b rb K R) u) : E.In W' (Sy a b rb K R') u := by
  have h1 : E.In W (fun k => Sy a b rb K R' k ∧ ¬ R.C rb k) u := E.mono h fun k hk hl => ⟨⟨hk.1, hk.2.1, (g.out hl hk.2.2).2.1⟩, hk.2.2⟩
  exact E.mono (E.kept h1 g.but.size fun k hk hl => g.but.block k hl hk.2) fun k hk _ => hk.1
/-- a book and the document's beside one another -/
structure PB (w0 W : World) (b rb : Nat) (K : Bk) (R : Rb) : Prop where
  bok : Bok w0 W b K
  r : RbI W rb R
  dis : ∀ k, K.C b k → ¬ R.C rb k
  rc : ∀ k, R.C rb k → w0.heap.size ≤ k
theorem PB.bstep {w0 W W' : World} {b rb : Nat} {K K' : Bk} {R : Rb} (h : PB w0 W b rb K R) (g : SetLog W b K W' K') : PB w0 W' b rb K' R :=
  ⟨h.bok.step g, h.r.kept (fun k hk hl => g.but.block k hl (fun e => h.dis k e hk)), fun k hk e => by
    rcases g.cs k hk with h1 | h1
    · exact h.dis k h1 e
    · have := h.r.lt e; omega, h.rc⟩
theorem PB.rstep {w0 W W' : World} {b rb : Nat} {K : Bk} {R R' : Rb} (h : PB w0 W b rb K R) (g : RSet W rb R W' R') : PB w0 W' b rb K R' :=
  ⟨⟨h.bok.i.kept (fun k hk hl => g.but.block k hl (h.dis k hk)), h.bok.bel.trans (g.but.below h.bok.bel.size (fun k hk e => by have := h.rc k e; omega)), h.bok.c⟩, g.inv, fun k hk e => by
    rcases g.cs k e with h1 | h1
    · exact h.dis k hk h1
    · have := h.bok.i.lt hk; omega, fun k hk => by
    rcases g.cs k hk with h1 | h1
    · exact h.rc k h1
    · exact Nat.le_trans h.bok.bel.size h1⟩
theorem PB.below {w0 W W' : World} {b rb : Nat} {K : Bk} {R : Rb} (h : PB w0 W b rb K R) (g : Below W.heap.size W W') : PB w0 W' b rb K R := h.bstep (SetLog.same h.bok.i g)
/-- what both hold lies apart from what changes -/
structure PMk (a : Nat) (w : World) (b rb : Nat) (K : Bk) (R : Rb) : Prop where
  kl : ∀ p, p < 4 → ∀ j, j < (K.lg p).n → RT.In w (Sy a b rb K R) ((K.lg p).item j)
  kc : LT.In elCell w (Sy a b rb K R) K.cl
  kp : LT.In elRec w (Sy a b rb K R) K.pd
structure PM (a : Nat) (w : World) (b rb : Nat) (K : Bk) (R : Rb) : Prop where
  k : PMk a w b rb K R
  td : ∀ j, j < R.ls.n → TD.In w (Sy a b rb K R) (R.ls.item j)
theorem PM.ts {a : Nat} {W W' : World} {b rb : Nat} {K K' : Bk} {R : Rb} (m : PM a W b rb K R) (g : SetLog W b K W' K') : ∀ j, j < R.ls.n → TD.In W' (Sy a b rb K' R) (R.ls.item j) := fun j hj => Sy.b (E := elTd) g (m.td j hj)
theorem PM.ks {a : Nat} {W W' : World} {b rb : Nat} {K : Bk} {R R' : Rb} (m : PM a W b rb K R) (g : RSet W rb R W' R') : PMk a W' b rb K R' :=
  ⟨fun p hp j hj => Sy.r (E := elRec) g (m.k.kl p hp j hj), Sy.r (E := elCells) g m.k.kc, Sy.r (E := elRecs) g m.k.kp⟩
theorem Sy.new {w0 W : World} {b rb : Nat} {K : Bk} {R : Rb} (h : PB w0 W b rb K R) {k : Nat} {K' : Bk} (hk : W.heap.size ≤ k ∧ ¬ K'.C b k) : Sy w0.heap.size b rb K' R k :=
  ⟨Nat.le_trans h.bok.bel.size hk.1, hk.2, fun e => by have := h.r.lt e; omega⟩
theorem Sy.newR {w0 W : World} {b rb : Nat} {K : Bk} {R : Rb} (h : PB w0 W b rb K R) {k : Nat} {R' : Rb} (hk : W.heap.size ≤ k ∧ ¬ R'.C rb k) : Sy w0.heap.size b rb K R' k :=
  ⟨Nat.le_trans h.bok.bel.size hk.1, fun e => by have := h.bok.i.lt e; omega, hk.2⟩
theorem PM.below {w0 W W' : World} {b rb : Nat} {K : Bk} {R : Rb} (m : PM w0.heap.size W b rb K R) (h : PB w0 W b rb K R) (g : Below W.heap.size W W') : PM w0.heap.size W' b rb K R :=
  ⟨m.ks (RSet.same h.r g), m.ts (SetLog.same h.bok.i g)⟩
theorem PM.took {x : Int} {r : RT} {w0 W W' : World} {b rb : Nat} {K K' : Bk} {R : Rb} (m : PM w0.heap.size W b rb K R) (h : PB w0 W b rb K R) (q : TookQ x r W b K W' K') : PM w0.heap.size W' b rb K' R := by
  refine PM.mk ?_ (m.ts q.s)
  have g := q.s
  rcases e : K.lays x with _ | _
  · rw [q.n e] at g ⊢
    exact ⟨fun p hp j hj => Sy.b (E := elRec) g (m.k.kl p hp j hj), Sy.b (E := elCells) g m.k.kc, Sy.b (E := elRecs) g m.k.kp⟩
  · obtain ⟨u, p, c, hal, hin, rfl⟩ := q.y e
    refine ⟨fun p1 hp j hj => ?_, Sy.b (E := elCells) (u := K.cl) g m.k.kc, Sy.b (E := elRecs) (u := K.pd) g m.k.kp⟩
    have hu := hin.mono (S' := Sy w0.heap.size b rb (K.setLog x.toNat ((K.lg x.toNat).push p c u)) R) fun k hk _ => Sy.new h hk
    simp only [Bk.setLog] at hj ⊢
    by_cases h1 : p1 = x.toNat
    · subst h1
      rw [if_pos rfl] at hj ⊢
      simp only [LT.push] at hj ⊢
      by_cases h2 : j < (K.lg x.toNat).n
      · rw [if_pos h2]; exact Sy.b (E := elRec) g (m.k.kl _ hp j h2)
      · rw [if_neg h2]; exact hu
    · rw [if_neg h1] at hj ⊢
      exact Sy.b (E := elRec) g (m.k.kl _ hp j hj)
theorem PM.begin {w0 W W' : World} {b rb : Nat} {K : Bk} {R : Rb} {id : Int} (m : PM w0.heap.size W b rb K R) (g : SetLog W b K W' (K.base id)) : PM w0.heap.size W' b rb (K.base id) R := by
  refine PM.mk ?_ (m.ts g)
  by_cases h : K.now < id
  · have e : K.base id = K.begin id := by rw [Bk.base, if_pos h]
    rw [e] at g ⊢
    exact ⟨fun p hp j hj => absurd hj (Nat.not_lt_zero _), LT.In.none_ _ _ _ _ _ _ (Nat.zero_le _) (fun _ => rfl), LT.In.none_ _ _ _ _ _ _ (Nat.zero_le _) (fun _ => rfl)⟩
  · have e : K.base id = K := by rw [Bk.base, if_neg h]
    rw [e] at g ⊢
    exact ⟨fun p hp j hj => Sy.b (E := elRec) g (m.k.kl p hp j hj), Sy.b (E := elCells) g m.k.kc, Sy.b (E := elRecs) g m.k.kp⟩
theorem PM.mark {x id : Int} {a : LT RT} {num : Int} {l : LT VT} {q : LT RT} {w0 W W' : World} {b rb : Nat} {K K' : Bk} {R : Rb} {r : Bool} (m : PM w0.heap.size W b rb K R) (h : PB w0 W b rb K R) (y : MarkQ x id a num l q W b K W' K' r) : PM w0.heap.size W' b rb K' R := by
  have g := y.s
  rcases e : K.marks x id with _ | _
  · rw [(y.n e).1] at g ⊢
    exact PM.mk ⟨fun p hp j hj => Sy.b (E := elRec) g (m.k.kl p hp j hj), Sy.b (E := elCells) g m.k.kc, Sy.b (E := elRecs) g m.k.kp⟩ (m.ts g)
  · obtain ⟨w1, g1, hr, hQ⟩ := y.y e
    have m1 := m.begin g1
    have h1 := h.bstep g1
    have g2 := hQ.b.s
    refine PM.mk ⟨fun p hp j hj => ?_, ?_, ?_⟩ (m1.ts g2)
    · by_cases hpi : p = x.toNat
      · by_cases h3 : (K.base id).mode = 3
        · obtain ⟨mm, pp, cc, e1, _, e3⟩ := hQ.b.lg3 h3
          subst hpi
          rw [e1] at hj ⊢
          simp only [LT.join] at hj ⊢
          by_cases h2 : j < ((K.base id).lg x.toNat).n
          · rw [if_pos h2]; exact Sy.b (E := elRec) g2 (m1.k.kl _ hp j h2)
          · rw [if_neg h2]; exact (e3 _ (by omega)).mono fun k hk _ => Sy.new h1 hk
        · subst hpi
          rw [hQ.b.lgi h3] at hj ⊢
          exact Sy.b (E := elRec) g2 (m1.k.kl _ hp j hj)
      · rw [hQ.b.lgo p hpi] at hj ⊢
        exact Sy.b (E := elRec) g2 (m1.k.kl _ hp j hj)
    · rcases hc : (K.base id).shutR x.toNat with _ | _
      · rw [(hQ.b.ncp hc).2.1]; exact Sy.b (E := elCells) g2 m1.k.kc
      · exact (hQ.b.cpd hc).2.2.2.1.mono fun k hk _ => Sy.new h1 hk
    · rcases hc : (K.base id).shutR x.toNat with _ | _
      · rw [(hQ.b.ncp hc).2.2]; exact Sy.b (E := elRecs) g2 m1.k.kp
      · exact (hQ.b.cpd hc).2.2.2.2.mono fun k hk _ => Sy.new h1 hk
theorem PM.part {w0 W W' : World} {b rb : Nat} {K : Bk} {R : Rb} (m : PM w0.heap.size W b rb K R) (g : SetLog W b K W' K.part) : PM w0.heap.size W' b rb K.part R :=
  PM.mk ⟨fun _ _ _ hj => absurd hj (Nat.not_lt_zero _), LT.In.none_ _ _ _ _ _ _ (Nat.zero_le _) (fun _ => rfl), LT.In.none_ _ _ _ _ _ _ (Nat.zero_le _) (fun _ => rfl)⟩ (m.ts g)
theorem PM.rtook {x : Int} {r : RT} {w0 W W' : World} {b rb : Nat} {K : Bk} {R R' : Rb} (m : PM w0.heap.size W b rb K R) (h : PB w0 W b rb K R) (q : RTookQ x r W rb R W' R') : PM w0.heap.size W' b rb K R' := by
  refine ⟨m.ks q.s, fun j hj => ?_⟩
  have g := q.s
  by_cases e : R.tookE x = 0 ∧ 0 < R.ls.n
  · obtain ⟨u, pp, c, _, hin, rfl⟩ := q.y e.1 e.2
    rcases Nat.lt_or_ge j R.ls.n with h1 | h1
    · rw [Rb.push_item h1]; exact Sy.r (E := elTd) g (m.td j h1)
    · have hj' : j < R.ls.n + 1 := hj
      rw [show j = R.ls.n by omega, Rb.push_last]
      exact elTd.mono hin fun k hk _ => Sy.newR h hk
  · have hR : R' = R := q.n (by
      by_cases h1 : R.tookE x = 0
      · right; by_cases h2 : 0 < R.ls.n
        · exact absurd ⟨h1, h2⟩ e
        · omega
      · exact .inl h1)
    rw [hR] at g hj ⊢
    exact Sy.r (E := elTd) g (m.td j hj)
theorem PM.rmark {x id : Int} {a : LT RT} {num : Int} {l : LT VT} {q : LT RT} {w0 W W' : World} {b rb : Nat} {K : Bk} {R R' : Rb} {r : Bool} (m : PM w0.heap.size W b rb K R) (h : PB w0 W b rb K R) (y : RMarkQ x id a num l q W rb R W' R' r) : PM w0.heap.size W' b rb K R' := by
  refine ⟨m.ks y.s, fun j hj => ?_⟩
  have g := y.s
  by_cases e : R.refE x id = 0 ∧ ¬ R.skip x id
  · obtain ⟨a1, l1, q1, pp, c, _, _, _, hin, rfl, _⟩ := y.y e.1 e.2
    have hb : (R.base id).ls.n = 0 ∨ R.base id = R := by
      unfold Rb.base
      split
      · exact .inl rfl
      · exact .inr rfl
    rcases Nat.lt_or_ge j (R.base id).ls.n with h1 | h1
    · rcases hb with hb | hb
      · omega
      · rw [Rb.push_item h1]
        have h2 : j < R.ls.n := by rw [← hb]; exact h1
        have h3 := Sy.r (E := elTd) g (m.td j h2)
        rw [show (R.base id).ls.item j = R.ls.item j by rw [hb]]
        exact h3
    · have hj' : j < (R.base id).ls.n + 1 := hj
      rw [show j = (R.base id).ls.n by omega, Rb.push_last]
      exact elTd.mono hin fun k hk _ => Sy.newR h hk
  · have hR : R' = R := (y.n (by
      by_cases h1 : R.refE x id = 0
      · right; by_cases h2 : R.skip x id
        · exact h2
        · exact absurd ⟨h1, h2⟩ e
      · exact .inl h1)).1
    rw [hR] at g hj ⊢
    exact Sy.r (E := elTd) g (m.td j hj)
theorem PM.rpart {w0 W W' : World} {b rb : Nat} {K : Bk} {R R' : Rb} (m : PM w0.heap.size W b rb K R) (g : RSet W rb R W' R') (hls : R'.ls = R.ls) : PM w0.heap.size W' b rb K R' :=
  ⟨m.ks g, fun j hj => by rw [hls] at hj ⊢; exact Sy.r (E := elTd) g (m.td j hj)⟩
theorem PM.bsame {w0 W W' : World} {b rb : Nat} {K : Bk} {R : Rb} (m : PM w0.heap.size W b rb K R) (g : SetLog W b K W' K) : PM w0.heap.size W' b rb K R :=
  ⟨⟨fun p hp j hj => Sy.b (E := elRec) g (m.k.kl p hp j hj), Sy.b (E := elCells) g m.k.kc, Sy.b (E := elRecs) g m.k.kp⟩, m.ts g⟩
/-- the sizes -/
def TdS (R : Rb) : Prop := ∀ j, j < R.ls.n → TdSz (R.ls.item j)
theorem TdS.took {x : Int} {r : RT} {W W' : World} {rb : Nat} {R R' : Rb} (m : TdS R) (hr : r.size ≤ 10000) (q : RTookQ x r W rb R W' R') : TdS R' ∧ R'.ls.n ≤ R.ls.n + 1 := by
  by_cases e : R.tookE x = 0 ∧ 0 < R.ls.n
  · obtain ⟨u, pp, c, hal, _, rfl⟩ := q.y e.1 e.2
    refine ⟨fun j hj => ?_, Nat.le_refl _⟩
    rcases Nat.lt_or_ge j R.ls.n with h1 | h1
    · rw [Rb.push_item h1]; exact m j h1
    · have hj' : j < R.ls.n + 1 := hj
      rw [show j = R.ls.n by omega, Rb.push_last]
      exact ⟨fun _ => by show u.size ≤ _; rw [hal.size]; exact hr, ⟨Nat.zero_le _, fun _ h => absurd h (Nat.not_lt_zero _)⟩, ⟨Nat.zero_le _, fun _ h => absurd h (Nat.not_lt_zero _)⟩, ⟨Nat.zero_le _, fun _ h => absurd h (Nat.not_lt_zero _)⟩⟩
  · have hR : R' = R := q.n (by
      by_cases h1 : R.tookE x = 0
      · right; by_cases h2 : 0 < R.ls.n
        · exact absurd ⟨h1, h2⟩ e
        · omega
      · exact .inl h1)
    rw [hR]; exact ⟨m, by omega⟩
theorem TdS.mark {x id : Int} {a : LT RT} {num : Int} {l : LT VT} {q : LT RT} {W W' : World} {rb : Nat} {R R' : Rb} {r : Bool} (m : TdS R) (sa : SzR a) (sl : SzC l) (sq : SzR q) (hid : R.refE x id = 0 → ¬ id = 0) (y : RMarkQ x id a num l q W rb R W' R' r) : TdS R' ∧ R'.ls.n ≤ R.ls.n + 1 := by
  by_cases e : R.refE x id = 0 ∧ ¬ R.skip x id
  · obtain ⟨a1, l1, q1, pp, c, ha, hl, hq, _, rfl, _⟩ := y.y e.1 e.2
    have hb : (R.base id).ls.n = 0 ∨ R.base id = R := by
      unfold Rb.base
      split
      · exact .inl rfl
      · exact .inr rfl
    refine ⟨fun j hj => ?_, ?_⟩
    · rcases Nat.lt_or_ge j (R.base id).ls.n with h1 | h1
      · rcases hb with hb | hb
        · omega
        · rw [Rb.push_item h1, hb]
          exact m j (by rw [← hb]; exact h1)
      · have hj' : j < (R.base id).ls.n + 1 := hj
        rw [show j = (R.base id).ls.n by omega, Rb.push_last]
        exact ⟨fun h => absurd h (hid e.1), sa.alk ha, sl.alk hl, sq.alk hq⟩
    · show (R.base id).ls.n + 1 ≤ _
      rcases hb with hb | hb
      · omega
      · rw [hb]; exact Nat.le_refl _
  · have hR : R' = R := (y.n (by
      by_cases h1 : R.refE x id = 0
      · right; by_cases h2 : R.skip x id
        · exact h2
        · exact absurd ⟨h1, h2⟩ e
      · exact .inl h1)).1
    rw [hR]; exact ⟨m, by omega⟩
/-- the ports are ports -/
def PtS (R : Rb) : Prop := ∀ j, j < R.ls.n → 0 ≤ (R.ls.item j).port ∧ (R.ls.item j).port < R.ports
theorem PtS.took {x : Int} {r : RT} {W W' : World} {rb : Nat} {R R' : Rb} (m : PtS R) (q : RTookQ x r W rb R W' R') : PtS R' := by
  by_cases e : R.tookE x = 0 ∧ 0 < R.ls.n
  · obtain ⟨u, pp, c, hal, _, rfl⟩ := q.y e.1 e.2
    intro j hj
    rcases Nat.lt_or_ge j R.ls.n with h1 | h1
    · rw [Rb.push_item h1]; exact m j h1
    · have hj' : j < R.ls.n + 1 := hj
      rw [show j = R.ls.n by omega, Rb.push_last]
      have h2 := e.1
      unfold Rb.tookE at h2
      by_cases h3 : x < 0 ∨ R.ports ≤ x
      · rw [if_pos h3] at h2; cases h2
      · show 0 ≤ x ∧ x < R.ports; omega
  · have hR : R' = R := q.n (by
      by_cases h1 : R.tookE x = 0
      · right; by_cases h2 : 0 < R.ls.n
        · exact absurd ⟨h1, h2⟩ e
        · omega
      · exact .inl h1)
    rw [hR]; exact m
theorem PtS.mark {x id : Int} {a : LT RT} {num : Int} {l : LT VT} {q : LT RT} {W W' : World} {rb : Nat} {R R' : Rb} {r : Bool} (m : PtS R) (y : RMarkQ x id a num l q W rb R W' R' r) : PtS R' := by
  by_cases e : R.refE x id = 0 ∧ ¬ R.skip x id
  · obtain ⟨a1, l1, q1, pp, c, ha, hl, hq, _, rfl, _⟩ := y.y e.1 e.2
    have hb : ((R.base id).ls.n = 0 ∧ (R.base id).ports = R.ports) ∨ R.base id = R := by
      unfold Rb.base
      split
      · exact .inl ⟨rfl, rfl⟩
      · exact .inr rfl
    intro j hj
    rcases Nat.lt_or_ge j (R.base id).ls.n with h1 | h1
    · rcases hb with hb | hb
      · omega
      · rw [Rb.push_item h1, hb]
        exact m j (by rw [← hb]; exact h1)
    · have hj' : j < (R.base id).ls.n + 1 := hj
      rw [show j = (R.base id).ls.n by omega, Rb.push_last]
      have h2 := e.1
      unfold Rb.refE at h2
      by_cases h3 : x < 0 ∨ R.ports ≤ x
      · rw [if_pos h3] at h2; cases h2
      · show 0 ≤ x ∧ x < (R.base id).ports
        rcases hb with hb | hb
        · rw [hb.2]; omega
        · rw [hb]; omega
  · have hR : R' = R := (y.n (by
      by_cases h1 : R.refE x id = 0
      · right; by_cases h2 : R.skip x id
        · exact h2
        · exact absurd ⟨h1, h2⟩ e
      · exact .inl h1)).1
    rw [hR]; exact m
theorem PtS.cl {R : Rb} (m : PtS R) {x : Int} (h : x < 0 ∨ R.ports ≤ x) : R.cl x = -1 := by
  refine cln_none fun j hj => ?_
  have := m j hj
  unfold Rb.hit
  have h2 : ¬ (R.ls.item j).port = x := by omega
  simp [h2]
/-- what a call of both changes -/
structure PSet (w : World) (b rb : Nat) (K : Bk) (R : Rb) (w' : World) (K' : Bk) (R' : Rb) : Prop where
  but : But (fun k => K.C b k ∨ R.C rb k) w w'
  ck : ∀ k, K'.C b k → K.C b k ∨ w.heap.size ≤ k
  cr : ∀ k, R'.C rb k → R.C rb k ∨ w.heap.size ≤ k
theorem PSet.bel {w w' : World} {b rb : Nat} {K : Bk} {R : Rb} (g : Below w.heap.size w w') : PSet w b rb K R w' K R := ⟨But.ofBelow g, fun _ h => .inl h, fun _ h => .inl h⟩
theorem PSet.ofB {w w' : World} {b rb : Nat} {K K' : Bk} {R : Rb} (g : SetLog w b K w' K') : PSet w b rb K R w' K' R := ⟨g.but.mono fun _ _ h => .inl h, g.cs, fun _ h => .inl h⟩
theorem PSet.ofR {w w' : World} {b rb : Nat} {K : Bk} {R R' : Rb} (g : RSet w rb R w' R') : PSet w b rb K R w' K R' := ⟨g.but.mono fun _ _ h => .inr h, fun _ h => .inl h, g.cs⟩
theorem PSet.trans {w w1 w2 : World} {b rb : Nat} {K K1 K2 : Bk} {R R1 R2 : Rb} (h : PSet w b rb K R w1 K1 R1) (g : PSet w1 b rb K1 R1 w2 K2 R2) : PSet w b rb K R w2 K2 R2 := by
  refine ⟨⟨g.but.os.trans h.but.os, g.but.tape.trans h.but.tape, g.but.output.trans h.but.output, Nat.le_trans h.but.size g.but.size, fun k hl hn => ?_⟩, fun k hk => ?_, fun k hk => ?_⟩
  · refine (g.but.block k (Nat.lt_of_lt_of_le hl h.but.size) (fun e => ?_)).trans (h.but.block k hl hn)
    rcases e with e | e
    · rcases h.ck k e with h1 | h1
      · exact hn (.inl h1)
      · omega
    · rcases h.cr k e with h1 | h1
      · exact hn (.inr h1)
      · omega
  · rcases g.ck k hk with h1 | h1
    · exact h.ck k h1
    · exact .inr (Nat.le_trans h.but.size h1)
  · rcases g.cr k hk with h1 | h1
    · exact h.cr k h1
    · exact .inr (Nat.le_trans h.but.size h1)
/-- all that is known of a pair -/
structure PJ (w0 W : World) (b rb N m : Nat) (K : Bk) (R : Rb) : Prop where
  pb : PB w0 W b rb K R
  pm : PM w0.heap.size W b rb K R
  ep : EP N K R
  n4 : N ≤ 4
  po : K.ports = (N : Int)
  lg : LgN K (10000 * m)
  rn : R.ls.n ≤ m
  sz : TdS R
  pt : PtS R
theorem PJ.below {w0 W W' : World} {b rb N m : Nat} {K : Bk} {R : Rb} (h : PJ w0 W b rb N m K R) (g : Below W.heap.size W W') : PJ w0 W' b rb N m K R := ⟨h.pb.below g, h.pm.below h.pb g, h.ep, h.n4, h.po, h.lg, h.rn, h.sz, h.pt⟩
theorem PJ.more {w0 W : World} {b rb N m k : Nat} {K : Bk} {R : Rb} (h : PJ w0 W b rb N m K R) (hk : m ≤ k) : PJ w0 W b rb N k K R := ⟨h.pb, h.pm, h.ep, h.n4, h.po, h.lg.le (by omega), Nat.le_trans h.rn hk, h.sz, h.pt⟩
end Go.Proofs.Ytdncnnjhfipokab

namespace Go.Proofs.Ytdncnnjhfipokab
open Go.RowKit
set_option maxRecDepth 8000
theorem EP.fresh (N : Nat) (mode ports back : Int) : EP N (Bk.fresh mode ports back) (Rb.fresh mode ports back) := by
  have hcl : ∀ p : Int, (Rb.fresh mode ports back).cl p = -1 := fun _ => rfl
  have hcp : (Rb.fresh mode ports back).cp = -1 := if_pos rfl
  exact ⟨rfl, rfl, rfl, rfl, fun p _ => by rw [hcl]; simp [Bk.fresh], fun p _ => by rw [hcl]; simp [Bk.fresh], by rw [hcp]; rfl, fun h => (by cases h), fun _ _ _ => rfl, fun h => (by rw [hcp] at h; omega), fun h => (by rw [hcp] at h; omega)⟩
structure BeginP (mode ports back : Int) (w0 W : World) (pb : Nat) (e : Ending) (w' : World) : Prop where
  e_ : e = .returned (.bool true)
  but : But (fun k => k = pb) W w'
  y : legalB mode ports back = true → ∃ (N : Nat) (b rb : Nat), ports = (N : Int) ∧ W.heap.size ≤ b ∧ W.heap.size ≤ rb ∧ b < w'.heap.size ∧ rb < w'.heap.size ∧ Box w' pb #[.pointer (some ⟨b, 0, none⟩), .pointer (some ⟨rb, 0, none⟩)] 29 ∧ PJ w0 w' b rb N 0 (Bk.fresh mode ports back) (Rb.fresh mode ports back)
  n : legalB mode ports back = false → Box w' pb #[.pointer none, .pointer none] 29
set_option maxHeartbeats 4000000 in
theorem begin_pair (mode ports back : Int) (w0 W : World) (pb : Nat) (hbel : Below w0.heap.size w0 W) (hpb : w0.heap.size ≤ pb) (hX : Box W pb #[.pointer none, .pointer none] 29) :
    Calls Try.prog 8 #[.pointer (some ⟨pb, 0, none⟩), .int .i64 mode, .int .i64 ports, .int .i64 back] W fun e w' => BeginP mode ports back w0 W pb e w' := by
  have HX := hid hX
  have HB := hid hbel
  have x0 := hX.cell 0
  have x1 := hX.cell 1
  have f0 := hX.frozen 0
  have f1 := hX.frozen 1
  have xl := hX.lt
  simp at x0 x1
  have HR := hid (rnew_any mode ports back W)
  clear hX hbel
  rcases hlg : legalB mode ports back with _ | _
  · have HLg := hid hlg
    have HN := hid (new_ex mode ports back W)
    clear hlg
    go_enter Try.func8, Try.ntmps8
    go_wp2_with (first | (go_at_call 11; refine HR.out.mono ?_; rintro e w1 hq; obtain ⟨hw1, rfl⟩ := hq.2 HLg.out; rw [hw1]; clear hw1 hq w1) | (go_at_call 12; refine HN.out.mono ?_; rintro e w1 hq; obtain ⟨hw1, rfl⟩ := hq.2 HLg.out; rw [hw1]; clear hw1 hq w1) | (go_at_call 13; refine (num_any _ _).mono ?_; rintro e w5 ⟨rfl, hw5⟩; rw [hw5]; clear hw5 w5))
    refine bodyPost_ret (v := .bool true) (by simp [results, Try.results8, go_sem]) rfl ?_
    have hbt := ((But.one W pb).setAt 0 (.pointer none)).setAt 1 (.pointer none)
    exact ⟨rfl, hbt, fun h => (by rw [HLg.out] at h; cases h), fun _ => (HX.out.set 0 (.pointer none)).set 1 (.pointer none)⟩
  have HLg := hid hlg
  have hm := of_decide_eq_true hlg
  obtain ⟨N, rfl⟩ : ∃ N : Nat, ports = (N : Int) := ⟨ports.toNat, by omega⟩
  have hN4 : N ≤ 4 := by omega
  obtain ⟨W1, hW1⟩ : ∃ x, x = W.alloc (.cells (Rb.fresh mode N back).arr 76) := ⟨_, rfl⟩
  have HN := hid (new_ex mode N back W1)
  have b1 : Below W.heap.size W W1 := by rw [hW1]; exact (Below.refl _ _).alloc (Nat.le_refl _) _
  have hs1 : W1.heap.size = W.heap.size + 1 := by rw [hW1]; simp
  obtain ⟨W2, hW2⟩ : ∃ x, x = W1.alloc (.cells (Bk.fresh mode N back).arr 83) := ⟨_, rfl⟩
  have b2 : Below W1.heap.size W1 W2 := by rw [hW2]; exact (Below.refl _ _).alloc (Nat.le_refl _) _
  have hs2 : W2.heap.size = W.heap.size + 2 := by rw [hW2]; simp [hs1]
  have hX2 := (HX.out.below b1).below b2
  have HX2 := hid hX2
  have hK : BkI W2 (W.heap.size + 1) (Bk.fresh mode N back) := by rw [hW2, ← hs1]; exact new_inv mode N back W1 hlg
  have hR1 : RbI W1 W.heap.size (Rb.fresh mode N back) := by rw [hW1]; exact ⟨Box.new _ _ _, World.ownsRow_nil _ _ _ _, fun e => (by cases e)⟩
  have HP : Hid (∀ w', But (fun k => k = pb) W2 w' → PJ w0 w' (W.heap.size + 1) W.heap.size N 0 (Bk.fresh mode N back) (Rb.fresh mode N back)) := by
    intro w' hbt
    have hKC : ∀ k, (Bk.fresh mode N back).C (W.heap.size + 1) k → k = W.heap.size + 1 := fun k hk => by
      rcases hk with e | ⟨j, _, e⟩
      · exact e
      · cases e
    have hRC : ∀ k, (Rb.fresh mode N back).C W.heap.size k → k = W.heap.size := fun k hk => by
      rcases hk with e | e
      · exact e
      · cases e
    have hw := HB.out.size
    have hbl : Below w0.heap.size w0 W2 := (HB.out.trans (b1.mono HB.out.size)).trans (b2.mono (by omega))
    refine ⟨⟨⟨hK.kept (fun k hk hl => hbt.block k hl (by have := hKC k hk; omega)), hbl.trans (hbt.below hbl.size (fun k hk e => by omega)), fun k hk => by have := hKC k hk; omega⟩, (hR1.below b2).kept (fun k hk hl => hbt.block k hl (by have := hRC k hk; omega)), fun k hk e => by have := hKC k hk; have := hRC k e; omega, fun k hk => by have := hRC k hk; omega⟩, ⟨⟨fun _ _ _ h => absurd h (Nat.not_lt_zero _), LT.In.none_ _ _ _ _ _ _ (Nat.zero_le _) (fun _ => rfl), LT.In.none_ _ _ _ _ _ _ (Nat.zero_le _) (fun _ => rfl)⟩, fun _ h => absurd h (Nat.not_lt_zero _)⟩, EP.fresh _ _ _ _, hN4, rfl, fun _ _ => Nat.zero_le _, Nat.zero_le _, fun _ h => absurd h (Nat.not_lt_zero _), fun _ h => absurd h (Nat.not_lt_zero _)⟩
  have x0 := hX2.cell 0
  have x1 := hX2.cell 1
  have f0 := hX2.frozen 0
  have f1 := hX2.frozen 1
  have xl2 := hX2.lt
  simp at x0 x1
  have HW1 := hid hW1
  have HW2 := hid hW2
  have HS1 := hid hs1
  clear hlg hX2 hK hR1 hW1 hW2 hs1
  go_enter Try.func8, Try.ntmps8
  go_wp2_with (first | (go_at_call 11; refine HR.out.mono ?_; rintro e w1 hq; obtain ⟨rfl, hw1⟩ := hq.1 HLg.out; rw [hw1, ← HW1.out]; clear hw1 hq w1) | (go_at_call 12; refine HN.out.mono ?_; rintro e w1 hq; obtain ⟨rfl, hw1⟩ := hq.1 HLg.out; rw [hw1, ← HW2.out, HS1.out]; clear hw1 hq w1) | (go_at_call 13; refine (num_any _ _).mono ?_; rintro e w5 ⟨rfl, hw5⟩; rw [hw5]; clear hw5 w5))
  refine bodyPost_ret (v := .bool true) (by simp [results, Try.results8, go_sem]) rfl ?_
  have hbt := ((But.one W2 pb).setAt 0 (.pointer (some ⟨W.heap.size + 1, 0, none⟩))).setAt 1 (.pointer (some ⟨W.heap.size, 0, none⟩))
  have hsz := hbt.size
  have hs1 := HS1.out
  exact ⟨rfl, (((But.ofBelow b1).trans (But.ofBelow b2)).trans hbt), fun _ => ⟨N, W.heap.size + 1, W.heap.size, rfl, by omega, by omega, by omega, by omega, (HX2.out.set 0 _).set 1 _, HP.out _ hbt⟩, fun h => (by rw [HLg.out] at h; cases h)⟩
end Go.Proofs.Ytdncnnjhfipokab
