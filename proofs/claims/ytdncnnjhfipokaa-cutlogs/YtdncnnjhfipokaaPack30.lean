import Derived.Test.YtdncnnjhfipokaaPack26
import Derived.Test.YtdncnnjhfipokaaPack28
import Derived.Test.YtdncnnjhfipokaaKcR
namespace Go.Proofs.Ytdncnnjhfipokaa
open Go.RowKit
set_option maxRecDepth 8000
/-- a book and a view beside one another -/
structure BV (w0 W : World) (b vb : Nat) (K : Bk) (V : Vw) : Prop where
  bok : Bok w0 W b K
  v : VwI W vb V
  dis : ∀ k, K.C b k → ¬ V.C vb k
  vc : ∀ k, V.C vb k → w0.heap.size ≤ k
theorem BV.bstep {w0 W W' : World} {b vb : Nat} {K K' : Bk} {V : Vw} (h : BV w0 W b vb K V) (g : SetLog W b K W' K') : BV w0 W' b vb K' V :=
  ⟨h.bok.step g, h.v.kept (fun k hk hl => g.but.block k hl (fun e => h.dis k e hk)), fun k hk e => by
    rcases g.cs k hk with h1 | h1
    · exact h.dis k h1 e
    · have := h.v.lt e; omega, h.vc⟩
theorem BV.vstep {w0 W W' : World} {b vb : Nat} {K : Bk} {V V' : Vw} (h : BV w0 W b vb K V) (g : VSet W vb V W' V') : BV w0 W' b vb K V' :=
  ⟨⟨h.bok.i.kept (fun k hk hl => g.but.block k hl (h.dis k hk)), h.bok.bel.trans (g.but.below h.bok.bel.size (fun k hk e => by have := h.vc k e; omega)), h.bok.c⟩, g.inv, fun k hk e => by
    rcases g.cs k e with h1 | h1
    · exact h.dis k hk h1
    · have := h.bok.i.lt hk; omega, fun k hk => by
    rcases g.cs k hk with h1 | h1
    · exact h.vc k h1
    · exact Nat.le_trans h.bok.bel.size h1⟩
theorem BV.below {w0 W W' : World} {b vb : Nat} {K : Bk} {V : Vw} (h : BV w0 W b vb K V) (g : Below W.heap.size W W') : BV w0 W' b vb K V := h.bstep (SetLog.same h.bok.i g)
/-- the view's logs are not too long -/
def VLn (V : Vw) (N : Nat) : Prop := ∀ i, i < 4 → (V.lg i).n ≤ N
theorem VLn.le {V : Vw} {N M : Nat} (h : VLn V N) (hm : N ≤ M) : VLn V M := fun i hi => Nat.le_trans (h i hi) hm
theorem VLn.sees {o : OpT} {x : Bool} {mode : Int} {i : Nat} {w w' : World} {vb : Nat} {V V' : Vw} {N : Nat} (h : VLn V N) (sa : SzR o.a) (s : SeesQ o x mode i w vb V w' V') : VLn V' (N + 10000) := by
  intro j hj
  have h0 := h j hj
  rcases e : V.skips o i with _ | _
  · have hb : ((V.base o.id).lg j).n ≤ N := by
      unfold Vw.base
      split
      · exact Nat.zero_le _
      · exact h0
    by_cases hx : j = i
    · subst hx
      by_cases h3 : mode = 3
      · obtain ⟨m, p, c, e1, e2, _⟩ := s.lg3 e h3
        rw [e1]
        have := e2.n
        have := sa.n
        simp only [LT.join]; omega
      · rw [s.lgi e h3]; omega
    · rw [s.lgo e j hx]; omega
  · rw [s.sk e]; omega
theorem Vw.start (w : World) (vb : Nat) (h : vb = w.heap.size) : VwI (w.alloc (.cells (Vw.fresh 0).arr 59)) vb (Vw.fresh 0) := by
  subst h
  exact ⟨Box.new _ _ _, fun i _ => World.ownsRow_nil _ _ _ _, fun i _ e => (by cases e), fun i j _ _ _ k hk => (by cases hk)⟩
end Go.Proofs.Ytdncnnjhfipokaa

namespace Go.Proofs.Ytdncnnjhfipokaa
open Go.RowKit
set_option maxRecDepth 8000
/-- outside of what may change -/
def Sx (a b vb : Nat) (K : Bk) (V : Vw) : Nat → Prop := fun k => a ≤ k ∧ ¬ K.C b k ∧ ¬ V.C vb k
theorem Sx.b {α : Type} {E : El α} {W W' : World} {a b vb : Nat} {K K' : Bk} {V : Vw} {u : α} (g : SetLog W b K W' K') (h : E.In W (Sx a b vb K V) u) : E.In W' (Sx a b vb K' V) u := by
  have h1 : E.In W (fun k => Sx a b vb K' V k ∧ ¬ K.C b k) u := E.mono h fun k hk hl => ⟨⟨hk.1, (g.out hl hk.2.1).2.1, hk.2.2⟩, hk.2.1⟩
  exact E.mono (E.kept h1 g.but.size fun k hk hl => g.but.block k hl hk.2) fun k hk _ => hk.1
theorem Sx.v {α : Type} {E : El α} {W W' : World} {a b vb : Nat} {K : Bk} {V V' : Vw} {u : α} (g : VSet W vb V W' V') (h : E.In W (Sx a b vb K V) u) : E.In W' (Sx a b vb K V') u := by
  have h1 : E.In W (fun k => Sx a b vb K V' k ∧ ¬ V.C vb k) u := E.mono h fun k hk hl => ⟨⟨hk.1, hk.2.1, (g.out hl hk.2.2).2.1⟩, hk.2.2⟩
  exact E.mono (E.kept h1 g.but.size fun k hk hl => g.but.block k hl hk.2) fun k hk _ => hk.1
/-- what the book and the view hold lies apart from what changes -/
structure LM (a : Nat) (w : World) (b vb : Nat) (K : Bk) (V : Vw) : Prop where
  kl : ∀ p, p < 4 → ∀ j, j < (K.lg p).n → RT.In w (Sx a b vb K V) ((K.lg p).item j)
  kc : LT.In elCell w (Sx a b vb K V) K.cl
  kp : LT.In elRec w (Sx a b vb K V) K.pd
  vl : ∀ p, p < 4 → ∀ j, j < (V.lg p).n → RT.In w (Sx a b vb K V) ((V.lg p).item j)
  vc : LT.In elCell w (Sx a b vb K V) V.cl
  vp : LT.In elRec w (Sx a b vb K V) V.pd
/-- the view's side, the book having changed -/
structure LMv (a : Nat) (w : World) (b vb : Nat) (K : Bk) (V : Vw) : Prop where
  vl : ∀ p, p < 4 → ∀ j, j < (V.lg p).n → RT.In w (Sx a b vb K V) ((V.lg p).item j)
  vc : LT.In elCell w (Sx a b vb K V) V.cl
  vp : LT.In elRec w (Sx a b vb K V) V.pd
theorem LM.vs {a : Nat} {W W' : World} {b vb : Nat} {K K' : Bk} {V : Vw} (m : LM a W b vb K V) (g : SetLog W b K W' K') : LMv a W' b vb K' V :=
  ⟨fun p hp j hj => Sx.b (E := elRec) g (m.vl p hp j hj), Sx.b (E := elCells) g m.vc, Sx.b (E := elRecs) g m.vp⟩
structure LMk (a : Nat) (w : World) (b vb : Nat) (K : Bk) (V : Vw) : Prop where
  kl : ∀ p, p < 4 → ∀ j, j < (K.lg p).n → RT.In w (Sx a b vb K V) ((K.lg p).item j)
  kc : LT.In elCell w (Sx a b vb K V) K.cl
  kp : LT.In elRec w (Sx a b vb K V) K.pd
theorem LM.ks {a : Nat} {W W' : World} {b vb : Nat} {K : Bk} {V V' : Vw} (m : LM a W b vb K V) (g : VSet W vb V W' V') : LMk a W' b vb K V' :=
  ⟨fun p hp j hj => Sx.v (E := elRec) g (m.kl p hp j hj), Sx.v (E := elCells) g m.kc, Sx.v (E := elRecs) g m.kp⟩
theorem LM.of {a : Nat} {w : World} {b vb : Nat} {K : Bk} {V : Vw} (x : LMk a w b vb K V) (y : LMv a w b vb K V) : LM a w b vb K V := ⟨x.kl, x.kc, x.kp, y.vl, y.vc, y.vp⟩
theorem Sx.new {w0 W : World} {b vb : Nat} {K : Bk} {V : Vw} (h : BV w0 W b vb K V) {k : Nat} {K' : Bk} (hk : W.heap.size ≤ k ∧ ¬ K'.C b k) : Sx w0.heap.size b vb K' V k :=
  ⟨Nat.le_trans h.bok.bel.size hk.1, hk.2, fun e => by have := h.v.lt e; omega⟩
theorem Sx.newV {w0 W : World} {b vb : Nat} {K : Bk} {V : Vw} (h : BV w0 W b vb K V) {k : Nat} {V' : Vw} (hk : W.heap.size ≤ k ∧ ¬ V'.C vb k) : Sx w0.heap.size b vb K V' k :=
  ⟨Nat.le_trans h.bok.bel.size hk.1, fun e => by have := h.bok.i.lt e; omega, hk.2⟩
theorem LM.below {w0 W W' : World} {b vb : Nat} {K : Bk} {V : Vw} (m : LM w0.heap.size W b vb K V) (h : BV w0 W b vb K V) (g : Below W.heap.size W W') : LM w0.heap.size W' b vb K V :=
  LM.of (m.ks (VSet.same h.v g)) (m.vs (SetLog.same h.bok.i g))
theorem LM.took {x : Int} {r : RT} {w0 W W' : World} {b vb : Nat} {K K' : Bk} {V : Vw} (m : LM w0.heap.size W b vb K V) (h : BV w0 W b vb K V) (q : TookQ x r W b K W' K') : LM w0.heap.size W' b vb K' V := by
  refine LM.of ?_ (m.vs q.s)
  have g := q.s
  rcases e : K.lays x with _ | _
  · rw [q.n e] at g ⊢
    exact ⟨fun p hp j hj => Sx.b (E := elRec) g (m.kl p hp j hj), Sx.b (E := elCells) g m.kc, Sx.b (E := elRecs) g m.kp⟩
  · obtain ⟨u, p, c, hal, hin, rfl⟩ := q.y e
    refine ⟨fun p1 hp j hj => ?_, Sx.b (E := elCells) (u := K.cl) g m.kc, Sx.b (E := elRecs) (u := K.pd) g m.kp⟩
    have hu := hin.mono (S' := Sx w0.heap.size b vb (K.setLog x.toNat ((K.lg x.toNat).push p c u)) V) fun k hk _ => Sx.new h hk
    simp only [Bk.setLog] at hj ⊢
    by_cases h1 : p1 = x.toNat
    · subst h1
      rw [if_pos rfl] at hj ⊢
      simp only [LT.push] at hj ⊢
      by_cases h2 : j < (K.lg x.toNat).n
      · rw [if_pos h2]; exact Sx.b (E := elRec) g (m.kl _ hp j h2)
      · rw [if_neg h2]; exact hu
    · rw [if_neg h1] at hj ⊢
      exact Sx.b (E := elRec) g (m.kl _ hp j hj)
theorem LM.begin {w0 W W' : World} {b vb : Nat} {K : Bk} {V : Vw} {id : Int} (m : LM w0.heap.size W b vb K V) (g : SetLog W b K W' (K.base id)) : LM w0.heap.size W' b vb (K.base id) V := by
  refine LM.of ?_ (m.vs g)
  by_cases h : K.now < id
  · have e : K.base id = K.begin id := by rw [Bk.base, if_pos h]
    rw [e] at g ⊢
    exact ⟨fun p hp j hj => absurd hj (Nat.not_lt_zero _), LT.In.none_ _ _ _ _ _ _ (Nat.zero_le _) (fun _ => rfl), LT.In.none_ _ _ _ _ _ _ (Nat.zero_le _) (fun _ => rfl)⟩
  · have e : K.base id = K := by rw [Bk.base, if_neg h]
    rw [e] at g ⊢
    exact ⟨fun p hp j hj => Sx.b (E := elRec) g (m.kl p hp j hj), Sx.b (E := elCells) g m.kc, Sx.b (E := elRecs) g m.kp⟩
theorem LM.mark {x id : Int} {a : LT RT} {num : Int} {l : LT VT} {q : LT RT} {w0 W W' : World} {b vb : Nat} {K K' : Bk} {V : Vw} {r : Bool} (m : LM w0.heap.size W b vb K V) (h : BV w0 W b vb K V) (y : MarkQ x id a num l q W b K W' K' r) : LM w0.heap.size W' b vb K' V := by
  have g := y.s
  rcases e : K.marks x id with _ | _
  · rw [(y.n e).1] at g ⊢
    exact LM.of ⟨fun p hp j hj => Sx.b (E := elRec) g (m.kl p hp j hj), Sx.b (E := elCells) g m.kc, Sx.b (E := elRecs) g m.kp⟩ (m.vs g)
  · obtain ⟨w1, g1, hr, hQ⟩ := y.y e
    have m1 := m.begin g1
    have h1 := h.bstep g1
    have g2 := hQ.b.s
    refine LM.of ⟨fun p hp j hj => ?_, ?_, ?_⟩ (m1.vs g2)
    · by_cases hpi : p = x.toNat
      · by_cases h3 : (K.base id).mode = 3
        · obtain ⟨mm, pp, cc, e1, _, e3⟩ := hQ.b.lg3 h3
          subst hpi
          rw [e1] at hj ⊢
          simp only [LT.join] at hj ⊢
          by_cases h2 : j < ((K.base id).lg x.toNat).n
          · rw [if_pos h2]; exact Sx.b (E := elRec) g2 (m1.kl _ hp j h2)
          · rw [if_neg h2]; exact (e3 _ (by omega)).mono fun k hk _ => Sx.new h1 hk
        · subst hpi
          rw [hQ.b.lgi h3] at hj ⊢
          exact Sx.b (E := elRec) g2 (m1.kl _ hp j hj)
      · rw [hQ.b.lgo p hpi] at hj ⊢
        exact Sx.b (E := elRec) g2 (m1.kl _ hp j hj)
    · rcases hc : (K.base id).shutR x.toNat with _ | _
      · rw [(hQ.b.ncp hc).2.1]; exact Sx.b (E := elCells) g2 m1.kc
      · exact (hQ.b.cpd hc).2.2.2.1.mono fun k hk _ => Sx.new h1 hk
    · rcases hc : (K.base id).shutR x.toNat with _ | _
      · rw [(hQ.b.ncp hc).2.2]; exact Sx.b (E := elRecs) g2 m1.kp
      · exact (hQ.b.cpd hc).2.2.2.2.mono fun k hk _ => Sx.new h1 hk
theorem LM.part {w0 W W' : World} {b vb : Nat} {K : Bk} {V : Vw} (m : LM w0.heap.size W b vb K V) (g : SetLog W b K W' K.part) : LM w0.heap.size W' b vb K.part V :=
  LM.of ⟨fun _ _ _ hj => absurd hj (Nat.not_lt_zero _), LT.In.none_ _ _ _ _ _ _ (Nat.zero_le _) (fun _ => rfl), LT.In.none_ _ _ _ _ _ _ (Nat.zero_le _) (fun _ => rfl)⟩ (m.vs g)
theorem LM.sees {o : OpT} {x : Bool} {mode : Int} {i : Nat} {w0 W W' : World} {b vb : Nat} {K : Bk} {V V' : Vw} (m : LM w0.heap.size W b vb K V) (h : BV w0 W b vb K V) (y : SeesQ o x mode i W vb V W' V') : LM w0.heap.size W' b vb K V' := by
  refine LM.of (m.ks y.s) ?_
  have g := y.s
  rcases e : V.skips o i with _ | _
  rotate_left
  · rw [y.sk e] at g ⊢
    exact ⟨fun p hp j hj => Sx.v (E := elRec) g (m.vl p hp j hj), Sx.v (E := elCells) g m.vc, Sx.v (E := elRecs) g m.vp⟩
  have bl : ∀ p, p < 4 → ∀ j, j < ((V.base o.id).lg p).n → RT.In W' (Sx w0.heap.size b vb K V') (((V.base o.id).lg p).item j) := fun p hp j hj => by
    unfold Vw.base at hj ⊢
    split at hj
    · exact absurd hj (Nat.not_lt_zero _)
    · rename_i hc; rw [if_neg hc]; exact Sx.v (E := elRec) g (m.vl p hp j hj)
  have bc : LT.In elCell W' (Sx w0.heap.size b vb K V') (V.base o.id).cl := by
    unfold Vw.base
    split
    · exact LT.In.none_ _ _ _ _ _ _ (Nat.zero_le _) (fun _ => rfl)
    · exact Sx.v (E := elCells) g m.vc
  have bp : LT.In elRec W' (Sx w0.heap.size b vb K V') (V.base o.id).pd := by
    unfold Vw.base
    split
    · exact LT.In.none_ _ _ _ _ _ _ (Nat.zero_le _) (fun _ => rfl)
    · exact Sx.v (E := elRecs) g m.vp
  refine ⟨fun p hp j hj => ?_, ?_, ?_⟩
  · by_cases hpi : p = i
    · subst hpi
      by_cases h3 : mode = 3
      · obtain ⟨mm, pp, cc, e1, _, e3⟩ := y.lg3 e h3
        rw [e1] at hj ⊢
        simp only [LT.join] at hj ⊢
        by_cases h2 : j < ((V.base o.id).lg p).n
        · rw [if_pos h2]; exact bl _ hp j h2
        · rw [if_neg h2]; exact (e3 _ (by omega)).mono fun k hk _ => Sx.newV h hk
      · rw [y.lgi e h3] at hj ⊢; exact bl _ hp j hj
    · rw [y.lgo e p hpi] at hj ⊢; exact bl _ hp j hj
  · rcases hx : x with _ | _
    · rw [(y.ncp e hx).2.1]; exact bc
    · exact (y.cpd e hx).2.2.2.1.mono fun k hk _ => Sx.newV h hk
  · rcases hx : x with _ | _
    · rw [(y.ncp e hx).2.2]; exact bp
    · exact (y.cpd e hx).2.2.2.2.mono fun k hk _ => Sx.newV h hk
theorem LM.push {i : Nat} {u : RT} {p : Option Addr} {c : Nat} {w0 W W' : World} {b vb : Nat} {K : Bk} {V : Vw} (m : LM w0.heap.size W b vb K V) (h : BV w0 W b vb K V) (g : VSet W vb V W' (V.setLog i ((V.lg i).push p c u))) (hin : RT.In W' (fun k => W.heap.size ≤ k ∧ ¬ (V.setLog i ((V.lg i).push p c u)).C vb k) u) : LM w0.heap.size W' b vb K (V.setLog i ((V.lg i).push p c u)) := by
  refine LM.of (m.ks g) ⟨fun p1 hp j hj => ?_, Sx.v (E := elCells) (u := V.cl) g m.vc, Sx.v (E := elRecs) (u := V.pd) g m.vp⟩
  have hu := hin.mono (S' := Sx w0.heap.size b vb K (V.setLog i ((V.lg i).push p c u))) fun k hk _ => Sx.newV h hk
  simp only [Vw.setLog] at hj ⊢
  by_cases h1 : p1 = i
  · subst h1
    rw [if_pos rfl] at hj ⊢
    simp only [LT.push] at hj ⊢
    by_cases h2 : j < (V.lg p1).n
    · rw [if_pos h2]; exact Sx.v (E := elRec) g (m.vl _ hp j h2)
    · rw [if_neg h2]; exact hu
  · rw [if_neg h1] at hj ⊢
    exact Sx.v (E := elRec) g (m.vl _ hp j hj)
def Vw.hand (V : Vw) : Vw := { V with hd := true }
theorem LM.hand {w0 W W' : World} {b vb : Nat} {K : Bk} {V : Vw} (m : LM w0.heap.size W b vb K V) (g : VSet W vb V W' V.hand) : LM w0.heap.size W' b vb K V.hand :=
  LM.of (m.ks g) ⟨fun p hp j hj => Sx.v (E := elRec) g (m.vl p hp j hj), Sx.v (E := elCells) (u := V.cl) g m.vc, Sx.v (E := elRecs) (u := V.pd) g m.vp⟩
theorem VwI.handed {w w1 : World} {b : Nat} {V : Vw} (h : VwI w b V) (hb : Below w.heap.size w w1) : VSet w b V (w1.setCell ⟨b, 13, none⟩ (.bool true)) V.hand := by
  have h1 := h.below hb
  refine (VSet.same h hb).trans (h1.chg rfl ?_ ((But.one w1 b).setAt 13 _))
  have := h1.box.set 13 (.bool true)
  exact this
theorem LM.fresh (w0 W : World) (b vb : Nat) (mode ports back : Int) : LM w0.heap.size W b vb (Bk.fresh mode ports back) (Vw.fresh 0) :=
  ⟨fun _ _ _ h => absurd h (Nat.not_lt_zero _), LT.In.none_ _ _ _ _ _ _ (Nat.zero_le _) (fun _ => rfl), LT.In.none_ _ _ _ _ _ _ (Nat.zero_le _) (fun _ => rfl), fun _ _ _ h => absurd h (Nat.not_lt_zero _), LT.In.none_ _ _ _ _ _ _ (Nat.zero_le _) (fun _ => rfl), LT.In.none_ _ _ _ _ _ _ (Nat.zero_le _) (fun _ => rfl)⟩
end Go.Proofs.Ytdncnnjhfipokaa

namespace Go.Proofs.Ytdncnnjhfipokaa
open Go.RowKit
set_option maxRecDepth 8000
theorem Alk.two {α : Type} {R : α → α → Prop} {y a b : LT α} (h : LT.Alk R y a) (k : LT.Alk R y b) (hc : ∀ j, j < a.n → R (y.item j) (a.item j) → R (y.item j) (b.item j) → R (a.item j) (b.item j)) : LT.Alk R a b :=
  ⟨k.n.trans h.n.symm, fun j hj => hc j hj (h.item j (by rw [← h.n]; exact hj)) (k.item j (by rw [← h.n]; exact hj))⟩
theorem va2 {w : World} {S : Nat → Prop} {y a b : VT} (ha : VT.In w S a) (h : VT.Alike y a) (k : VT.Alike y b) : VT.Alike a b := (h.symm ha).trans k
theorem ra2 {w : World} {S : Nat → Prop} {y a b : RT} (ha : RT.In w S a) (h : RT.Alike y a) (k : RT.Alike y b) : RT.Alike a b :=
  ⟨k.key.trans h.key.symm, va2 ha.v h.v k.v, k.n.trans h.n.symm, fun j hj => (k.loop j (by rw [← h.n]; exact hj)).trans (h.loop j (by rw [← h.n]; exact hj)).symm⟩
/-- the book and what CutLogs sees of it -/
structure LP (N : Nat) (K : Bk) (V : Vw) : Prop where
  id : V.id = K.now
  hn : V.hd = true → K.cp = false ∧ V.cp = true ∧ ∀ p, p < N → K.st p ≠ 0
  cp : V.hd = false → V.cp = K.cp
  cd : ∀ p, p < 4 → V.cd p = !(K.st p == 0)
  lg : V.hd = false → ∀ p, p < 4 → LT.Alk RT.Alike (K.lg p) (V.lg p)
  sn : V.hd = false → V.num = K.num
  sc : V.hd = false → LT.Alk VT.Alike K.cl V.cl
  sp : V.hd = false → LT.Alk RT.Alike K.pd V.pd
theorem LP.fresh (N : Nat) (mode ports back : Int) : LP N (Bk.fresh mode ports back) (Vw.fresh 0) :=
  ⟨rfl, fun h => (by cases h), fun _ => rfl, fun p _ => by simp [Vw.fresh, Bk.fresh], fun _ _ _ => ⟨rfl, fun _ h => absurd h (Nat.not_lt_zero _)⟩, fun _ => rfl, fun _ => ⟨rfl, fun _ h => absurd h (Nat.not_lt_zero _)⟩, fun _ => ⟨rfl, fun _ h => absurd h (Nat.not_lt_zero _)⟩⟩
theorem LP.push {N : Nat} {K : Bk} {V : Vw} {w : World} {S : Nat → Prop} {i : Nat} {r u u' : RT} {p p' : Option Addr} {c c' : Nat} (j : LP N K V) (hd : V.hd = false) (hin : RT.In w S u) (h : RT.Alike r u) (h' : RT.Alike r u') : LP N (K.setLog i ((K.lg i).push p c u)) (V.setLog i ((V.lg i).push p' c' u')) := by
  refine ⟨j.id, fun h => absurd (hd.symm.trans h) (by decide), fun _ => j.cp hd, j.cd, fun _ q hq => ?_, fun _ => j.sn hd, fun _ => j.sc hd, fun _ => j.sp hd⟩
  have e := j.lg hd q hq
  simp only [Bk.setLog, Vw.setLog]
  by_cases hqi : q = i
  · subst hqi
    rw [if_pos rfl, if_pos rfl]
    refine ⟨by simp only [LT.push]; rw [e.n], fun x hx => ?_⟩
    simp only [LT.push] at hx ⊢
    rw [e.n]
    by_cases h2 : x < (K.lg q).n
    · rw [if_pos h2, if_pos h2]; exact e.item x h2
    · rw [if_neg h2, if_neg h2]; exact ra2 hin h h'
  · rw [if_neg hqi, if_neg hqi]; exact e
theorem LP.lays {N : Nat} {K : Bk} {V : Vw} {i : Nat} (j : LP N K V) (hi : i < 4) (hiN : i < N) (ht : K.tookE (i : Int) = 0) : K.lays (i : Int) = (V.cp && !V.cd i) := by
  have htn : ((i : Int)).toNat = i := by omega
  unfold Bk.lays
  rw [htn, j.cd i hi]
  rcases h1 : K.has (i : Int) with _ | _
  · rw [Bk.tookE, if_pos h1] at ht; cases ht
  · rcases h2 : K.held (i : Int) with _ | _
    · rcases h : V.hd with _ | _
      · rw [j.cp h]; simp
      · obtain ⟨e1, e2, e3⟩ := j.hn h
        have := e3 i hiN
        rw [e1, e2]; simp [this]
    · rw [Bk.tookE, if_neg (by rw [h1]; decide), if_pos h2] at ht; cases ht
theorem LP.nolay {N : Nat} {K : Bk} {V : Vw} {i : Nat} (j : LP N K V) (hi : i < 4) (hiN : i < N) (hd : V.cd i = false) : V.hd = false := by
  rcases h : V.hd with _ | _
  · rfl
  · have := (j.hn h).2.2 i hiN
    rw [j.cd i hi] at hd
    simp [this] at hd
def Vw.wholeB (V : Vw) (N : Nat) : Bool := (List.range N).all (fun p => V.cd p) && V.cp
theorem LP.whole {N : Nat} {K : Bk} {V : Vw} (j : LP N K V) (hN : N ≤ 4) (hp : K.ports = (N : Int)) : (V.wholeB N && !V.hd) = (K.cp && !K.opn) := by
  rcases h : V.hd with _ | _
  · have hall : (List.range N).all (fun p => V.cd p) = !K.opn := by
      unfold Bk.opn
      rw [show K.ports.toNat = N by omega]
      apply Bool.eq_iff_iff.2
      simp only [List.all_eq_true, List.mem_range, Bool.not_eq_true', List.any_eq_false, beq_iff_eq]
      refine forall_congr' fun p => forall_congr' fun hlt => ?_
      rw [j.cd p (by omega)]
      simp
    unfold Vw.wholeB
    rw [hall, j.cp h]
    cases K.cp <;> cases K.opn <;> rfl
  · rw [(j.hn h).1]; simp
theorem LP.part {N : Nat} {K : Bk} {V : Vw} (j : LP N K V) (hp : K.ports = (N : Int)) (h : (K.cp && !K.opn) = true) (hd : V.hd = false) : LP N K.part V.hand := by
  have h0 : K.opn = false := by rcases e : K.opn with _ | _; rfl; rw [e] at h; simp at h
  have h1 : K.cp = true := by rcases e : K.cp with _ | _; rw [e] at h; simp at h; rfl
  refine ⟨j.id, fun _ => ⟨rfl, (j.cp hd).trans h1, fun p hlt e => ?_⟩, fun h => (by cases h), j.cd, fun h => (by cases h), fun h => (by cases h), fun h => (by cases h), fun h => (by cases h)⟩
  have : K.opn = true := K.opn_iff.2 ⟨p, by omega, e⟩
  rw [h0] at this; cases this
theorem LP.mark {N i : Nat} {id : Int} {o : OpT} {w w' u u' : World} {S S' : Nat → Prop} {b vb : Nat} {K K' : Bk} {V V' : Vw} {r : Bool} {mode : Int} (j : LP N K V) (hi : i < 4) (hiN : i < N) (hid : o.id = id) (hm : K.mode = mode) (hre : K.refE (i : Int) id = 0) (m : MarkQ (i : Int) id o.a o.num o.l o.q w b K w' K' r) (s : SeesQ o r mode i u vb V u' V')
    (hl : ∀ p, p < 4 → ∀ x, x < (K'.lg p).n → RT.In w' S ((K'.lg p).item x)) (hcl : LT.In elCell w' S' K'.cl) (hpd : LT.In elRec w' S' K'.pd) : LP N K' V' := by
  have htn : ((i : Int)).toNat = i := by omega
  have hsk : V.skips o i = !(K.marks (i : Int) id) := by
    unfold Vw.skips Bk.marks
    rw [hid, j.id, j.cd i hi, hre, htn]
    rcases (by omega : id < K.now ∨ id = K.now ∨ K.now < id) with h | h | h
    · have h1 : ¬ K.now < id := by omega
      have h2 : ¬ id = K.now := by omega
      simp [h, h1, h2]
    · subst h; simp
    · have h1 : ¬ id < K.now := by omega
      have h2 : ¬ id = K.now := by omega
      simp [h, h1, h2]
  rcases e : K.marks (i : Int) id with _ | _
  · rw [(m.n e).1, s.sk (by rw [hsk, e]; rfl)]; exact j
  have hs : V.skips o i = false := by rw [hsk, e]; rfl
  obtain ⟨w1, _, hr, hQ⟩ := m.y e
  rw [htn] at hr hQ
  have hnow1 : (K.base id).now = id := by
    unfold Bk.base
    split
    · rfl
    · simp only [Bk.marks, Bool.and_eq_true, Bool.or_eq_true, decide_eq_true_eq, beq_iff_eq] at e
      rcases e.2 with h | h
      · exact absurd h (by assumption)
      · exact h.1.symm
  have j1 : LP N (K.base id) (V.base id) ∧ (V.base id).hd = false := by
    unfold Bk.base Vw.base
    rw [j.id]
    split
    · exact ⟨⟨rfl, fun h => (by cases h), fun _ => rfl, fun p _ => by simp [Vw.fresh, Bk.begin], fun _ _ _ => ⟨rfl, fun _ h => absurd h (Nat.not_lt_zero _)⟩, fun _ => rfl, fun _ => ⟨rfl, fun _ h => absurd h (Nat.not_lt_zero _)⟩, fun _ => ⟨rfl, fun _ h => absurd h (Nat.not_lt_zero _)⟩⟩, rfl⟩
    · rename_i hgt
      refine ⟨j, ?_⟩
      rcases h : V.hd with _ | _
      · rfl
      · have h3 := (j.hn h).2.2 i hiN
        simp only [Bk.marks, htn, Bool.and_eq_true, Bool.or_eq_true, decide_eq_true_eq, beq_iff_eq] at e
        rcases e.2 with h4 | h4
        · exact absurd h4 hgt
        · exact absurd h4.2 h3
  obtain ⟨j1, hd1⟩ := j1
  have hmb : (K.base id).mode = mode := by
    rw [← hm]; unfold Bk.base; split <;> rfl
  have hzero : ∀ p, K'.st p = 0 ↔ ((K.base id).st p = 0 ∧ p ≠ i) := fun p => by rw [hQ.st]; exact Bk.shutS_zero _ _ _
  have hhd : V'.hd = false := by rw [s.hd hs, hid]; exact hd1
  refine ⟨?_, fun h => absurd (hhd.symm.trans h) (by decide), fun _ => ?_, fun p hp => ?_, fun _ p hp => ?_, fun _ => ?_, fun _ => ?_, fun _ => ?_⟩
  · rw [s.id hs, hQ.b.now, hid, hnow1]
  · rw [s.cp hs, hQ.b.cp, hid, j1.cp hd1, hr]
  · rw [s.cd hs]
    simp only [Vw.close]
    by_cases hpi : p = i
    · rw [if_pos hpi]
      have : ¬ K'.st p = 0 := fun x => ((hzero p).1 x).2 hpi
      simp [this]
    · rw [if_neg hpi, hid, j1.cd p hp]
      have h0 := hzero p
      by_cases hz : (K.base id).st p = 0
      · simp [hz, h0.2 ⟨hz, hpi⟩]
      · have this : ¬ K'.st p = 0 := fun x => hz (h0.1 x).1
        have e1 : ((K.base id).st p == 0) = false := by simpa using hz
        have e2 : (K'.st p == 0) = false := by simpa using this
        rw [e1, e2]
  · have e0 := j1.lg hd1 p hp
    by_cases hpi : p = i
    · subst hpi
      by_cases h3 : mode = 3
      · obtain ⟨m1, p1, c1, f1, f2, f3⟩ := hQ.b.lg3 (hmb.trans h3)
        obtain ⟨m2, p2, c2, g1, g2, g3⟩ := s.lg3 hs h3
        rw [hid] at g1
        have hl1 := hl p hp
        rw [f1] at hl1 ⊢
        rw [g1]
        have hn1 := f2.n
        have hn2 := g2.n
        refine ⟨by simp only [LT.join]; rw [e0.n]; omega, fun x hx => ?_⟩
        simp only [LT.join] at hx hl1 ⊢
        rw [e0.n]
        by_cases h2 : x < ((K.base id).lg p).n
        · rw [if_pos h2, if_pos h2]; exact e0.item x h2
        · rw [if_neg h2, if_neg h2]
          have hx1 := hl1 x hx
          rw [if_neg h2] at hx1
          exact ra2 hx1 (f2.item _ (by omega)) (g2.item _ (by omega))
      · rw [hQ.b.lgi (by rw [hmb]; exact h3), s.lgi hs h3, hid]; exact e0
    · rw [hQ.b.lgo p hpi, s.lgo hs p hpi, hid]; exact e0
  · rcases hc : (K.base id).shutR i with _ | _
    · rw [(s.ncp hs (hr.trans hc)).1, (hQ.b.ncp hc).1, hid]; exact j1.sn hd1
    · rw [(s.cpd hs (hr.trans hc)).1, (hQ.b.cpd hc).1]
  · rcases hc : (K.base id).shutR i with _ | _
    · rw [(s.ncp hs (hr.trans hc)).2.1, (hQ.b.ncp hc).2.1, hid]; exact j1.sc hd1
    · exact Alk.two (hQ.b.cpd hc).2.1 (s.cpd hs (hr.trans hc)).2.1 fun x hx h1 h2 => va2 (hcl.each x hx) h1 h2
  · rcases hc : (K.base id).shutR i with _ | _
    · rw [(s.ncp hs (hr.trans hc)).2.2, (hQ.b.ncp hc).2.2, hid]; exact j1.sp hd1
    · exact Alk.two (hQ.b.cpd hc).2.2.1 (s.cpd hs (hr.trans hc)).2.2.1 fun x hx h1 h2 => ra2 (hpd.each x hx) h1 h2
end Go.Proofs.Ytdncnnjhfipokaa
