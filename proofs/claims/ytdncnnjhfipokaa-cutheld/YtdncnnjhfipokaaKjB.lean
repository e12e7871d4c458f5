import Derived.Test.YtdncnnjhfipokaaPack32
import Derived.Test.YtdncnnjhfipokaaKiB
import Derived.Test.YtdncnnjhfipokaaKcR
namespace Go.Proofs.Ytdncnnjhfipokaa
open Go.RowKit
set_option maxRecDepth 8000
/-- a book and a view beside one another -/
structure BV (w0 W : World) (b vb : Nat) (K : Bk) (V : Vw) : Prop where
  bok : Bok w0 W b K
  v : VwI W vb V
  dis : ∀ k, K.C b k → ¬ V.C vb k
  vc : ∀ k, V.C vb k → w0.heap.size ≤ k
theorem BV.bstep {w0 W W' : World} {b vb : Nat} {K K' : Bk} {V : Vw} (h : BV w0 W b vb K V) (g : SetLog W b K W' K') : BV w0 W' b vb K' V :=
  ⟨h.bok.step g, h.v.kept (fun k hk hl => g.but.block k hl (fun e => h.dis k e hk)), fun k hk e => by
    rcases g.cs k hk with h1 | h1
    · exact h.dis k h1 e
    · have := h.v.lt e; omega, h.vc⟩
theorem BV.vstep {w0 W W' : World} {b vb : Nat} {K : Bk} {V V' : Vw} (h : BV w0 W b vb K V) (g : VSet W vb V W' V') : BV w0 W' b vb K V' :=
  ⟨⟨h.bok.i.kept (fun k hk hl => g.but.block k hl (h.dis k hk)), h.bok.bel.trans (g.but.below h.bok.bel.size (fun k hk e => by have := h.vc k e; omega)), h.bok.c⟩, g.inv, fun k hk e => by
    rcases g.cs k e with h1 | h1
    · exact h.dis k hk h1
    · have := h.bok.i.lt hk; omega, fun k hk => by
    rcases g.cs k hk with h1 | h1
    · exact h.vc k h1
    · exact Nat.le_trans h.bok.bel.size h1⟩
theorem BV.below {w0 W W' : World} {b vb : Nat} {K : Bk} {V : Vw} (h : BV w0 W b vb K V) (g : Below W.heap.size W W') : BV w0 W' b vb K V := h.bstep (SetLog.same h.bok.i g)
/-- the view's logs are not too long -/
def VLn (V : Vw) (N : Nat) : Prop := ∀ i, i < 4 → (V.lg i).n ≤ N
theorem VLn.le {V : Vw} {N M : Nat} (h : VLn V N) (hm : N ≤ M) : VLn V M := fun i hi => Nat.le_trans (h i hi) hm
theorem VLn.sees {o : OpT} {x : Bool} {mode : Int} {i : Nat} {w w' : World} {vb : Nat} {V V' : Vw} {N : Nat} (h : VLn V N) (sa : SzR o.a) (s : SeesQ o x mode i w vb V w' V') : VLn V' (N + 10000) := by
  intro j hj
  have h0 := h j hj
  rcases e : V.skips o i with _ | _
  · have hb : ((V.base o.id).lg j).n ≤ N := by
      unfold Vw.base
      split
      · exact Nat.zero_le _
      · exact h0
    by_cases hx : j = i
    · subst hx
      by_cases h3 : mode = 3
      · obtain ⟨m, p, c, e1, e2, _⟩ := s.lg3 e h3
        rw [e1]
        have := e2.n
        have := sa.n
        simp only [LT.join]; omega
      · rw [s.lgi e h3]; omega
    · rw [s.lgo e j hx]; omega
  · rw [s.sk e]; omega
theorem Vw.start (w : World) (vb : Nat) (h : vb = w.heap.size) : VwI (w.alloc (.cells (Vw.fresh 0).arr 59)) vb (Vw.fresh 0) := by
  subst h
  exact ⟨Box.new _ _ _, fun i _ => World.ownsRow_nil _ _ _ _, fun i _ e => (by cases e), fun i j _ _ _ k hk => (by cases hk)⟩
end Go.Proofs.Ytdncnnjhfipokaa
