import Derived.Test.YtneomdiabcpemaaUcC
namespace Go.Proofs.Ytneomdiabcpemaa
open Go.RowKit
set_option maxRecDepth 8000
/-- the network and the book, behind so many steps -/
def HT (W w : World) (b kb : Nat) (m : Int) (N : Nat) : Prop := ∃ (Z : Nat → Prop) (A : List FA) (l : LT FY) (cp dl dr fl : Nat), HS W w Z b kb m A l cp dl dr fl ∧ (¬ kb < W.heap.size) ∧ (∀ g, (Value.slice l.p l.n l.c).ownBlock = some g → ¬ g < W.heap.size) ∧ Hon (fas l) A cp dl dr fl ∧ l.n + cp + dl + dr + fl ≤ N
theorem HT.bel {W w : World} {b kb : Nat} {m : Int} {N : Nat} (h : HT W w b kb m N) : Below W.heap.size W w := by
  obtain ⟨Z, A, l, cp, dl, dr, fl, h, _⟩ := h
  exact h.bel
theorem HT.below {W w w' : World} {b kb : Nat} {m : Int} {N : Nat} (h : HT W w b kb m N) (hb : Below w.heap.size w w') : HT W w' b kb m N := by
  obtain ⟨Z, A, l, cp, dl, dr, fl, h, r⟩ := h
  exact ⟨_, A, l, cp, dl, dr, fl, h.below hb, r⟩
def StQ (W : World) (b kb : Nat) (m : Int) (N : Nat) (e : Ending) (w' : World) : Prop := e = .returned (.bool true) ∧ HT W w' b kb m (N + 1)
end Go.Proofs.Ytneomdiabcpemaa
