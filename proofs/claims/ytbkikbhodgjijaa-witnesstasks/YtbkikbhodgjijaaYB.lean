import Derived.Test.YtbkikbhodgjijaaYA
namespace Go.Proofs.Ytbkikbhodgjijaa
open Go.RowKit
set_option maxRecDepth 8000
/-- an entry that can be -/
def Can (n : Int) (t : TR) : Prop := 0 ≤ t.task ∧ t.task < n ∧ 0 ≤ t.port ∧ t.port ≤ 3 ∧ 0 ≤ t.id ∧ 1 ≤ t.kind ∧ t.kind ≤ 11 ∧ (t.kind ≤ 2 ∨ t.port = 0) ∧ (¬ t.kind = 1 ∨ t.id = 0) ∧ (t.kind ≤ 1 ∨ 9 ≤ t.kind ∨ (1 ≤ t.id ∧ t.id ≤ 9999)) ∧ (t.kind ≤ 4 ∨ 9 ≤ t.kind ∨ t.task = 0) ∧ (¬ t.kind = 10 ∨ (t.id = 0 ∧ t.task = 0)) ∧ (¬ t.kind = 11 ∨ (t.id ≤ 9999 ∧ t.task = 0))
def CanQ (n : Int) (t : TR) (w : World) (e : Ending) (w' : World) : Prop := ∃ b : Bool, e = .returned (.bool b) ∧ (b = true ↔ Can n t) ∧ Below w.heap.size w w'
theorem below1 (w : World) (a : Obj) : Below w.heap.size w (w.alloc a) := (Below.refl _ _).alloc (Nat.le_refl _) _
end Go.Proofs.Ytbkikbhodgjijaa
