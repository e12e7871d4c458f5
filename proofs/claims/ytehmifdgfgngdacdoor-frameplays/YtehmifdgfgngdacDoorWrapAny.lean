import Derived.Test.YtehmifdgfgngdacDoorFrames
namespace Go.Proofs.YtehmifdgfgngdacDoor
open Go.RowKit
set_option maxRecDepth 8000

/-- what Wrap gives, as a frame -/
theorem wrap_any (p : Option Addr) (n c : Nat) (zs : List Int) (w : World) (hn : zs.length = n) (hB : Bytes w p zs) (hp : p = none → n = 0 ∧ c = 0) (hT : Tab w) (hm : n ≤ 32768) :
    Calls Tryd.prog 23 #[.slice p n c] w fun e w' => ∃ a c', e = .returned (.tuple #[.slice a (n + 8) c', .int .i64 0]) ∧ OwnB w.heap.size w' a c' (frameOf zs) ∧ Below w.heap.size w w' := by
  refine (wrap_short p n c zs w hn hB hp hT hm).mono ?_
  rintro e w' ⟨a, c', rfl, hO, hb⟩
  refine ⟨a, c', rfl, ?_, hb⟩
  unfold frameOf
  rw [hn]
  exact hO

end Go.Proofs.YtehmifdgfgngdacDoor
