import Derived.Test.YtdmhemofhmfkoabGreatDoorPack40
namespace Go.Proofs.YtdmhemofhmfkoabGreatDoor
open Go.RowKit
set_option maxRecDepth 8000

/-- the bytes of the first j items -/
def ranksN (f : Nat → VT) (j : Nat) : List Int := (List.range j).flatMap fun q => rankB (f q)
theorem ranksN_succ (f : Nat → VT) (j : Nat) : ranksN f (j + 1) = ranksN f j ++ rankB (f j) := by simp [ranksN, List.range_succ, List.flatMap_append]

theorem flatN_pre (f : Nat → VT) {j n : Nat} (h : j ≤ n) : ∃ X, flatN f n = flatN f j ++ X := by
  induction h with
  | refl => exact ⟨[], by simp⟩
  | step _ ih =>
    obtain ⟨X, hX⟩ := ih
    exact ⟨X ++ flatP (f _), by rw [flatN_succ, hX, List.append_assoc]⟩

end Go.Proofs.YtdmhemofhmfkoabGreatDoor

namespace Go.Proofs.YtdmhemofhmfkoabGreatDoor
open Go.RowKit
set_option maxRecDepth 8000

end Go.Proofs.YtdmhemofhmfkoabGreatDoor
