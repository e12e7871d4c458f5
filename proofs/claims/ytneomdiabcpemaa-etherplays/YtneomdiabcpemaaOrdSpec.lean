import Derived.Test.YtneomdiabcpemaaPack29
import Derived.Test.YtneomdiabcpemaaFlatSpec
namespace Go.Proofs.Ytneomdiabcpemaa
open Go.RowKit

/-- the first that is not 0 of the first j -/
def firstN (g : Nat → Int) : Nat → Int
  | 0 => 0
  | j + 1 => if firstN g j ≠ 0 then firstN g j else g j
/-- the order of two valid values -/
def ordV : VT → VT → Int
  | .nil, _ => 0
  | .mk k i s n _ _ f, u => if k ≠ u.kind then cmpI k u.kind else if k = 1 then cmpI i u.int else if k = 2 then cmpS s u.text
    else if firstN (fun j => ordV (f j) (u.item j)) (min n u.n) ≠ 0 then firstN (fun j => ordV (f j) (u.item j)) (min n u.n) else cmpI n u.n
theorem ordV_eq (k i : Int) (s : ByteArray) (n : Nat) (p : Option Addr) (c : Nat) (f : Nat → VT) (u : VT) : ordV (.mk k i s n p c f) u = if k ≠ u.kind then cmpI k u.kind else if k = 1 then cmpI i u.int else if k = 2 then cmpS s u.text
    else if firstN (fun j => ordV (f j) (u.item j)) (min n u.n) ≠ 0 then firstN (fun j => ordV (f j) (u.item j)) (min n u.n) else cmpI n u.n := rfl
theorem firstN_stuck {g : Nat → Int} : ∀ {n j : Nat}, j ≤ n → firstN g j ≠ 0 → firstN g n = firstN g j := by
  intro n
  induction n with
  | zero =>
    intro j h _
    obtain rfl : j = 0 := by omega
    rfl
  | succ n ih =>
    intro j h hne
    by_cases hj : j = n + 1
    · rw [hj]
    · have e := ih (show j ≤ n by omega) hne
      show (if firstN g n ≠ 0 then firstN g n else g n) = _
      rw [e, if_pos hne]
theorem firstN_succ {g : Nat → Int} {j : Nat} (h : firstN g j = 0) : firstN g (j + 1) = g j := by
  show (if firstN g j ≠ 0 then firstN g j else g j) = _
  rw [if_neg (by simpa using h)]
theorem firstN_congr {g h : Nat → Int} : ∀ n, (∀ j, j < n → g j = h j) → firstN g n = firstN h n := by
  intro n
  induction n with
  | zero => intro _; rfl
  | succ n ih =>
    intro e
    show (if firstN g n ≠ 0 then firstN g n else g n) = (if firstN h n ≠ 0 then firstN h n else h n)
    rw [ih fun j hj => e j (by omega), e n (by omega)]
/-- none -/
def zeroT : VT := .mk 0 0 ⟨#[]⟩ 0 none 0 (fun _ => .nil)
/-- a value, or none if it isn't valid -/
def cleanT (t : VT) : VT := if (chk t 0 0).1 = 0 then t else zeroT
theorem zeroT_in (w : World) (S : Nat → Prop) : VT.In w S zeroT := by
  refine ⟨⟨?_, ?_, ?_, ?_, ?_, Nat.le_refl 0, ?_, Nat.zero_le _, fun _ => ⟨rfl, rfl⟩⟩, fun h => absurd h (by omega), fun j hj => absurd hj (by omega)⟩
  · show (-9223372036854775808 : Int) ≤ 0; omega
  · show (0 : Int) ≤ 9223372036854775807; omega
  · show (-9223372036854775808 : Int) ≤ 0; omega
  · show (0 : Int) ≤ 9223372036854775807; omega
  · show (⟨#[]⟩ : ByteArray).size ≤ 140737488355328; decide
  · show 0 ≤ 140737488355328; omega
theorem cleanT_in {w : World} {S : Nat → Prop} {t : VT} (h : VT.In w S t) : VT.In w S (cleanT t) := by
  unfold cleanT
  split
  · exact h
  · exact zeroT_in w S
end Go.Proofs.Ytneomdiabcpemaa
