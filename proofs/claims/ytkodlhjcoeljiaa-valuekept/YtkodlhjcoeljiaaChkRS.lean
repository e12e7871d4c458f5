import Derived.Test.YtkodlhjcoeljiaaRecT
import Derived.Test.YtkodlhjcoeljiaaChkSpec
namespace Go.Proofs.Ytkodlhjcoeljiaa
open Go.RowKit
set_option maxRecDepth 8000

/-- the first that isn't 0 -/
def firstN (g : Nat → Nat) : Nat → Nat
  | 0 => 0
  | j + 1 => if firstN g j = 0 then g j else firstN g j
theorem firstN_succ {g : Nat → Nat} {j : Nat} (h : firstN g j = 0) : firstN g (j + 1) = g j := by
  show (if _ then _ else _) = _
  rw [if_pos h]
theorem firstN_stuck {g : Nat → Nat} : ∀ {n j : Nat}, j ≤ n → firstN g j ≠ 0 → firstN g n = firstN g j := by
  intro n
  induction n with
  | zero =>
    intro j h _
    obtain rfl : j = 0 := by omega
    rfl
  | succ n ih =>
    intro j h hne
    by_cases hj : j = n + 1
    · rw [hj]
    · have e := ih (show j ≤ n by omega) hne
      show (if firstN g n = 0 then _ else firstN g n) = _
      rw [e, if_neg hne]
theorem firstN_hit {g : Nat → Nat} {n j : Nat} (h : firstN g j = 0) (hj : j < n) (hg : g j ≠ 0) : firstN g n = g j := by
  have h1 := firstN_succ h
  rw [firstN_stuck (show j + 1 ≤ n from hj) (by rw [h1]; exact hg), h1]
theorem firstN_congr {g g' : Nat → Nat} : ∀ {n : Nat}, (∀ j, j < n → g j = g' j) → firstN g n = firstN g' n := by
  intro n
  induction n with
  | zero => intro _; rfl
  | succ n ih =>
    intro h
    show (if firstN g n = 0 then g n else firstN g n) = (if firstN g' n = 0 then g' n else firstN g' n)
    rw [ih fun j hj => h j (by omega), h n (by omega)]
/-- what is wrong with a number of loops -/
def chkLoop (x : Int) : Nat := if x < 0 ∨ 9 < x then 25 else 0
/-- what is wrong with a record -/
def chkRec (r : RT) : Nat := if 12 < r.key.size then 24 else if (chk r.v 0 0).1 ≠ 0 then (chk r.v 0 0).1 else if 3 < r.n then 25 else firstN (fun j => chkLoop (r.loop j)) r.n
/-- what is wrong with the values of a cell -/
def chkVals (t : VT) : Nat := if 6 < t.n then 27 else firstN (fun q => (chk (t.item q) 0 0).1) t.n
/-- what is wrong with cell j -/
def chkCell (f : Nat → VT) (j : Nat) : Nat := if 12 < (f j).text.size then 24 else if 0 < j ∧ Op.bytesLess (f (j - 1)).text.toList (f j).text.toList = false then 27 else chkVals (f j)
/-- what is wrong with a state -/
def chkState (s : ST) : Nat := if s.num < 0 ∨ 1073741824 < s.num then 26 else if 64 < s.n then 27 else firstN (chkCell s.cell) s.n

theorem chkRec_alike {r u : RT} (h : RT.Alike r u) : chkRec r = chkRec u := by
  unfold chkRec
  rw [h.key, h.n, chk_alike _ _ 0 0 h.v, firstN_congr (g := fun j => chkLoop (r.loop j)) (g' := fun j => chkLoop (u.loop j)) (n := r.n) (fun j hj => by rw [h.loop j hj])]
theorem chkVals_alike {t u : VT} (h : VT.Alike t u) : chkVals t = chkVals u := by
  unfold chkVals
  rw [h.n, firstN_congr (fun j hj => by rw [chk_alike _ _ 0 0 (h.item hj)])]
theorem chkCell_alike {f g : Nat → VT} {j : Nat} (h : ∀ q, q ≤ j → VT.Alike (f q) (g q)) : chkCell f j = chkCell g j := by
  unfold chkCell
  rw [(h j (Nat.le_refl _)).text, (h (j - 1) (by omega)).text, chkVals_alike (h j (Nat.le_refl _))]
theorem chkState_alike {s u : ST} (h : ST.Alike s u) : chkState s = chkState u := by
  unfold chkState
  rw [h.num, h.n, firstN_congr (fun j hj => chkCell_alike fun q hq => h.cell q (by omega))]
theorem le_not_lt : ∀ x y : List UInt8, (Op.bytesLess x y || x == y) = !Op.bytesLess y x
  | [], [] => rfl
  | [], _ :: _ => rfl
  | _ :: _, [] => rfl
  | a :: x, b :: y => by
    have ih := le_not_lt x y
    rcases Nat.lt_trichotomy a.toNat b.toNat with h | h | h
    · have h1 : a < b := h
      have h2 : ¬ b < a := fun h2 => by have : b.toNat < a.toNat := h2; omega
      have h3 : ¬ a = b := fun e => by rw [e] at h; omega
      have h4 : ¬ b = a := fun e => h3 e.symm
      simp [Op.bytesLess, h1, h2, h4]
    · have e : a = b := UInt8.toNat_inj.1 h
      subst e
      have h1 : ¬ a < a := fun h2 => by have : a.toNat < a.toNat := h2; omega
      simp [Op.bytesLess, h1]
      simpa using ih
    · have h1 : b < a := h
      have h2 : ¬ a < b := fun h2 => by have : a.toNat < b.toNat := h2; omega
      have h3 : ¬ a = b := fun e => by rw [e] at h; omega
      simp [Op.bytesLess, h1, h2, h3]
theorem firstN_le {g : Nat → Nat} {m : Nat} (hg : ∀ j, g j ≤ m) : ∀ n, firstN g n ≤ m := by
  intro n
  induction n with
  | zero => exact Nat.zero_le _
  | succ n ih =>
    show (if _ then _ else _) ≤ m
    split
    · exact hg n
    · exact ih
end Go.Proofs.Ytkodlhjcoeljiaa
