import Derived.Test.YtneomdiabcpemaaFits
namespace Go.Proofs.Ytneomdiabcpemaa
open Go.RowKit

/-- item by item, till one is wrong: what is wrong, and how many parts were looked at -/
def stepN (g : Nat → Nat → Nat × Nat) (m : Nat) : Nat → Nat × Nat
  | 0 => (0, m)
  | j + 1 => if (stepN g m j).1 = 0 then g j (stepN g m j).2 else stepN g m j
/-- what is wrong with a part that stands in d lists, m parts having been looked at -/
def chk : VT → Nat → Nat → Nat × Nat
  | .nil, _, m => if 12 ≤ m then (22, m + 1) else (0, m + 1)
  | .mk k i s n _ _ f, d, m =>
    if 12 ≤ m then (22, m + 1) else if fitB k i s n = false then (20, m + 1) else if k = 3 ∧ 3 ≤ d then (23, m + 1) else if 24 < s.size then (21, m + 1) else if 6 < n then (22, m + 1)
    else stepN (fun j m => chk (f j) (d + 1) m) (m + 1) n

theorem chk_eq (k i : Int) (s : ByteArray) (n : Nat) (p : Option Addr) (c : Nat) (f : Nat → VT) (d m : Nat) : chk (.mk k i s n p c f) d m =
    if 12 ≤ m then (22, m + 1) else if fitB k i s n = false then (20, m + 1) else if k = 3 ∧ 3 ≤ d then (23, m + 1) else if 24 < s.size then (21, m + 1) else if 6 < n then (22, m + 1)
    else stepN (fun j m => chk (f j) (d + 1) m) (m + 1) n := rfl
theorem stepN_stuck {g : Nat → Nat → Nat × Nat} {m : Nat} : ∀ {n j : Nat}, j ≤ n → (stepN g m j).1 ≠ 0 → stepN g m n = stepN g m j := by
  intro n
  induction n with
  | zero =>
    intro j h _
    obtain rfl : j = 0 := by omega
    rfl
  | succ n ih =>
    intro j h hne
    by_cases hj : j = n + 1
    · rw [hj]
    · have e := ih (show j ≤ n by omega) hne
      show (if (stepN g m n).1 = 0 then _ else stepN g m n) = _
      rw [e, if_neg hne]
theorem stepN_succ {g : Nat → Nat → Nat × Nat} {m j : Nat} (h : (stepN g m j).1 = 0) : stepN g m (j + 1) = g j (stepN g m j).2 := by
  show (if _ then _ else _) = _
  rw [if_pos h]
theorem stepN_le {g : Nat → Nat → Nat × Nat} (hg : ∀ j m, m ≤ 12 → (g j m).2 ≤ 13 ∧ ((g j m).1 = 0 → (g j m).2 ≤ 12)) {m : Nat} (hm : m ≤ 12) : ∀ n, (stepN g m n).2 ≤ 13 ∧ ((stepN g m n).1 = 0 → (stepN g m n).2 ≤ 12) := by
  intro n
  induction n with
  | zero => exact ⟨by show m ≤ 13; omega, fun _ => hm⟩
  | succ n ih =>
    by_cases h : (stepN g m n).1 = 0
    · rw [stepN_succ h]; exact hg n _ (ih.2 h)
    · rw [stepN_stuck (Nat.le_succ n) h]; exact ih
theorem chk_le : ∀ (t : VT) (d m : Nat), m ≤ 12 → (chk t d m).2 ≤ 13 ∧ ((chk t d m).1 = 0 → (chk t d m).2 ≤ 12) := by
  intro t
  induction t with
  | nil =>
    intro d m hm
    unfold chk
    by_cases h1 : 12 ≤ m
    · rw [if_pos h1]; exact ⟨by simp only; omega, fun h => by simp at h⟩
    · rw [if_neg h1]; exact ⟨by simp only; omega, fun _ => by simp only; omega⟩
  | mk k i s n p c f ih =>
    intro d m hm
    rw [chk_eq]
    by_cases h1 : 12 ≤ m
    · rw [if_pos h1]; exact ⟨by simp only; omega, fun h => by simp at h⟩
    rw [if_neg h1]
    by_cases h2 : fitB k i s n = false
    · rw [if_pos h2]; exact ⟨by simp only; omega, fun h => by simp at h⟩
    rw [if_neg h2]
    by_cases h3 : k = 3 ∧ 3 ≤ d
    · rw [if_pos h3]; exact ⟨by simp only; omega, fun h => by simp at h⟩
    rw [if_neg h3]
    by_cases h4 : 24 < s.size
    · rw [if_pos h4]; exact ⟨by simp only; omega, fun h => by simp at h⟩
    rw [if_neg h4]
    by_cases h5 : 6 < n
    · rw [if_pos h5]; exact ⟨by simp only; omega, fun h => by simp at h⟩
    rw [if_neg h5]
    exact stepN_le (fun j m hm => ih j (d + 1) m hm) (by omega) n
theorem stepN_congr {g h : Nat → Nat → Nat × Nat} {m : Nat} : ∀ n, (∀ j, j < n → ∀ m, g j m = h j m) → stepN g m n = stepN h m n := by
  intro n
  induction n with
  | zero => intro _; rfl
  | succ n ih =>
    intro e
    have e1 := ih fun j hj m => e j (by omega) m
    show (if (stepN g m n).1 = 0 then g n (stepN g m n).2 else stepN g m n) = (if (stepN h m n).1 = 0 then h n (stepN h m n).2 else stepN h m n)
    rw [e1, e n (by omega)]
theorem chk_alike : ∀ (t u : VT) (d m : Nat), VT.Alike t u → chk t d m = chk u d m := by
  intro t
  induction t with
  | nil => intro u d m h; rw [show u = .nil from h]
  | mk k i s n p c f ih =>
    intro u d m h
    by_cases hu : u = .nil
    · subst hu
      obtain ⟨h1, h2, h3, h4, _⟩ := h
      subst h1 h2 h3 h4
      rw [chk_eq]
      unfold chk
      by_cases h1 : 12 ≤ m
      · rw [if_pos h1, if_pos h1]
      · rw [if_neg h1, if_neg h1, if_neg (by simp [fitB, VT.kind, VT.int, VT.text, VT.n]), if_neg (by simp [VT.kind]), if_neg (by simp [VT.text]; decide), if_neg (by simp [VT.n])]
        rfl
    obtain ⟨k2, i2, s2, p2, c2, f2, rfl⟩ : ∃ k2 i2 s2 p2 c2 f2, u = .mk k2 i2 s2 n p2 c2 f2 := by
      cases u with
      | nil => exact absurd rfl hu
      | mk k2 i2 s2 n2 p2 c2 f2 => exact ⟨k2, i2, s2, p2, c2, f2, by rw [show n2 = n from h.n]⟩
    obtain ⟨h1, h2, h3, _, hal⟩ := h
    simp only [VT.kind_mk, VT.int_mk, VT.text_mk, VT.item_mk] at h1 h2 h3 hal
    subst h1 h2 h3
    rw [chk_eq, chk_eq]
    rw [stepN_congr n (fun j hj m => ih j (f2 j) (d + 1) m (hal j hj))]
end Go.Proofs.Ytneomdiabcpemaa
