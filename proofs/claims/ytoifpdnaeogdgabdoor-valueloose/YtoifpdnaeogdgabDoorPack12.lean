import Derived.Test.YtoifpdnaeogdgabDoorPack8
import Derived.Test.YtoifpdnaeogdgabDoorPack10
import Derived.Lib.ParseIntBTie
import Derived.Test.YtoifpdnaeogdgabDoorParD
namespace Go.Proofs.YtoifpdnaeogdgabDoor
open Go.RowKit
set_option maxRecDepth 8000

theorem pk_at {s : ByteArray} {a : Nat} (h : a < s.size) : pk s a = (s.data[a]'h).toNat := by
  unfold pk
  rw [Array.getElem?_eq_getElem (show a < s.data.size from h)]
  rfl
theorem dropB_at {s : ByteArray} {a : Nat} (h : a < s.size) : s.data.toList.drop a = (s.data[a]'h) :: s.data.toList.drop (a + 1) := by
  rw [List.drop_eq_getElem_cons (show a < s.data.toList.length by rw [← Go.Lib.size_eq]; exact h)]
  rfl
theorem dropB_end {s : ByteArray} {a : Nat} (h : s.size ≤ a) : s.data.toList.drop a = [] := List.drop_eq_nil_of_le (by rw [← Go.Lib.size_eq]; exact h)
/-- how many digits a list of bytes begins with -/
def dgL : List UInt8 → Nat
  | [] => 0
  | c :: r => if 48 ≤ c.toNat ∧ c.toNat ≤ 57 then dgL r + 1 else 0
theorem dgL_le : ∀ l : List UInt8, dgL l ≤ l.length
  | [] => Nat.le_refl _
  | c :: r => by
    have := dgL_le r
    unfold dgL
    split
    · simp; omega
    · exact Nat.zero_le _
/-- the place behind the digits -/
def dgE (s : ByteArray) (a : Nat) : Nat := a + dgL (s.data.toList.drop a)
theorem dgE_le {s : ByteArray} {a : Nat} (h : a ≤ s.size) : dgE s a ≤ s.size := by
  have h1 := dgL_le (s.data.toList.drop a)
  rw [List.length_drop, ← Go.Lib.size_eq] at h1
  unfold dgE
  omega
theorem dgE_ge (s : ByteArray) (a : Nat) : a ≤ dgE s a := Nat.le_add_right _ _
theorem dgE_step {s : ByteArray} {a : Nat} (h : 48 ≤ pk s a ∧ pk s a ≤ 57) : dgE s (a + 1) = dgE s a := by
  have hl : a < s.size := pk_pos (by omega)
  rw [pk_at hl] at h
  unfold dgE
  rw [dropB_at hl, dgL, if_pos h]
  omega
theorem dgE_stop {s : ByteArray} {a : Nat} (h : ¬ (48 ≤ pk s a ∧ pk s a ≤ 57)) : dgE s a = a := by
  unfold dgE
  by_cases hl : a < s.size
  · rw [pk_at hl] at h
    rw [dropB_at hl, dgL, if_neg h]
    rfl
  · rw [dropB_end (by omega)]
    rfl
theorem dgL_take : ∀ (l : List UInt8), ∀ c ∈ l.take (dgL l), 48 ≤ c.toNat ∧ c.toNat ≤ 57
  | [] => by intro c h; simp at h
  | x :: r => by
    intro c h
    have ih := dgL_take r
    unfold dgL at h
    split at h
    · rename_i hx
      simp only [List.take_succ_cons, List.mem_cons] at h
      rcases h with rfl | h
      · exact hx
      · exact ih c h
    · simp at h
theorem uint_digits (M : Nat) : ∀ (l : List UInt8) (acc : Nat), (∀ c ∈ l, 48 ≤ c.toNat ∧ c.toNat ≤ 57) → Lib.parseUintM M acc l ≠ .«syntax»
  | [], acc, _ => by unfold Lib.parseUintM; intro h; cases h
  | c :: r, acc, h => by
    unfold Lib.parseUintM
    rw [if_pos (h c (by simp))]
    split
    · intro h; cases h
    · split
      · intro h; cases h
      · exact uint_digits M r _ (fun x hx => h x (by simp [hx]))
theorem int_digits {c : UInt8} {r : List UInt8} (h : (c.toNat = 45 ∧ r ≠ [] ∧ ∀ x ∈ r, 48 ≤ x.toNat ∧ x.toNat ≤ 57) ∨ (∀ x ∈ c :: r, 48 ≤ x.toNat ∧ x.toNat ≤ 57)) : Lib.parseIntB 64 (c :: r) ≠ .«syntax» := by
  rcases h with ⟨h1, h2, h3⟩ | h
  · have hu : Lib.parseUintB 64 r ≠ .«syntax» := by unfold Lib.parseUintB; rw [if_neg h2]; exact uint_digits _ _ _ h3
    unfold Lib.parseIntB
    simp only [h1, or_true, if_true]
    cases he : Lib.parseUintB 64 r with
    | «syntax» => exact absurd he hu
    | range => intro h; cases h
    | ok u => simp only; split <;> (try split) <;> (intro h; cases h)
  · have hc := h c (by simp)
    have hu : Lib.parseUintB 64 (c :: r) ≠ .«syntax» := by unfold Lib.parseUintB; rw [if_neg (by simp)]; exact uint_digits _ _ _ h
    unfold Lib.parseIntB
    simp only [show ¬ (c.toNat = 43 ∨ c.toNat = 45) by omega, if_false]
    cases he : Lib.parseUintB 64 (c :: r) with
    | «syntax» => exact absurd he hu
    | range => intro h; cases h
    | ok u => simp only; split <;> (try split) <;> (intro h; cases h)
/-- the bytes from a place to another -/
def cutL (s : ByteArray) (a b : Nat) : List UInt8 := (s.extract a b).data.toList
theorem cutL_eq (s : ByteArray) (a b : Nat) : cutL s a b = (s.data.toList.drop a).take (b - a) := Go.Lib.extract_data s a b
/-- where the digits begin -/
def sgS (s : ByteArray) (a : Nat) : Nat := if pk s a = 45 then a + 1 else a
/-- what a number is read as -/
def numS (a e : Nat) : Lib.NumEnd Int → Except (Nat × Nat) (VT × Nat)
  | .ok v => .ok (mkI v, e)
  | _ => .error (a, 29)
def intS (s : ByteArray) (a : Nat) : Except (Nat × Nat) (VT × Nat) :=
  if pk s a = 48 then .ok (mkI 0, a + 1)
  else if 49 ≤ pk s (sgS s a) ∧ pk s (sgS s a) ≤ 57 then numS a (dgE s (sgS s a)) (Lib.parseIntB 64 (cutL s a (dgE s (sgS s a))))
  else .error (sgS s a, 28)
theorem num_whole {s : ByteArray} {a : Nat} (h : 49 ≤ pk s (sgS s a) ∧ pk s (sgS s a) ≤ 57) : Lib.parseIntB 64 (cutL s a (dgE s (sgS s a))) ≠ .«syntax» := by
  have hb : sgS s a < s.size := pk_pos (by omega)
  have hg : dgE s (sgS s a) = sgS s a + dgL (s.data.toList.drop (sgS s a)) := rfl
  have hpos : 0 < dgL (s.data.toList.drop (sgS s a)) := by
    have h1 := dgE_step (s := s) (a := sgS s a) (by omega)
    have h2 := dgE_ge s (sgS s a + 1)
    omega
  have hd := dgL_take (s.data.toList.drop (sgS s a))
  rw [cutL_eq, hg]
  unfold sgS at *
  by_cases h45 : pk s a = 45
  · simp only [if_pos h45] at *
    have ha : a < s.size := by omega
    rw [dropB_at ha]
    rw [show a + 1 + dgL (s.data.toList.drop (a + 1)) - a = dgL (s.data.toList.drop (a + 1)) + 1 by omega, List.take_succ_cons]
    refine int_digits (.inl ⟨by rw [← pk_at ha]; exact h45, fun e => ?_, hd⟩)
    have h5 := congrArg List.length e
    have h6 := dgL_le (s.data.toList.drop (a + 1))
    rw [List.length_take] at h5
    simp only [List.length_nil] at h5
    omega
  · simp only [if_neg h45] at *
    rw [Nat.add_sub_cancel_left]
    have ha : a < s.size := hb
    revert hd hpos
    rw [dropB_at ha]
    intro hpos hd
    obtain ⟨m, hm⟩ : ∃ m, dgL ((s.data[a]'ha) :: s.data.toList.drop (a + 1)) = m + 1 := ⟨_, (Nat.succ_pred_eq_of_pos hpos).symm⟩
    rw [hm] at hd ⊢
    rw [List.take_succ_cons] at hd ⊢
    exact int_digits (.inr hd)
end Go.Proofs.YtoifpdnaeogdgabDoor

namespace Go.Proofs.YtoifpdnaeogdgabDoor
open Go.RowKit
set_option maxRecDepth 8000
/-- what stands behind the opening quote -/
def quoS (s : ByteArray) : Nat → Nat → List Int → Except (Nat × Nat) (List Int × Nat)
  | 0, a, _ => .error (a, 28)
  | k + 1, a, acc =>
    if pk s a = 34 then .ok (acc, a + 1)
    else if pk s a = 92 then (match escS s a with
      | .error e => .error e
      | .ok (b, a') => quoS s k a' (acc ++ [(b : Int)]))
    else if pk s a < 32 ∨ pk s a = 127 then .error (a, 28)
    else if badR s a then .error (a, 28)
    else quoS s k (a + (Utf8.decode s a).2) (acc ++ txtB (s.extract a (a + (Utf8.decode s a).2)))
def txtOf (a : Nat) : Except (Nat × Nat) (List Int × Nat) → Except (Nat × Nat) (VT × Nat)
  | .error e => .error e
  | .ok (zs, a') => if 24 < zs.length then .error (a, 21) else .ok (mkT (strOf zs), a')
def txtS (s : ByteArray) (a : Nat) : Except (Nat × Nat) (VT × Nat) := txtOf a (quoS s (s.size + 1) (a + 1) [])
end Go.Proofs.YtoifpdnaeogdgabDoor
