import Derived.Test.YtjkfihngkfphfaaDoorDkA
import Derived.Test.YtjkfihngkfphfaaDoorRgE
import Derived.Deep.DeepCutAuto
namespace Go.Proofs.YtjkfihngkfphfaaDoor
open Go.RowKit
set_option maxRecDepth 8000
set_option maxHeartbeats 1000000 in
theorem inNames_any (x : Nat) (w : World) : Calls Tryd.prog 28 #[.int .u8 (x : Int)] w fun e w' => e = .returned (.bool (okB x)) ∧ w' = w := by
  unfold okB
  by_cases h1 : 97 ≤ x
  · have h1' : (97 : Int) ≤ (x : Int) := by omega
    by_cases h2 : x ≤ 122
    · have h2' : (x : Int) ≤ 122 := by omega
      go_enter Tryd.func28, Tryd.ntmps28
      go_wp2
      go_ret
      exact ⟨by simp [h1, h2], rfl⟩
    · have h2' : ¬ (x : Int) ≤ 122 := by omega
      have h3' : ¬ (x : Int) ≤ 57 := by omega
      have h4' : (48 : Int) ≤ (x : Int) := by omega
      have h5' : ((x : Int) == 45) = false := by simp; omega
      go_enter Tryd.func28, Tryd.ntmps28
      go_wp2
      go_ret
      exact ⟨by simp [show ¬ x ≤ 57 by omega, show x ≠ 45 by omega], rfl⟩
  · have h1' : ¬ (97 : Int) ≤ (x : Int) := by omega
    by_cases h3 : 48 ≤ x
    · have h3' : (48 : Int) ≤ (x : Int) := by omega
      by_cases h4 : x ≤ 57
      · have h4' : (x : Int) ≤ 57 := by omega
        go_enter Tryd.func28, Tryd.ntmps28
        go_wp2
        go_ret
        exact ⟨by simp, rfl⟩
      · have h4' : ¬ (x : Int) ≤ 57 := by omega
        have h5' : ((x : Int) == 45) = false := by simp; omega
        go_enter Tryd.func28, Tryd.ntmps28
        go_wp2
        go_ret
        exact ⟨by simp [show x ≠ 45 by omega], rfl⟩
    · have h3' : ¬ (48 : Int) ≤ (x : Int) := by omega
      by_cases h5 : x = 45
      · subst h5
        go_enter Tryd.func28, Tryd.ntmps28
        go_wp2
        go_ret
        exact ⟨by simp, rfl⟩
      · have h5' : ((x : Int) == 45) = false := by simp; omega
        go_enter Tryd.func28, Tryd.ntmps28
        go_wp2
        go_ret
        exact ⟨by simp [h5], rfl⟩
/-- the label while its first i bytes are laid -/
def preC (s : ByteArray) (i : Nat) : Array Value := #[.int .u8 (if 0 < i then bat s 0 else 0), .int .u8 (if 1 < i then bat s 1 else 0), .int .u8 (if 2 < i then bat s 2 else 0), .int .u8 (if 3 < i then bat s 3 else 0), .int .u8 (if 4 < i then bat s 4 else 0), .int .u8 (if 5 < i then bat s 5 else 0), .int .u8 (if 6 < i then bat s 6 else 0), .int .u8 (if 7 < i then bat s 7 else 0), .int .u8 (if 8 < i then bat s 8 else 0), .int .u8 (if 9 < i then bat s 9 else 0), .int .u8 (if 10 < i then bat s 10 else 0), .int .u8 (if 11 < i then bat s 11 else 0)]
theorem preC_set (s : ByteArray) (i : Nat) (hi : i < 12) : (preC s i).setIfInBounds i (.int .u8 (bat s i)) = preC s (i + 1) := by
  match i, hi with
  | 0, _ => simp [preC]
  | 1, _ => simp [preC]
  | 2, _ => simp [preC]
  | 3, _ => simp [preC]
  | 4, _ => simp [preC]
  | 5, _ => simp [preC]
  | 6, _ => simp [preC]
  | 7, _ => simp [preC]
  | 8, _ => simp [preC]
  | 9, _ => simp [preC]
  | 10, _ => simp [preC]
  | 11, _ => simp [preC]
theorem preC_all (s : ByteArray) (i : Nat) (hi : s.size ≤ i) : preC s i = (labC s).toArray := by
  have h : ∀ j, (if j < i then bat s j else 0) = bat s j := fun j => by
    split
    · rfl
    · unfold bat; rw [dif_neg (by omega)]
  simp only [preC, labC, h]
theorem preC_zero (s : ByteArray) : preC s 0 = (labC ⟨#[]⟩).toArray := by
  simp [preC, labC, bat, ByteArray.size]
theorem preC_get (s : ByteArray) (i j : Nat) (hj : j < 12) : ∃ x, (preC s i)[j]? = some (.int .u8 x) := by
  match j, hj with
  | 0, _ => exact ⟨_, rfl⟩
  | 1, _ => exact ⟨_, rfl⟩
  | 2, _ => exact ⟨_, rfl⟩
  | 3, _ => exact ⟨_, rfl⟩
  | 4, _ => exact ⟨_, rfl⟩
  | 5, _ => exact ⟨_, rfl⟩
  | 6, _ => exact ⟨_, rfl⟩
  | 7, _ => exact ⟨_, rfl⟩
  | 8, _ => exact ⟨_, rfl⟩
  | 9, _ => exact ⟨_, rfl⟩
  | 10, _ => exact ⟨_, rfl⟩
  | 11, _ => exact ⟨_, rfl⟩
/-- is it the name of a file? -/
def nmB (s : ByteArray) : Bool := decide (0 < s.size) && decide (s.size ≤ 12) && (List.range s.size).all fun i => okB (s.get! i).toNat
theorem nmB_iff (s : ByteArray) : nmB s = true ↔ Nm s := by
  simp only [nmB, Bool.and_eq_true, decide_eq_true_eq, List.all_eq_true, List.mem_range]
  constructor
  · rintro ⟨⟨h1, h2⟩, h3⟩
    refine ⟨h1, h2, fun i hi => ?_⟩
    have := h3 i hi
    have e : s.get! i = s[i] := by simp [ByteArray.get!, getElem!_pos, hi]; rfl
    rwa [e] at this
  · rintro ⟨h1, h2, h3⟩
    refine ⟨⟨h1, h2⟩, fun i hi => ?_⟩
    have e : s.get! i = s[i] := by simp [ByteArray.get!, getElem!_pos, hi]; rfl
    rw [e]
    exact h3 i hi
end Go.Proofs.YtjkfihngkfphfaaDoor
