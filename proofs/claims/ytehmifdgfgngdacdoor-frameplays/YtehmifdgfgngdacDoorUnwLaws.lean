import Derived.Test.YtehmifdgfgngdacDoorRAny
import Derived.Test.YtehmifdgfgngdacDoorSame
namespace Go.Proofs.YtehmifdgfgngdacDoor
open Go.RowKit
set_option maxRecDepth 8000

set_option maxHeartbeats 400000 in
theorem unws_long (pa : Option Addr) (na ca : Nat) (w : World) (ha : na ≤ 140737488355328) (hl : 131072 < na) :
    Calls Tryd.prog 14 #[.slice pa na ca] w fun e w' => e = .returned (.bool true) ∧ Below w.heap.size w w' := by
  go_enter Tryd.func14, Tryd.ntmps14
  go_wp2_with fail
  go_ret
  exact ⟨rfl, Below.refl _ _⟩
set_option maxHeartbeats 1000000 in
theorem unws_short (pa : Option Addr) (na ca : Nat) (za : List Int) (w : World) (hna : za.length = na) (hA : Bytes w pa za) (hc : na ≤ ca) (hT : Tab w) (hm : na ≤ 131072) :
    Calls Tryd.prog 14 #[.slice pa na ca] w fun e w' => e = .returned (.bool true) ∧ Below w.heap.size w w' := by
  have hfit : (unw za).2.length ≤ 131072 := by
    by_cases h : (unw za).1 = 0
    · have := unw_fit za h; omega
    · rw [unw_err za h]; simp
  have H1 : Hid (Calls Tryd.prog 25 #[.slice pa na ca] w fun e w' => ∃ a c', e = .returned (.tuple #[.slice a (unw za).2.length c', .int .i64 (unwSize za : Nat), .int .i64 ((unw za).1 : Nat)]) ∧ OwnB w.heap.size w' a c' (unw za).2 ∧ Below w.heap.size w w') := runwrap_any pa na ca za w hna hA (by omega)
  have H2 : Hid (∀ W, Below w.heap.size w W → Calls Tryd.prog 26 #[.slice pa na ca] W fun e w' => ∃ a c', e = .returned (.tuple #[.slice a (unw za).2.length c', .int .i64 (unwSize za : Nat), .int .i64 ((unw za).1 : Nat)]) ∧ OwnB W.heap.size w' a c' (unw za).2 ∧ Below W.heap.size W w') := fun W hW => unwrap_any pa na ca za W hna (hA.later hW) hc (by omega) (hT.later hW)
  have HS : Hid (∀ W a b c d, Bytes W a (unw za).2 → Bytes W b (unw za).2 → Calls Tryd.prog 17 #[.slice a (unw za).2.length c, .slice b (unw za).2.length d] W fun e w' => e = .returned (.bool true) ∧ Below W.heap.size W w') := by
    intro W a b c d h1 h2
    have h := same_any a b _ c _ d (unw za).2 (unw za).2 W rfl rfl h1 h2 (by omega)
    rw [decide_eq_true rfl] at h
    exact h
  clear hA hT hfit
  generalize (unw za).1 = err at *
  generalize unwSize za = sz at *
  generalize (unw za).2 = body at *
  go_enter Tryd.func14, Tryd.ntmps14
  go_wp2_with (first | (go_at_call 25; refine H1.out.mono ?_; rintro e w1 ⟨a1, c1, rfl, hO1, hb1⟩) | (go_at_call 26; refine (H2.out w1 hb1).mono ?_; rintro e w2 ⟨a2, c2, rfl, hO2, hb2⟩) | (go_at_call 24; refine (num_any _ _).mono ?_; rintro e wn ⟨rfl, rfl⟩) | (go_at_call 17; refine (HS.out _ _ _ _ _ hO2.bytes (hO1.bytes.later hb2)).mono ?_; rintro e w5 ⟨rfl, hb5⟩))
  go_ret
  exact ⟨rfl, (hb1.trans (hb2.mono hb1.size)).trans (hb5.mono (Nat.le_trans hb1.size hb2.size))⟩

set_option maxHeartbeats 400000 in
theorem exas_long (pa : Option Addr) (na ca : Nat) (w : World) (ha : na ≤ 140737488355328) (hl : 131072 < na) :
    Calls Tryd.prog 15 #[.slice pa na ca] w fun e w' => e = .returned (.bool true) ∧ Below w.heap.size w w' := by
  go_enter Tryd.func15, Tryd.ntmps15
  go_wp2_with fail
  go_ret
  exact ⟨rfl, Below.refl _ _⟩
set_option maxHeartbeats 1000000 in
theorem exas_short (pa : Option Addr) (na ca : Nat) (za : List Int) (w : World) (hna : za.length = na) (hA : Bytes w pa za) (hc : na ≤ ca) (hT : Tab w) (hm : na ≤ 131072) :
    Calls Tryd.prog 15 #[.slice pa na ca] w fun e w' => e = .returned (.bool true) ∧ Below w.heap.size w w' := by
  have hfit : (exa za).2.length ≤ 131072 := by
    unfold exa
    by_cases h : (unw za).1 = 0
    · have := unw_fit za h
      rw [if_pos h]
      split
      · simp
      · show (unw za).2.length ≤ _; omega
    · rw [if_neg h]; simp
  have H1 : Hid (Calls Tryd.prog 27 #[.slice pa na ca] w fun e w' => ∃ a c', e = .returned (.tuple #[.slice a (exa za).2.length c', .int .i64 ((exa za).1 : Nat)]) ∧ OwnB w.heap.size w' a c' (exa za).2 ∧ Below w.heap.size w w') := rexact_any pa na ca za w hna hA (by omega)
  have H2 : Hid (∀ W, Below w.heap.size w W → Calls Tryd.prog 28 #[.slice pa na ca] W fun e w' => ∃ a c', e = .returned (.tuple #[.slice a (exa za).2.length c', .int .i64 ((exa za).1 : Nat)]) ∧ OwnB W.heap.size w' a c' (exa za).2 ∧ Below W.heap.size W w') := fun W hW => exact_any pa na ca za W hna (hA.later hW) hc (by omega) (hT.later hW)
  have HS : Hid (∀ W a b c d, Bytes W a (exa za).2 → Bytes W b (exa za).2 → Calls Tryd.prog 17 #[.slice a (exa za).2.length c, .slice b (exa za).2.length d] W fun e w' => e = .returned (.bool true) ∧ Below W.heap.size W w') := by
    intro W a b c d h1 h2
    have h := same_any a b _ c _ d (exa za).2 (exa za).2 W rfl rfl h1 h2 (by omega)
    rw [decide_eq_true rfl] at h
    exact h
  clear hA hT hfit
  generalize (exa za).1 = err at *
  generalize (exa za).2 = body at *
  go_enter Tryd.func15, Tryd.ntmps15
  go_wp2_with (first | (go_at_call 27; refine H1.out.mono ?_; rintro e w1 ⟨a1, c1, rfl, hO1, hb1⟩) | (go_at_call 28; refine (H2.out w1 hb1).mono ?_; rintro e w2 ⟨a2, c2, rfl, hO2, hb2⟩) | (go_at_call 24; refine (num_any _ _).mono ?_; rintro e wn ⟨rfl, rfl⟩) | (go_at_call 17; refine (HS.out _ _ _ _ _ hO2.bytes (hO1.bytes.later hb2)).mono ?_; rintro e w5 ⟨rfl, hb5⟩))
  go_ret
  exact ⟨rfl, (hb1.trans (hb2.mono hb1.size)).trans (hb5.mono (Nat.le_trans hb1.size hb2.size))⟩
end Go.Proofs.YtehmifdgfgngdacDoor
