import Derived.Test.YtehmifdgfgngdacDoorRWrap
import Derived.Test.YtehmifdgfgngdacDoorSame
namespace Go.Proofs.YtehmifdgfgngdacDoor
open Go.RowKit
set_option maxRecDepth 8000

set_option maxHeartbeats 400000 in
theorem wraps_long (pa : Option Addr) (na ca : Nat) (w : World) (ha : na ≤ 140737488355328) (hl : 131072 < na) :
    Calls Tryd.prog 13 #[.slice pa na ca] w fun e w' => e = .returned (.bool true) ∧ Below w.heap.size w w' := by
  go_enter Tryd.func13, Tryd.ntmps13
  go_wp2_with fail
  go_ret
  exact ⟨rfl, Below.refl _ _⟩
set_option maxHeartbeats 400000 in
theorem wraps_mid (pa : Option Addr) (na ca : Nat) (w : World) (hl : na ≤ 131072) (hm : 32768 < na) :
    Calls Tryd.prog 13 #[.slice pa na ca] w fun e w' => e = .returned (.bool true) ∧ Below w.heap.size w w' := by
  go_enter Tryd.func13, Tryd.ntmps13
  go_wp2_with (first | (go_at_call 22; refine (rwrap_long pa na ca _ hm (by omega)).mono ?_; rintro e w' ⟨rfl, rfl⟩) | (go_at_call 23; refine (wrap_long pa na ca _ hm (by omega)).mono ?_; rintro e w' ⟨rfl, rfl⟩) | (go_at_call 24; refine (num_any _ _).mono ?_; rintro e w' ⟨rfl, rfl⟩) | (go_at_call 17; refine (same_none _ _ _ _ _).mono ?_; rintro e w5 ⟨rfl, hb5⟩))
  go_ret
  exact ⟨rfl, hb5⟩
set_option maxHeartbeats 1000000 in
theorem wraps_short (pa : Option Addr) (na ca : Nat) (za : List Int) (w : World) (hna : za.length = na) (hA : Bytes w pa za) (hpa : pa = none → na = 0 ∧ ca = 0) (hT : Tab w) (hm : na ≤ 32768) :
    Calls Tryd.prog 13 #[.slice pa na ca] w fun e w' => e = .returned (.bool true) ∧ Below w.heap.size w w' := by
  have H1 : Hid (Calls Tryd.prog 22 #[.slice pa na ca] w fun e w' => ∃ a c', e = .returned (.tuple #[.slice a (na + 8) c', .int .i64 0]) ∧ OwnB w.heap.size w' a c' (frameOf za) ∧ Below w.heap.size w w') := rwrap_any pa na ca za w hna hA hpa hm
  have H2 : Hid (∀ W, Below w.heap.size w W → Calls Tryd.prog 23 #[.slice pa na ca] W fun e w' => ∃ a c', e = .returned (.tuple #[.slice a (na + 8) c', .int .i64 0]) ∧ OwnB W.heap.size w' a c' (frameOf za) ∧ Below W.heap.size W w') := fun W hW => wrap_any pa na ca za W hna (hA.later hW) hpa (hT.later hW) hm
  have HF : Hid ((frameOf za).length = na + 8) := by show _ = _; rw [frameOf_length, hna]
  have HS : Hid (∀ W a b c d, Bytes W a (frameOf za) → Bytes W b (frameOf za) → Calls Tryd.prog 17 #[.slice a (na + 8) c, .slice b (na + 8) d] W fun e w' => e = .returned (.bool true) ∧ Below W.heap.size W w') := by
    intro W a b c d h1 h2
    have h := same_any a b (na + 8) c (na + 8) d (frameOf za) (frameOf za) W HF.out HF.out h1 h2 (by omega)
    rw [decide_eq_true rfl] at h
    exact h
  clear hA hT hpa
  go_enter Tryd.func13, Tryd.ntmps13
  go_wp2_with (first | (go_at_call 22; refine H1.out.mono ?_; rintro e w1 ⟨a1, c1, rfl, hO1, hb1⟩) | (go_at_call 23; refine (H2.out w1 hb1).mono ?_; rintro e w2 ⟨a2, c2, rfl, hO2, hb2⟩) | (go_at_call 24; refine (num_any _ _).mono ?_; rintro e wn ⟨rfl, rfl⟩) | (go_at_call 17; refine (HS.out _ _ _ _ _ hO2.bytes (hO1.bytes.later hb2)).mono ?_; rintro e w5 ⟨rfl, hb5⟩))
  go_ret
  exact ⟨rfl, (hb1.trans (hb2.mono hb1.size)).trans (hb5.mono (Nat.le_trans hb1.size hb2.size))⟩
end Go.Proofs.YtehmifdgfgngdacDoor
