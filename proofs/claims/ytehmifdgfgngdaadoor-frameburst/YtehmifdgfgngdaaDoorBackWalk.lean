import Derived.Test.YtehmifdgfgngdaaDoorFrames
import Derived.Test.YtehmifdgfgngdaaDoorSame
namespace Go.Proofs.YtehmifdgfgngdaaDoor
open Go.RowKit

set_option maxHeartbeats 400000 in
theorem back_long (pa pb : Option Addr) (na ca nb cb : Nat) (w : World) (ha : na ≤ 140737488355328) (hb : nb ≤ 140737488355328) (hl : 131072 < na + nb) :
    Calls Tryd.prog 8 #[.slice pa na ca, .slice pb nb cb] w fun e w' => e = .returned (.bool true) ∧ Below w.heap.size w w' := by
  go_enter Tryd.func8, Tryd.ntmps8
  go_wp2_with fail
  go_ret
  exact ⟨rfl, Below.refl _ _⟩

set_option maxHeartbeats 400000 in
theorem back_mid (pa pb : Option Addr) (na ca nb cb : Nat) (w : World) (hl : na + nb ≤ 131072) (hm : 32768 < na) :
    Calls Tryd.prog 8 #[.slice pa na ca, .slice pb nb cb] w fun e w' => e = .returned (.bool true) ∧ Below w.heap.size w w' := by
  go_enter Tryd.func8, Tryd.ntmps8
  go_wp2_with (first | (go_at_call 14; refine (wrap_long pa na ca _ hm (by omega)).mono ?_; rintro e w' ⟨rfl, rfl⟩) | (go_at_call 15; refine (num_any _ _).mono ?_; rintro e w' ⟨rfl, rfl⟩))
  go_ret
  exact ⟨rfl, Below.refl _ _⟩

/-- what Wrap gives, as a frame -/
theorem wrap_any (p : Option Addr) (n c : Nat) (zs : List Int) (w : World) (hn : zs.length = n) (hB : Bytes w p zs) (hp : p = none → n = 0 ∧ c = 0) (hT : Tab w) (hm : n ≤ 32768) :
    Calls Tryd.prog 14 #[.slice p n c] w fun e w' => ∃ a c', e = .returned (.tuple #[.slice a (n + 8) c', .int .i64 0]) ∧ OwnB w.heap.size w' a c' (frameOf zs) ∧ Below w.heap.size w w' := by
  refine (wrap_short p n c zs w hn hB hp hT hm).mono ?_
  rintro e w' ⟨a, c', rfl, hO, hb⟩
  refine ⟨a, c', rfl, ?_, hb⟩
  unfold frameOf
  rw [hn]
  exact hO

set_option maxHeartbeats 1000000 in
theorem back_short (pa pb : Option Addr) (na ca nb cb : Nat) (za zb : List Int) (w : World) (hna : za.length = na) (hnb : zb.length = nb) (hA : Bytes w pa za) (hB : Bytes w pb zb)
    (hpa : pa = none → na = 0 ∧ ca = 0) (hpb : pb = none → nb = 0 ∧ cb = 0) (hT : Tab w) (hl : na + nb ≤ 131072) (hm : na ≤ 32768) :
    Calls Tryd.prog 8 #[.slice pa na ca, .slice pb nb cb] w fun e w' => e = .returned (.bool true) ∧ Below w.heap.size w w' := by
  have H1 : Hid (Calls Tryd.prog 14 #[.slice pa na ca] w fun e w' => ∃ a c', e = .returned (.tuple #[.slice a (na + 8) c', .int .i64 0]) ∧ OwnB w.heap.size w' a c' (frameOf za) ∧ Below w.heap.size w w') := wrap_any pa na ca za w hna hA hpa hT hm
  have HA : Hid (∀ W, Below w.heap.size w W → Bytes W pa za) := fun W h => hA.later h
  have HB : Hid (∀ W, Below w.heap.size w W → Bytes W pb zb) := fun W h => hB.later h
  have HT : Hid (∀ W, Below w.heap.size w W → Tab W) := fun W h => hT.later h
  have HF : Hid ((frameOf za).length = na + 8) := by show _ = _; rw [frameOf_length, hna]
  have HU : Hid (unw (frameOf za ++ zb) = (0, za)) := unw_frame za zb (by omega)
  clear hA hB hT
  go_enter Tryd.func8, Tryd.ntmps8
  go_wp2_with (first | (go_at_call 14; refine H1.out.mono ?_; rintro e w1 ⟨a, c', rfl, hO1, hb1⟩) | (go_at_call 15; refine (num_any _ _).mono ?_; rintro e w' ⟨rfl, rfl⟩))
  have hp1 : a = none → na + 8 = 0 ∧ c' = 0 := fun h => by have := hO1.nil h; rw [this.1] at HF; exact absurd HF.out (by simp)
  have HJ : Hid (∀ W, Below w'.heap.size w' W → Calls Tryd.prog 13 #[.slice a (na + 8) c', .slice pb nb cb] W fun e w' => ∃ p c, e = .returned (.slice p (na + 8 + nb) c) ∧ OwnB W.heap.size w' p c (frameOf za ++ zb) ∧ Below W.heap.size W w') :=
    fun W hW => joined_any a pb (na + 8) c' nb cb (frameOf za) zb W HF.out hnb (hO1.bytes.later hW) (HB.out W (hb1.trans (hW.mono hb1.size))) hp1 hpb (by omega)
  have HL : Hid ((frameOf za ++ zb).length = na + 8 + nb) := by show _ = _; rw [List.length_append, HF.out, hnb]
  clear hp1 hO1 H1 HB
  refine (HJ.out _ (Below.refl _ _)).mono ?_
  rintro e w2 ⟨p2, c2, rfl, hO2, hb2⟩
  have hb2w : Below w.heap.size w w2 := hb1.trans (hb2.mono hb1.size)
  have H2 : Hid (Calls Tryd.prog 20 #[.slice p2 (na + 8 + nb) c2] w2 fun e w' => ∃ a c', e = .returned (.tuple #[.slice a na c', .int .i64 ((na : Int) + 8), .int .i64 0]) ∧ OwnB w2.heap.size w' a c' za ∧ Below w2.heap.size w2 w') := by
    have h := unwrap_any p2 (na + 8 + nb) c2 (frameOf za ++ zb) w2 HL.out hO2.bytes (by rw [← HL.out]; exact hO2.cap.1) (by omega) (HT.out w2 hb2w)
    have hs : unwSize (frameOf za ++ zb) = na + 8 := by unfold unwSize; rw [HU.out]; simp [hna]
    rw [HU.out, hs, hna] at h
    exact h
  clear hO2
  go_wp2_with fail
  refine H2.out.mono ?_
  rintro e w3 ⟨a3, c3, rfl, hO3, hb3⟩
  have hb3w : Below w.heap.size w w3 := hb2w.trans (hb3.mono hb2w.size)
  have HS : Hid (∀ W, Below w3.heap.size w3 W → Calls Tryd.prog 21 #[.slice a3 na c3, .slice pa na ca] W fun e w' => e = .returned (.bool true) ∧ Below W.heap.size W w') := by
    intro W hW
    have h := same_any a3 pa na c3 na ca za za W hna hna (hO3.bytes.later hW) (HA.out W (hb3w.trans (hW.mono hb3w.size))) (by omega)
    rw [decide_eq_true rfl] at h
    exact h
  clear hO3 H2
  go_wp2_with (first | (go_at_call 15; refine (num_any _ _).mono ?_; rintro e wn ⟨rfl, rfl⟩))
  refine (HS.out _ (Below.refl _ _)).mono ?_
  rintro e w4 ⟨rfl, hb4⟩
  have hb4w : Below w.heap.size w w4 := hb3w.trans (hb4.mono hb3w.size)
  have hb4' : Below w'.heap.size w' w4 := (hb2.trans (hb3.mono hb2.size)).trans (hb4.mono (Nat.le_trans hb2.size hb3.size))
  go_wp2_with fail
  refine (HJ.out w4 hb4').mono ?_
  rintro e w5 ⟨p5, c5, rfl, hO5, hb5⟩
  have hb5w : Below w.heap.size w w5 := hb4w.trans (hb5.mono hb4w.size)
  have HX : Hid (Calls Tryd.prog 17 #[.slice p5 (na + 8 + nb) c5] w5 fun e w' => ∃ a c', e = .returned (.tuple #[.slice a (exa (frameOf za ++ zb)).2.length c', .int .i64 ((exa (frameOf za ++ zb)).1 : Nat)]) ∧ OwnB w5.heap.size w' a c' (exa (frameOf za ++ zb)).2 ∧ Below w5.heap.size w5 w') :=
    exact_any p5 (na + 8 + nb) c5 (frameOf za ++ zb) w5 HL.out hO5.bytes (by rw [← HL.out]; exact hO5.cap.1) (by omega) (HT.out w5 hb5w)
  clear hO5 HS HJ
  by_cases h0 : nb = 0
  · subst h0
    obtain rfl : zb = [] := List.eq_nil_of_length_eq_zero hnb
    rw [List.append_nil, exa_frame za (by omega)] at HX
    simp only [hna, Nat.add_zero] at HX
    go_wp2_with fail
    refine HX.out.mono ?_
    rintro e w6 ⟨a6, c6, rfl, hO6, hb6⟩
    have hb6w : Below w.heap.size w w6 := hb5w.trans (hb6.mono hb5w.size)
    have HS : Hid (Calls Tryd.prog 21 #[.slice a6 na c6, .slice pa na ca] w6 fun e w' => e = .returned (.bool true) ∧ Below w6.heap.size w6 w') := by
      have h := same_any a6 pa na c6 na ca za za w6 hna hna hO6.bytes (HA.out w6 hb6w) (by omega)
      rw [decide_eq_true rfl] at h
      exact h
    clear hO6 HX
    go_wp2_with (first | (go_at_call 15; refine (num_any _ _).mono ?_; rintro e wn ⟨rfl, rfl⟩))
    refine HS.out.mono ?_
    rintro e w7 ⟨rfl, hb7⟩
    go_wp2_with fail
    go_ret
    exact ⟨rfl, hb6w.trans (hb7.mono hb6w.size)⟩
  · rw [exa_frame_more za zb (by omega) (by omega)] at HX
    simp only [List.length_nil] at HX
    go_wp2_with (first | (go_at_call 17; refine HX.out.mono ?_; rintro e w6 ⟨a6, c6, rfl, hO6, hb6⟩) | (go_at_call 15; refine (num_any _ _).mono ?_; rintro e wn ⟨rfl, rfl⟩))
    go_ret
    exact ⟨rfl, hb5w.trans (hb6.mono hb5w.size)⟩
end Go.Proofs.YtehmifdgfgngdaaDoor
