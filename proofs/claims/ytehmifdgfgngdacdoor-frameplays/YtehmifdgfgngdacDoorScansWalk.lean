import Derived.Test.YtehmifdgfgngdacDoorRScan
import Derived.Test.YtehmifdgfgngdacDoorListsMore
namespace Go.Proofs.YtehmifdgfgngdacDoor
open Go.RowKit
set_option maxRecDepth 8000

set_option maxHeartbeats 400000 in
theorem scans_long (pa : Option Addr) (na ca : Nat) (w : World) (ha : na ≤ 140737488355328) (hl : 131072 < na) :
    Calls Tryd.prog 16 #[.slice pa na ca] w fun e w' => e = .returned (.bool true) ∧ Below w.heap.size w w' := by
  go_enter Tryd.func16, Tryd.ntmps16
  go_wp2_with fail
  go_ret
  exact ⟨rfl, Below.refl _ _⟩
set_option maxHeartbeats 1000000 in
theorem scans_short (pa : Option Addr) (na ca : Nat) (za : List Int) (w : World) (hna : za.length = na) (hA : Bytes w pa za) (hc : na ≤ ca) (hT : Tab w) (hm : na ≤ 131072) :
    Calls Tryd.prog 16 #[.slice pa na ca] w fun e w' => e = .returned (.bool true) ∧ Below w.heap.size w w' := by
  have H0 : Hid (Calls Tryd.prog 29 #[] w fun e w' => e = .returned (.bool true) ∧ Below w.heap.size w w') := unwraps_any w hT
  have H1 : Hid (∀ W, Below w.heap.size w W → Calls Tryd.prog 30 #[.slice pa na ca] W fun e w' => ∃ q c' vs, e = .returned (.tuple #[.slice q (scanL za).length c', .int .i64 (scanP za : Nat), .int .i64 (scanE za : Nat)]) ∧ OwnL W.heap.size w' (.slice q (scanL za).length c') vs (scanL za) ∧ Below W.heap.size W w') := fun W hW => rscan_any pa na ca za W hna (hA.later hW) hc (by omega)
  have H2 : Hid (∀ W, Below w.heap.size w W → Calls Tryd.prog 31 #[.slice pa na ca] W fun e w' => ∃ q c' vs, e = .returned (.tuple #[.slice q (scanL za).length c', .int .i64 (scanP za : Nat), .int .i64 (scanE za : Nat)]) ∧ OwnL W.heap.size w' (.slice q (scanL za).length c') vs (scanL za) ∧ Below W.heap.size W w') := fun W hW => scan_any pa na ca za W hna (hA.later hW) hc (by omega) (hT.later hW)
  have hll := scanL_len za
  have HS : Hid (∀ W a b c d va vb B B', OwnL B W (.slice a (scanL za).length c) va (scanL za) → OwnL B' W (.slice b (scanL za).length d) vb (scanL za) → Calls Tryd.prog 32 #[.slice a (scanL za).length c, .slice b (scanL za).length d] W fun e w' => e = .returned (.bool true) ∧ Below W.heap.size W w') := by
    intro W a b c d va vb B B' h1 h2
    have hs : ∀ z ∈ scanL za, z.length ≤ 140737488355328 := fun z hz => by have := scanL_short za z hz; omega
    have h := alike_any a b _ c _ d _ _ (scanL za) (scanL za) W rfl rfl (h1.lists hs) (h2.lists hs) (by omega)
    rw [decide_eq_true rfl] at h
    exact h
  clear hA hT hll
  generalize scanE za = err at *
  generalize scanP za = pos at *
  generalize scanL za = zss at *
  go_enter Tryd.func16, Tryd.ntmps16
  go_wp2_with (first | (go_at_call 29; refine H0.out.mono ?_; rintro e w0 ⟨rfl, hb0⟩) | (go_at_call 30; refine (H1.out w0 hb0).mono ?_; rintro e w1 ⟨a1, c1, vs1, rfl, hO1, hb1⟩; have hb1w := hb0.trans (hb1.mono hb0.size)) | (go_at_call 31; refine (H2.out w1 hb1w).mono ?_; rintro e w2 ⟨a2, c2, vs2, rfl, hO2, hb2⟩; have hO1' := hO1.below hb2) | (go_at_call 24; refine (num_any _ _).mono ?_; rintro e wn ⟨rfl, rfl⟩) | (go_at_call 32; refine (HS.out _ _ _ _ _ _ _ _ _ hO2 hO1').mono ?_; rintro e w5 ⟨rfl, hb5⟩))
  go_ret
  exact ⟨rfl, (hb1w.trans (hb2.mono hb1w.size)).trans (hb5.mono (Nat.le_trans hb1w.size hb2.size))⟩
end Go.Proofs.YtehmifdgfgngdacDoor
