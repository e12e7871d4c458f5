import Derived.Test.YtkodlhjcoeljiaaHoldC
import Derived.Test.YtkodlhjcoeljiaaHoldF
import Derived.Test.YtkodlhjcoeljiaaHoldD
namespace Go.Proofs.Ytkodlhjcoeljiaa
open Go.RowKit
set_option maxRecDepth 8000

set_option maxHeartbeats 1000000 in
theorem holdK_any (base : Nat) (w : World) (R : RS) (hR : Rm base w R) (hp : R.plainK) :
    Calls Try.prog 13 #[.pointer (some ⟨R.rb, 0, none⟩)] w fun e w' => e = .returned (.bool true) ∧ Below w.heap.size w w' := by
  have h7 := hp 7 (by omega) (by omega) (by omega) (by omega) (by omega)
  have h4 := hp 4 (by omega) (by omega) (by omega) (by omega) (by omega)
  have H1 : Hid (Calls Try.prog 39 #[.pointer (some ⟨R.rb, 0, none⟩)] w fun e w' => e = .returned (.bool true) ∧ Below w.heap.size w w') := plainK_any base w R hR hp
  have H2 : Hid (∀ W, Below w.heap.size w W → Calls Try.prog 40 #[.pointer (some ⟨R.rb, 0, none⟩)] W fun e w' => e = .returned (.bool true) ∧ Below W.heap.size W w') := fun W hW => flowK_any base W R (hR.below hW) hp
  have H3 : Hid (∀ W, Below w.heap.size w W → Calls Try.prog 41 #[.pointer (some ⟨R.rb, 0, none⟩)] W fun e w' => e = .returned (.bool true) ∧ Below W.heap.size W w') := fun W hW => lists_any base W R (hR.below hW) h7
  have H4 : Hid (∀ W, Below w.heap.size w W → Calls Try.prog 42 #[.pointer (some ⟨R.rb, 0, none⟩)] W fun e w' => e = .returned (.bool true) ∧ Below W.heap.size W w') := fun W hW => deepHold_any base W R (hR.below hW) h4
  clear hR hp h4 h7
  go_enter Try.func13, Try.ntmps13
  go_wp2_with fail
  refine H1.out.mono ?_
  rintro e w1 ⟨rfl, hb1⟩
  go_wp2_with fail
  refine (H2.out _ hb1).mono ?_
  rintro e w2 ⟨rfl, hb2⟩
  have hb12 := hb1.trans (hb2.mono hb1.size)
  go_wp2_with fail
  refine (H3.out _ hb12).mono ?_
  rintro e w3 ⟨rfl, hb3⟩
  have hb13 := hb12.trans (hb3.mono hb12.size)
  go_wp2_with fail
  refine (H4.out _ hb13).mono ?_
  rintro e w4 ⟨rfl, hb4⟩
  have hb14 := hb13.trans (hb4.mono hb13.size)
  go_wp2
  go_ret
  exact ⟨rfl, hb14⟩
end Go.Proofs.Ytkodlhjcoeljiaa
