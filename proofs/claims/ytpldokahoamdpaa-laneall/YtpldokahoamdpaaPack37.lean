import Derived.Test.YtpldokahoamdpaaLeF
import Derived.Test.YtpldokahoamdpaaPack34
import Derived.Test.YtpldokahoamdpaaLeI
import Derived.Test.YtpldokahoamdpaaLeJ
import Derived.Test.YtpldokahoamdpaaPack0
namespace Go.Proofs.Ytpldokahoamdpaa
open Go.RowKit
set_option maxRecDepth 8000

set_option maxHeartbeats 1000000 in
theorem holdI_any (base : Nat) (w : World) (R : RS) (hR : Rm base w R) (hp : R.plainI) :
    Calls Try.prog 45 #[.pointer (some ⟨R.rb, 0, none⟩)] w fun e w' => e = .returned (.bool true) ∧ Below w.heap.size w w' := by
  have H1 : Hid (Calls Try.prog 64 #[.pointer (some ⟨R.rb, 0, none⟩)] w fun e w' => e = .returned (.bool true) ∧ Below w.heap.size w w') := plainI_any base w R hR hp
  have H2 : Hid (∀ W, Below w.heap.size w W → Calls Try.prog 65 #[.pointer (some ⟨R.rb, 0, none⟩)] W fun e w' => e = .returned (.bool true) ∧ Below W.heap.size W w') := fun W hW => flowI_any base W R (hR.below hW) hp
  have H3 : Hid (∀ W, Below w.heap.size w W → Calls Try.prog 66 #[.pointer (some ⟨R.rb, 0, none⟩)] W fun e w' => e = .returned (.bool true) ∧ Below W.heap.size W w') := fun W hW => lists_any base W R (hR.below hW) (hp 7 (by omega) (by omega) (by omega) (by omega) (by omega))
  have H4 : Hid (∀ W, Below w.heap.size w W → Calls Try.prog 67 #[.pointer (some ⟨R.rb, 0, none⟩)] W fun e w' => e = .returned (.bool true) ∧ Below W.heap.size W w') := fun W hW => deepI_any base W R (hR.below hW)
  clear hR hp
  go_enter Try.func45, Try.ntmps45
  go_wp2_with fail
  refine H1.out.mono ?_
  rintro e w1 ⟨rfl, hb1⟩
  go_wp2_with fail
  refine (H2.out _ hb1).mono ?_
  rintro e w2 ⟨rfl, hb2⟩
  have hb12 := hb1.trans (hb2.mono hb1.size)
  go_wp2_with fail
  refine (H3.out _ hb12).mono ?_
  rintro e w3 ⟨rfl, hb3⟩
  have hb13 := hb12.trans (hb3.mono hb12.size)
  go_wp2_with fail
  refine (H4.out _ hb13).mono ?_
  rintro e w4 ⟨rfl, hb4⟩
  have hb14 := hb13.trans (hb4.mono hb13.size)
  go_wp2
  go_ret
  exact ⟨rfl, hb14⟩
end Go.Proofs.Ytpldokahoamdpaa

namespace Go.Proofs.Ytpldokahoamdpaa
open Go.RowKit
set_option maxRecDepth 8000
theorem kindVs : ∃ i, Kind 90 28 i (.slice none 0 0) 1 24 := by
  obtain ⟨i0, hi, hz0, hz1, hz2⟩ := info_parts (show (Try.prog.info? 28).map (fun i => (i.zero, i.size, i.bytes)) = some (some (.slice none 0 0), 1, 24) by kernel_rfl)
  exact ⟨i0, Try.underlying90, hi, hz0, hz1, hz2, rfl, by decide⟩
end Go.Proofs.Ytpldokahoamdpaa
