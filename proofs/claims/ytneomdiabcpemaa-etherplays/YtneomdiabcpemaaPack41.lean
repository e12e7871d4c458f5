import Derived.Test.YtneomdiabcpemaaHoldY
import Derived.Test.YtneomdiabcpemaaHoldF
import Derived.Test.YtneomdiabcpemaaHoldD
import Derived.Test.YtneomdiabcpemaaPack24
import Derived.Test.YtneomdiabcpemaaRoomB
namespace Go.Proofs.Ytneomdiabcpemaa
open Go.RowKit
set_option maxRecDepth 8000

set_option maxHeartbeats 1000000 in
theorem holdY_any (base : Nat) (w : World) (R : RS) (hR : Rm base w R) (hp : R.plainY) :
    Calls Try.prog 34 #[.pointer (some ⟨R.rb, 0, none⟩)] w fun e w' => e = .returned (.bool true) ∧ Below w.heap.size w w' := by
  have H1 : Hid (Calls Try.prog 42 #[.pointer (some ⟨R.rb, 0, none⟩)] w fun e w' => e = .returned (.bool true) ∧ Below w.heap.size w w') := plainY_any base w R hR hp
  have H2 : Hid (∀ W, Below w.heap.size w W → Calls Try.prog 43 #[.pointer (some ⟨R.rb, 0, none⟩)] W fun e w' => e = .returned (.bool true) ∧ Below W.heap.size W w') := fun W hW => flow_of base W R (hR.below hW) (hp 5 (by omega) (by omega) (by omega) (by omega)) (hp 6 (by omega) (by omega) (by omega) (by omega)) (hp 8 (by omega) (by omega) (by omega) (by omega))
  have H3 : Hid (∀ W, Below w.heap.size w W → Calls Try.prog 44 #[.pointer (some ⟨R.rb, 0, none⟩)] W fun e w' => e = .returned (.bool true) ∧ Below W.heap.size W w') := fun W hW => lists_any base W R (hR.below hW) (hp 7 (by omega) (by omega) (by omega) (by omega))
  have H4 : Hid (∀ W, Below w.heap.size w W → Calls Try.prog 45 #[.pointer (some ⟨R.rb, 0, none⟩)] W fun e w' => e = .returned (.bool true) ∧ Below W.heap.size W w') := fun W hW => deepHold_any base W R (hR.below hW) (hp 4 (by omega) (by omega) (by omega) (by omega))
  clear hR hp
  go_enter Try.func34, Try.ntmps34
  go_wp2_with fail
  refine H1.out.mono ?_
  rintro e w1 ⟨rfl, hb1⟩
  go_wp2_with fail
  refine (H2.out _ hb1).mono ?_
  rintro e w2 ⟨rfl, hb2⟩
  have hb12 := hb1.trans (hb2.mono hb1.size)
  go_wp2_with fail
  refine (H3.out _ hb12).mono ?_
  rintro e w3 ⟨rfl, hb3⟩
  have hb13 := hb12.trans (hb3.mono hb12.size)
  go_wp2_with fail
  refine (H4.out _ hb13).mono ?_
  rintro e w4 ⟨rfl, hb4⟩
  have hb14 := hb13.trans (hb4.mono hb13.size)
  go_wp2
  go_ret
  exact ⟨rfl, hb14⟩
end Go.Proofs.Ytneomdiabcpemaa

namespace Go.Proofs.Ytneomdiabcpemaa
open Go.RowKit
set_option maxRecDepth 8000
/-- a new room -/
def newRoomU (b : Nat) : RS := ⟨b, fun _ => .slice none 0 0, fun _ => []⟩
theorem newRoomU_rm (w : World) (base : Nat) (hb : base ≤ w.heap.size) : Rm base (w.alloc (.cells #[.slice none 0 0, .slice none 0 0, .slice none 0 0, .slice none 0 0, .slice none 0 0, .slice none 0 0, .slice none 0 0, .slice none 0 0, .slice none 0 0, .slice none 0 0] 81)) (newRoomU w.heap.size) where
  box := Box.new _ _ _
  row := fun _ _ => World.ownsRow_nil _ _ _ _
  low := hb
  mark := fun _ _ x hx => absurd hx (List.not_mem_nil)
  apart := fun _ _ _ _ _ b h => absurd h (by simp [newRoomU, Value.ownBlock])
  off := fun _ _ => by simp [newRoomU, Value.ownBlock]
  few := fun _ _ => Nat.zero_le _
theorem newRoomU_hot {b k : Nat} (h : (newRoomU b).hot k) : k = b := by
  rcases h with h | ⟨i, _, h⟩
  · exact h
  · simp [newRoomU, Value.ownBlock] at h
theorem newRoomU_foot {b k : Nat} (h : (newRoomU b).foot k) : k = b := by
  rcases h with h | ⟨i, _, x, hx, _⟩
  · exact newRoomU_hot h
  · simp [newRoomU] at hx
end Go.Proofs.Ytneomdiabcpemaa
