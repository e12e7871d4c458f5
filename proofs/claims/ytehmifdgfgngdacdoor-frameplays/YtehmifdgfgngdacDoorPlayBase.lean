import Derived.Test.YtehmifdgfgngdacDoorRef
import Derived.Test.YtehmifdgfgngdacDoorRoomy
import Derived.Test.YtehmifdgfgngdacDoorSame
import Derived.Test.YtehmifdgfgngdacDoorHead
namespace Go.Proofs.YtehmifdgfgngdacDoor
open Go.RowKit
set_option maxRecDepth 8000

/-- what a call over what is lent does -/
structure Lent (s X Y : Nat) (pa : Option Addr) (na ca : Nat) (pl : Option Addr) (cl : Nat) (p : Option Addr) (c : Nat) (pb : Option Addr) (cb : Nat) (w : World) : Prop where
  sum : ∀ W, Below w.heap.size w W → Calls Tryd.prog 9 #[.slice pl na cl] W fun e w' => e = .returned (.int .u32 (X : Int)) ∧ w' = W
  rsum : ∀ W, Below w.heap.size w W → Calls Tryd.prog 10 #[.slice pa na ca] W fun e w' => e = .returned (.int .u32 (X : Int)) ∧ w' = W
  add : ∀ W, Below w.heap.size w W → Calls Tryd.prog 11 #[.int .u32 (s : Int), .slice pl na cl] W fun e w' => e = .returned (.int .u32 (Y : Int)) ∧ w' = W
  radd : ∀ W, Below w.heap.size w W → Calls Tryd.prog 12 #[.int .u32 (s : Int), .slice pa na ca] W fun e w' => e = .returned (.int .u32 (Y : Int)) ∧ w' = W
  wraps : Calls Tryd.prog 13 #[.slice pl na cl] w fun e w' => e = .returned (.bool true) ∧ Below w.heap.size w w'
  unws : Calls Tryd.prog 14 #[.slice pl na cl] w fun e w' => e = .returned (.bool true) ∧ Below w.heap.size w w'
  exas : Calls Tryd.prog 15 #[.slice pl na cl] w fun e w' => e = .returned (.bool true) ∧ Below w.heap.size w w'
  scans : Calls Tryd.prog 16 #[.slice pl na cl] w fun e w' => e = .returned (.bool true) ∧ Below w.heap.size w w'
  like : ∀ W, Below w.heap.size w W → Calls Tryd.prog 17 #[.slice p (na + 60) c, .slice pb (na + 60) cb] W fun e w' => e = .returned (.bool true) ∧ Below W.heap.size W w'

/-- what the two calls before do -/
def RoomyDoes (pa : Option Addr) (na ca : Nat) (za : List Int) (w : World) : Prop :=
  ∀ W, Below w.heap.size w W → Calls Tryd.prog 7 #[.slice pa na ca] W fun e w' => ∃ g c, e = .returned (.slice (some ⟨g, 0, none⟩) (na + 60) c) ∧ na + 60 ≤ c ∧ OwnB W.heap.size w' (some ⟨g, 0, none⟩) c (za ++ roomTail 60) ∧ Below W.heap.size W w'
def JoinedDoes (s X Y : Nat) (pa : Option Addr) (na ca : Nat) (za : List Int) (w : World) : Prop :=
  ∀ B w1 g c, OwnB B w1 (some ⟨g, 0, none⟩) c (za ++ roomTail 60) → Below w.heap.size w w1 → Calls Tryd.prog 8 #[.slice (some ⟨g, 0, none⟩) (na + 60) c, .slice none 0 0] w1 fun e w' => ∃ pb cb, e = .returned (.slice pb (na + 60) cb) ∧ Below w1.heap.size w1 w' ∧
      Lent s X Y pa na ca (some ⟨g, 0, none⟩) (na + 60) (some ⟨g, 0, none⟩) c pb cb w' ∧ (na = 0 → Lent s X Y pa na ca none 0 (some ⟨g, 0, none⟩) c pb cb w')
end Go.Proofs.YtehmifdgfgngdacDoor
