import Derived.Test.YtikfpoabaaiegaaPack0
import Derived.Lib.Bytealg
namespace Go.Proofs.Ytikfpoabaaiegaa
open Go.RowKit
set_option maxRecDepth 8000
theorem wrap_u64 (x : Int) : IntKind.u64.wrap x = x % 18446744073709551616 := by
  simp [IntKind.wrap, IntKind.bits, IntKind.signed]
end Go.Proofs.Ytikfpoabaaiegaa

namespace Go.Proofs.Ytikfpoabaaiegaa
open Go.RowKit
set_option maxRecDepth 8000

end Go.Proofs.Ytikfpoabaaiegaa

namespace Go.Proofs.Ytikfpoabaaiegaa
open Go.RowKit
set_option maxRecDepth 8000

def fitB (k i : Int) (s : ByteArray) (n : Nat) : Bool := decide (0 ≤ k) && decide (k ≤ 3) && (decide (i = 0) || decide (k = 1)) && (s.toList.isEmpty || decide (k = 2)) && (decide (n = 0) || decide (k = 3))

end Go.Proofs.Ytikfpoabaaiegaa

namespace Go.Proofs.Ytikfpoabaaiegaa
open Go.RowKit

def stepN (g : Nat → Nat → Nat × Nat) (m : Nat) : Nat → Nat × Nat
  | 0 => (0, m)
  | j + 1 => if (stepN g m j).1 = 0 then g j (stepN g m j).2 else stepN g m j
def chk : VT → Nat → Nat → Nat × Nat
  | .nil, _, m => if 12 ≤ m then (22, m + 1) else (0, m + 1)
  | .mk k i s n _ _ f, d, m =>
    if 12 ≤ m then (22, m + 1) else if fitB k i s n = false then (20, m + 1) else if k = 3 ∧ 3 ≤ d then (23, m + 1) else if 24 < s.size then (21, m + 1) else if 6 < n then (22, m + 1)
    else stepN (fun j m => chk (f j) (d + 1) m) (m + 1) n

theorem chk_eq (k i : Int) (s : ByteArray) (n : Nat) (p : Option Addr) (c : Nat) (f : Nat → VT) (d m : Nat) : chk (.mk k i s n p c f) d m =
    if 12 ≤ m then (22, m + 1) else if fitB k i s n = false then (20, m + 1) else if k = 3 ∧ 3 ≤ d then (23, m + 1) else if 24 < s.size then (21, m + 1) else if 6 < n then (22, m + 1)
    else stepN (fun j m => chk (f j) (d + 1) m) (m + 1) n := rfl
theorem stepN_succ {g : Nat → Nat → Nat × Nat} {m j : Nat} (h : (stepN g m j).1 = 0) : stepN g m (j + 1) = g j (stepN g m j).2 := by
  show (if _ then _ else _) = _
  rw [if_pos h]
theorem stepN_congr {g h : Nat → Nat → Nat × Nat} {m : Nat} : ∀ n, (∀ j, j < n → ∀ m, g j m = h j m) → stepN g m n = stepN h m n := by
  intro n
  induction n with
  | zero => intro _; rfl
  | succ n ih =>
    intro e
    have e1 := ih fun j hj m => e j (by omega) m
    show (if (stepN g m n).1 = 0 then g n (stepN g m n).2 else stepN g m n) = (if (stepN h m n).1 = 0 then h n (stepN h m n).2 else stepN h m n)
    rw [e1, e n (by omega)]
end Go.Proofs.Ytikfpoabaaiegaa

namespace Go.Proofs.Ytikfpoabaaiegaa
open Go.RowKit
set_option maxRecDepth 8000

structure PT where
  kind : Int
  int : Int
  text : ByteArray
  n : Nat
def PT.cells (q : PT) : List Value := [.int .i64 q.kind, .int .i64 q.int, .string q.text, .int .i64 q.n]
def ptCells (l : List PT) : List Value := l.flatMap PT.cells
def flatP : VT → List PT
  | .nil => [⟨0, 0, ⟨#[]⟩, 0⟩]
  | .mk k i s n _ _ f => ⟨k, i, s, n⟩ :: (List.range n).flatMap fun j => flatP (f j)
theorem flatP_eq (k i : Int) (s : ByteArray) (n : Nat) (p : Option Addr) (c : Nat) (f : Nat → VT) : flatP (.mk k i s n p c f) = ⟨k, i, s, n⟩ :: (List.range n).flatMap fun j => flatP (f j) := rfl
def flatN (f : Nat → VT) (j : Nat) : List PT := (List.range j).flatMap fun j => flatP (f j)
theorem flatN_succ (f : Nat → VT) (j : Nat) : flatN f (j + 1) = flatN f j ++ flatP (f j) := by simp [flatN, List.range_succ, List.flatMap_append]

end Go.Proofs.Ytikfpoabaaiegaa
