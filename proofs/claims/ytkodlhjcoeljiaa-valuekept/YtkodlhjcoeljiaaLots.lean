import Derived.Test.YtkodlhjcoeljiaaApp2
namespace Go.Proofs.Ytkodlhjcoeljiaa
open Go.RowKit
set_option maxRecDepth 8000

/-- the mark of a place behind a list -/
def lotN (i : Nat) : Int := if i % 2 = 0 then -7701 else -7702
/-- the value that marks a place -/
def markV (i : Nat) : VT := .mk 1 (lotN i) ⟨#[]⟩ 0 none 0 (fun _ => .nil)

theorem lot_any (i : Nat) (_hi : i ≤ 1000000) (w : World) :
    Calls Try.prog 53 #[.int .i64 (i : Int)] w fun e w' => e = .returned (.int .i64 (lotN i)) ∧ w' = w := by
  by_cases h : i % 2 = 0
  · have h2 : (i : Int).tmod 2 = 0 := by rw [show (i : Int).tmod 2 = ((i % 2 : Nat) : Int) from rfl, h]; rfl
    rw [lotN, if_pos h]
    go_enter Try.func53, Try.ntmps53
    go_wp2
    go_ret
    exact ⟨rfl, rfl⟩
  · have h2 : (i : Int).tmod 2 = 1 := by rw [show (i : Int).tmod 2 = ((i % 2 : Nat) : Int) from rfl, show i % 2 = 1 by omega]; rfl
    rw [lotN, if_neg h]
    go_enter Try.func53, Try.ntmps53
    go_wp2
    go_ret
    exact ⟨rfl, rfl⟩
theorem mark_any (n : Int) (w : World) :
    Calls Try.prog 61 #[.int .i64 n] w fun e w' => e = .returned (.agg #[.int .i64 1, .int .i64 n, .string ⟨#[]⟩, .slice none 0 0]) ∧ Below w.heap.size w w' := by
  go_enter Try.func61, Try.ntmps61
  go_wp2
  refine bodyPost_ret (v := .agg #[.int .i64 1, .int .i64 n, .string ⟨#[]⟩, .slice none 0 0]) (by simp [results, Try.results61, go_sem]) rfl ⟨rfl, (Below.refl _ _).alloc (Nat.le_refl _) _⟩
end Go.Proofs.Ytkodlhjcoeljiaa
