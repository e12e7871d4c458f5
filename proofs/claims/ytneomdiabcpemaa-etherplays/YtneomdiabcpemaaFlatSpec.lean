import Derived.Test.YtneomdiabcpemaaChkSpec
import Derived.Test.YtneomdiabcpemaaPack0
namespace Go.Proofs.Ytneomdiabcpemaa
open Go.RowKit
set_option maxRecDepth 8000

/-- a part of a value, as the reference keeps it -/
structure PT where
  kind : Int
  int : Int
  text : ByteArray
  n : Nat
def PT.cells (q : PT) : List Value := [.int .i64 q.kind, .int .i64 q.int, .string q.text, .int .i64 q.n]
/-- the cells of parts -/
def ptCells (l : List PT) : List Value := l.flatMap PT.cells
/-- the parts of t, from the left -/
def flatP : VT → List PT
  | .nil => [⟨0, 0, ⟨#[]⟩, 0⟩]
  | .mk k i s n _ _ f => ⟨k, i, s, n⟩ :: (List.range n).flatMap fun j => flatP (f j)
theorem flatP_eq (k i : Int) (s : ByteArray) (n : Nat) (p : Option Addr) (c : Nat) (f : Nat → VT) : flatP (.mk k i s n p c f) = ⟨k, i, s, n⟩ :: (List.range n).flatMap fun j => flatP (f j) := rfl
/-- the parts of the first j items -/
def flatN (f : Nat → VT) (j : Nat) : List PT := (List.range j).flatMap fun j => flatP (f j)
theorem flatN_succ (f : Nat → VT) (j : Nat) : flatN f (j + 1) = flatN f j ++ flatP (f j) := by simp [flatN, List.range_succ, List.flatMap_append]

/-- where nothing is wrong, as many parts were looked at as there are -/
theorem chk_len : ∀ (t : VT) (d m : Nat), (chk t d m).1 = 0 → (chk t d m).2 = m + (flatP t).length := by
  intro t
  induction t with
  | nil =>
    intro d m
    unfold chk
    by_cases h1 : 12 ≤ m
    · rw [if_pos h1]; intro h; simp at h
    · rw [if_neg h1]; intro _; rfl
  | mk k i s n p c f ih =>
    intro d m
    rw [chk_eq, flatP_eq]
    have key : ∀ j, (stepN (fun j m => chk (f j) (d + 1) m) (m + 1) j).1 = 0 → (stepN (fun j m => chk (f j) (d + 1) m) (m + 1) j).2 = m + 1 + (flatN f j).length := by
      intro j
      induction j with
      | zero => intro _; rfl
      | succ j ihj =>
        by_cases h : (stepN (fun j m => chk (f j) (d + 1) m) (m + 1) j).1 = 0
        · rw [stepN_succ h]
          intro h2
          rw [ih j _ _ h2, ihj h, flatN_succ, List.length_append]; omega
        · rw [stepN_stuck (Nat.le_succ j) h]
          intro h2; exact absurd h2 h
    by_cases h1 : 12 ≤ m
    · rw [if_pos h1]; intro h; simp at h
    rw [if_neg h1]
    by_cases h2 : fitB k i s n = false
    · rw [if_pos h2]; intro h; simp at h
    rw [if_neg h2]
    by_cases h3 : k = 3 ∧ 3 ≤ d
    · rw [if_pos h3]; intro h; simp at h
    rw [if_neg h3]
    by_cases h4 : 24 < s.size
    · rw [if_pos h4]; intro h; simp at h
    rw [if_neg h4]
    by_cases h5 : 6 < n
    · rw [if_pos h5]; intro h; simp at h
    rw [if_neg h5]
    intro h
    rw [key n h]
    simp only [List.length_cons, flatN]; omega

/-- what flat leaves: the list is where it was or in new memory; nothing else is changed -/
structure Laid (w w' : World) (v v' : Value) : Prop where
  near : Near w v v'
  but : But (fun k => v.ownBlock = some k) w w'
theorem Laid.refl (w : World) (v : Value) : Laid w w v v := ⟨.inl rfl, But.refl _ _⟩
theorem Laid.trans {a b c : World} {u v x : Value} (h : Laid a b u v) (k : Laid b c v x) : Laid a c u x := by
  refine ⟨?_, ?_⟩
  · rcases k.near with e | e
    · rcases h.near with e2 | e2
      · exact .inl (e.trans e2)
      · exact .inr fun g hg => e2 g (e ▸ hg)
    · exact .inr fun g hg => Nat.le_trans h.but.size (e g hg)
  · refine ⟨k.but.os.trans h.but.os, k.but.tape.trans h.but.tape, k.but.output.trans h.but.output, Nat.le_trans h.but.size k.but.size, fun q hq hx => ?_⟩
    refine (k.but.block q (Nat.lt_of_lt_of_le hq h.but.size) fun e => ?_).trans (h.but.block q hq hx)
    rcases h.near with e2 | e2
    · exact hx (e2 ▸ e)
    · have := e2 q e; omega
theorem Laid.below {w w1 w' : World} {v v' : Value} (h : Laid w w1 v v') (hb : Below w1.heap.size w1 w') : Laid w w' v v' := h.trans ⟨.inl rfl, But.ofBelow hb⟩
end Go.Proofs.Ytneomdiabcpemaa
