import Derived.Test.YtneomdiabcpemaaOrdSpec
import Derived.Test.YtneomdiabcpemaaPack4
import Derived.Test.YtneomdiabcpemaaPack1
import Derived.Lib.AppendStr
namespace Go.Proofs.Ytneomdiabcpemaa
open Go.RowKit
set_option maxRecDepth 8000
/-- valid, without a look at the number of parts -/
def Val : VT → Prop
  | .nil => False
  | .mk k i s n _ _ f => (fitB k i s n = true ∧ s.size ≤ 24 ∧ n ≤ 6 ∧ -9223372036854775808 ≤ i ∧ i ≤ 9223372036854775807) ∧ ∀ j, j < n → Val (f j)
theorem val_of {w : World} {S : Nat → Prop} : ∀ (t : VT) (d m : Nat), VT.In w S t → (chk t d m).1 = 0 → Val t := by
  intro t
  induction t with
  | nil => intro d m h; exact h.elim
  | mk k i s n p c f ih =>
    intro d m hin h
    rw [chk_eq] at h
    by_cases h1 : 12 ≤ m
    · rw [if_pos h1] at h; simp at h
    rw [if_neg h1] at h
    by_cases h2 : fitB k i s n = false
    · rw [if_pos h2] at h; simp at h
    rw [if_neg h2] at h
    by_cases h3 : k = 3 ∧ 3 ≤ d
    · rw [if_pos h3] at h; simp at h
    rw [if_neg h3] at h
    by_cases h4 : 24 < s.size
    · rw [if_pos h4] at h; simp at h
    rw [if_neg h4] at h
    by_cases h5 : 6 < n
    · rw [if_pos h5] at h; simp at h
    rw [if_neg h5] at h
    refine ⟨⟨by simpa using h2, by omega, by omega, hin.fit.i0, hin.fit.i1⟩, fun j hj => ?_⟩
    have e : ∀ q, q ≤ n → (stepN (fun j m => chk (f j) (d + 1) m) (m + 1) q).1 = 0 := by
      intro q hq
      by_cases hz : (stepN (fun j m => chk (f j) (d + 1) m) (m + 1) q).1 = 0
      · exact hz
      · rw [stepN_stuck hq hz] at h; exact absurd h hz
    have e1 := e (j + 1) hj
    rw [stepN_succ (e j (by omega))] at e1
    exact ih j _ _ (hin.sub hj) e1
theorem zero_val : Val zeroT := ⟨⟨by simp [fitB], by decide, by omega, by omega, by omega⟩, fun j hj => absurd hj (by omega)⟩
theorem clean_val {w : World} {S : Nat → Prop} {t : VT} (h : VT.In w S t) : Val (cleanT t) := by
  unfold cleanT
  split
  · rename_i hc; exact val_of t 0 0 h hc
  · exact zero_val
end Go.Proofs.Ytneomdiabcpemaa

namespace Go.Proofs.Ytneomdiabcpemaa
open Go.RowKit
set_option maxRecDepth 8000

/-- a number in groups of seven bits -/
def grpB (u : Nat) : List Int := if u < 128 then [(u : Int)] else ((u % 128 + 128 : Nat) : Int) :: grpB (u / 128)
termination_by u
decreasing_by omega
theorem grpB_small {u : Nat} (h : u < 128) : grpB u = [(u : Int)] := by rw [grpB, if_pos h]
theorem grpB_great {u : Nat} (h : ¬ u < 128) : grpB u = ((u % 128 + 128 : Nat) : Int) :: grpB (u / 128) := by rw [grpB, if_neg h]
theorem grpB_len : ∀ (k u : Nat), u < 128 ^ (k + 1) → (grpB u).length ≤ k + 1 := by
  intro k
  induction k with
  | zero => intro u h; rw [grpB_small (by simpa using h)]; simp
  | succ k ih =>
    intro u h
    by_cases hu : u < 128
    · rw [grpB_small hu]; simp
    · rw [grpB_great hu]
      have h1 : u / 128 < 128 ^ (k + 1) := by
        rw [Nat.div_lt_iff_lt_mul (by omega)]
        rw [Nat.pow_succ] at h
        exact h
      have := ih _ h1
      simp
      omega
/-- the number that an int is folded to -/
def foldN (i : Int) : Nat := if i < 0 then 2 * (-1 - i).toNat + 1 else 2 * i.toNat
/-- a text's bytes -/
def txtB (s : ByteArray) : List Int := s.data.toList.map fun b => (b.toNat : Int)
/-- a value's bytes -/
def encB : VT → List Int
  | .nil => [0]
  | .mk k i s n _ _ f => k :: (if k = 1 then grpB (foldN i) else if k = 2 then (s.size : Int) :: txtB s else if k = 3 then (n : Int) :: (List.range n).flatMap fun j => encB (f j) else [])
theorem encB_eq (k i : Int) (s : ByteArray) (n : Nat) (p : Option Addr) (c : Nat) (f : Nat → VT) : encB (.mk k i s n p c f) = k :: (if k = 1 then grpB (foldN i) else if k = 2 then (s.size : Int) :: txtB s else if k = 3 then (n : Int) :: (List.range n).flatMap fun j => encB (f j) else []) := rfl
/-- a part's bytes -/
def encP (q : PT) : List Int := q.kind :: (if q.kind = 1 then grpB (foldN q.int) else if q.kind = 2 then (q.text.size : Int) :: txtB q.text else if q.kind = 3 then [(q.n : Int)] else [])
theorem strCells_txt (s : ByteArray) : Go.Lib.strCells s = (txtB s).map (Value.int .u8) := by
  simp [Go.Lib.strCells, txtB, List.map_map, Function.comp_def]
theorem txtB_len (s : ByteArray) : (txtB s).length = s.size := by
  unfold txtB
  rw [List.length_map, Array.length_toList]
  rfl
theorem enc_flat : ∀ t : VT, Val t → (flatP t).flatMap encP = encB t := by
  intro t
  induction t with
  | nil => intro h; exact h.elim
  | mk k i s n p c f ih =>
    intro h
    obtain ⟨⟨h1, _⟩, h2⟩ := h
    rw [flatP_eq, encB_eq, List.flatMap_cons]
    have h3 : ((List.range n).flatMap fun j => flatP (f j)).flatMap encP = (List.range n).flatMap fun j => encB (f j) := by
      rw [List.flatMap_assoc, List.flatMap_def, List.flatMap_def]
      congr 1
      apply List.map_congr_left
      intro j hj
      exact ih j (h2 j (List.mem_range.1 hj))
    rw [h3]
    by_cases hk : k = 3
    · subst hk
      simp [encP]
    · have hn : n = 0 := by
        simp only [fitB, Bool.and_eq_true, Bool.or_eq_true, decide_eq_true_eq] at h1
        rcases h1.2 with h | h
        · exact h
        · exact absurd h hk
      subst hn
      simp [encP, hk]
theorem foldN_lt {i : Int} (h1 : -9223372036854775808 ≤ i) (h2 : i ≤ 9223372036854775807) : foldN i < 18446744073709551616 := by
  unfold foldN; split <;> omega
theorem grp_fold_len {i : Int} (h1 : -9223372036854775808 ≤ i) (h2 : i ≤ 9223372036854775807) : (grpB (foldN i)).length ≤ 10 :=
  grpB_len 9 _ (Nat.lt_of_lt_of_le (foldN_lt h1 h2) (by decide))
theorem encP_len {t : VT} (h : Val t) : ∀ q ∈ flatP t, (encP q).length ≤ 60 := by
  induction t with
  | nil => exact h.elim
  | mk k i s n p c f ih =>
    obtain ⟨⟨h1, h2, h3, h4, h5⟩, h6⟩ := h
    intro q hq
    rw [flatP_eq, List.mem_cons] at hq
    rcases hq with rfl | hq
    · have := grp_fold_len h4 h5
      have := txtB_len s
      simp only [encP]
      split
      · simp; omega
      · split
        · simp; omega
        · split <;> simp
    · obtain ⟨j, hj, hq⟩ := List.mem_flatMap.1 hq
      exact ih j (h6 j (List.mem_range.1 hj)) q hq
theorem flatMap_le {α β : Type} (g : α → List β) (m : Nat) : ∀ l : List α, (∀ q ∈ l, (g q).length ≤ m) → (l.flatMap g).length ≤ m * l.length := by
  intro l
  induction l with
  | nil => intro _; simp
  | cons a r ih =>
    intro h
    have h1 := h a (List.mem_cons_self ..)
    have h2 := ih fun q hq => h q (List.mem_cons_of_mem _ hq)
    rw [List.flatMap_cons, List.length_append, List.length_cons, Nat.mul_succ]
    omega
theorem enc_len {t : VT} (h : Val t) : (encB t).length ≤ 60 * (flatP t).length := by
  rw [← enc_flat t h]; exact flatMap_le _ _ _ (encP_len h)

theorem or128 (u : Nat) : (u % 256) ||| 128 = u % 128 + 128 := by
  have h : ∀ v : Nat, v < 256 → v ||| 128 = v % 128 + 128 := by decide
  rw [h _ (Nat.mod_lt _ (by omega))]
  omega
theorem bits_or128 (u : Nat) : bits BinOp.or IntKind.u8 ((u % 256 : Nat) : Int) 128 = ((u % 128 + 128 : Nat) : Int) := by
  rw [← or128]
  have h : ∀ v : Nat, v < 256 → bits BinOp.or IntKind.u8 (v : Int) 128 = ((v ||| 128 : Nat) : Int) := by decide
  exact h _ (Nat.mod_lt _ (by omega))
end Go.Proofs.Ytneomdiabcpemaa
