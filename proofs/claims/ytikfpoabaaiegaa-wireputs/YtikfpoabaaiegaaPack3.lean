import Derived.Test.YtikfpoabaaiegaaFits
import Derived.Test.YtikfpoabaaiegaaPack0
import Derived.Test.YtikfpoabaaiegaaPack1
import Derived.Lib.AppendStr
namespace Go.Proofs.Ytikfpoabaaiegaa
open Go.RowKit

/-- item by item, till one is wrong: what is wrong, and how many parts were looked at -/
def stepN (g : Nat → Nat → Nat × Nat) (m : Nat) : Nat → Nat × Nat
  | 0 => (0, m)
  | j + 1 => if (stepN g m j).1 = 0 then g j (stepN g m j).2 else stepN g m j
/-- what is wrong with a part that stands in d lists, m parts having been looked at -/
def chk : VT → Nat → Nat → Nat × Nat
  | .nil, _, m => if 12 ≤ m then (22, m + 1) else (0, m + 1)
  | .mk k i s n _ _ f, d, m =>
    if 12 ≤ m then (22, m + 1) else if fitB k i s n = false then (20, m + 1) else if k = 3 ∧ 3 ≤ d then (23, m + 1) else if 24 < s.size then (21, m + 1) else if 6 < n then (22, m + 1)
    else stepN (fun j m => chk (f j) (d + 1) m) (m + 1) n

theorem chk_eq (k i : Int) (s : ByteArray) (n : Nat) (p : Option Addr) (c : Nat) (f : Nat → VT) (d m : Nat) : chk (.mk k i s n p c f) d m =
    if 12 ≤ m then (22, m + 1) else if fitB k i s n = false then (20, m + 1) else if k = 3 ∧ 3 ≤ d then (23, m + 1) else if 24 < s.size then (21, m + 1) else if 6 < n then (22, m + 1)
    else stepN (fun j m => chk (f j) (d + 1) m) (m + 1) n := rfl
theorem stepN_stuck {g : Nat → Nat → Nat × Nat} {m : Nat} : ∀ {n j : Nat}, j ≤ n → (stepN g m j).1 ≠ 0 → stepN g m n = stepN g m j := by
  intro n
  induction n with
  | zero =>
    intro j h _
    obtain rfl : j = 0 := by omega
    rfl
  | succ n ih =>
    intro j h hne
    by_cases hj : j = n + 1
    · rw [hj]
    · have e := ih (show j ≤ n by omega) hne
      show (if (stepN g m n).1 = 0 then _ else stepN g m n) = _
      rw [e, if_neg hne]
theorem stepN_succ {g : Nat → Nat → Nat × Nat} {m j : Nat} (h : (stepN g m j).1 = 0) : stepN g m (j + 1) = g j (stepN g m j).2 := by
  show (if _ then _ else _) = _
  rw [if_pos h]
theorem stepN_le {g : Nat → Nat → Nat × Nat} (hg : ∀ j m, m ≤ 12 → (g j m).2 ≤ 13 ∧ ((g j m).1 = 0 → (g j m).2 ≤ 12)) {m : Nat} (hm : m ≤ 12) : ∀ n, (stepN g m n).2 ≤ 13 ∧ ((stepN g m n).1 = 0 → (stepN g m n).2 ≤ 12) := by
  intro n
  induction n with
  | zero => exact ⟨by show m ≤ 13; omega, fun _ => hm⟩
  | succ n ih =>
    by_cases h : (stepN g m n).1 = 0
    · rw [stepN_succ h]; exact hg n _ (ih.2 h)
    · rw [stepN_stuck (Nat.le_succ n) h]; exact ih
theorem chk_le : ∀ (t : VT) (d m : Nat), m ≤ 12 → (chk t d m).2 ≤ 13 ∧ ((chk t d m).1 = 0 → (chk t d m).2 ≤ 12) := by
  intro t
  induction t with
  | nil =>
    intro d m hm
    unfold chk
    by_cases h1 : 12 ≤ m
    · rw [if_pos h1]; exact ⟨by simp only; omega, fun h => by simp at h⟩
    · rw [if_neg h1]; exact ⟨by simp only; omega, fun _ => by simp only; omega⟩
  | mk k i s n p c f ih =>
    intro d m hm
    rw [chk_eq]
    by_cases h1 : 12 ≤ m
    · rw [if_pos h1]; exact ⟨by simp only; omega, fun h => by simp at h⟩
    rw [if_neg h1]
    by_cases h2 : fitB k i s n = false
    · rw [if_pos h2]; exact ⟨by simp only; omega, fun h => by simp at h⟩
    rw [if_neg h2]
    by_cases h3 : k = 3 ∧ 3 ≤ d
    · rw [if_pos h3]; exact ⟨by simp only; omega, fun h => by simp at h⟩
    rw [if_neg h3]
    by_cases h4 : 24 < s.size
    · rw [if_pos h4]; exact ⟨by simp only; omega, fun h => by simp at h⟩
    rw [if_neg h4]
    by_cases h5 : 6 < n
    · rw [if_pos h5]; exact ⟨by simp only; omega, fun h => by simp at h⟩
    rw [if_neg h5]
    exact stepN_le (fun j m hm => ih j (d + 1) m hm) (by omega) n
theorem stepN_congr {g h : Nat → Nat → Nat × Nat} {m : Nat} : ∀ n, (∀ j, j < n → ∀ m, g j m = h j m) → stepN g m n = stepN h m n := by
  intro n
  induction n with
  | zero => intro _; rfl
  | succ n ih =>
    intro e
    have e1 := ih fun j hj m => e j (by omega) m
    show (if (stepN g m n).1 = 0 then g n (stepN g m n).2 else stepN g m n) = (if (stepN h m n).1 = 0 then h n (stepN h m n).2 else stepN h m n)
    rw [e1, e n (by omega)]
theorem chk_alike : ∀ (t u : VT) (d m : Nat), VT.Alike t u → chk t d m = chk u d m := by
  intro t
  induction t with
  | nil => intro u d m h; rw [show u = .nil from h]
  | mk k i s n p c f ih =>
    intro u d m h
    by_cases hu : u = .nil
    · subst hu
      obtain ⟨h1, h2, h3, h4, _⟩ := h
      subst h1 h2 h3 h4
      rw [chk_eq]
      unfold chk
      by_cases h1 : 12 ≤ m
      · rw [if_pos h1, if_pos h1]
      · rw [if_neg h1, if_neg h1, if_neg (by simp [fitB, VT.kind, VT.int, VT.text, VT.n]), if_neg (by simp [VT.kind]), if_neg (by simp [VT.text]; decide), if_neg (by simp [VT.n])]
        rfl
    obtain ⟨k2, i2, s2, p2, c2, f2, rfl⟩ : ∃ k2 i2 s2 p2 c2 f2, u = .mk k2 i2 s2 n p2 c2 f2 := by
      cases u with
      | nil => exact absurd rfl hu
      | mk k2 i2 s2 n2 p2 c2 f2 => exact ⟨k2, i2, s2, p2, c2, f2, by rw [show n2 = n from h.n]⟩
    obtain ⟨h1, h2, h3, _, hal⟩ := h
    simp only [VT.kind_mk, VT.int_mk, VT.text_mk, VT.item_mk] at h1 h2 h3 hal
    subst h1 h2 h3
    rw [chk_eq, chk_eq]
    rw [stepN_congr n (fun j hj m => ih j (f2 j) (d + 1) m (hal j hj))]
end Go.Proofs.Ytikfpoabaaiegaa

namespace Go.Proofs.Ytikfpoabaaiegaa
open Go.RowKit
set_option maxRecDepth 8000

/-- a part of a value, as the reference keeps it -/
structure PT where
  kind : Int
  int : Int
  text : ByteArray
  n : Nat
def PT.cells (q : PT) : List Value := [.int .i64 q.kind, .int .i64 q.int, .string q.text, .int .i64 q.n]
/-- the cells of parts -/
def ptCells (l : List PT) : List Value := l.flatMap PT.cells
/-- the parts of t, from the left -/
def flatP : VT → List PT
  | .nil => [⟨0, 0, ⟨#[]⟩, 0⟩]
  | .mk k i s n _ _ f => ⟨k, i, s, n⟩ :: (List.range n).flatMap fun j => flatP (f j)
theorem flatP_eq (k i : Int) (s : ByteArray) (n : Nat) (p : Option Addr) (c : Nat) (f : Nat → VT) : flatP (.mk k i s n p c f) = ⟨k, i, s, n⟩ :: (List.range n).flatMap fun j => flatP (f j) := rfl
/-- the parts of the first j items -/
def flatN (f : Nat → VT) (j : Nat) : List PT := (List.range j).flatMap fun j => flatP (f j)
theorem flatN_succ (f : Nat → VT) (j : Nat) : flatN f (j + 1) = flatN f j ++ flatP (f j) := by simp [flatN, List.range_succ, List.flatMap_append]

/-- where nothing is wrong, as many parts were looked at as there are -/
theorem chk_len : ∀ (t : VT) (d m : Nat), (chk t d m).1 = 0 → (chk t d m).2 = m + (flatP t).length := by
  intro t
  induction t with
  | nil =>
    intro d m
    unfold chk
    by_cases h1 : 12 ≤ m
    · rw [if_pos h1]; intro h; simp at h
    · rw [if_neg h1]; intro _; rfl
  | mk k i s n p c f ih =>
    intro d m
    rw [chk_eq, flatP_eq]
    have key : ∀ j, (stepN (fun j m => chk (f j) (d + 1) m) (m + 1) j).1 = 0 → (stepN (fun j m => chk (f j) (d + 1) m) (m + 1) j).2 = m + 1 + (flatN f j).length := by
      intro j
      induction j with
      | zero => intro _; rfl
      | succ j ihj =>
        by_cases h : (stepN (fun j m => chk (f j) (d + 1) m) (m + 1) j).1 = 0
        · rw [stepN_succ h]
          intro h2
          rw [ih j _ _ h2, ihj h, flatN_succ, List.length_append]; omega
        · rw [stepN_stuck (Nat.le_succ j) h]
          intro h2; exact absurd h2 h
    by_cases h1 : 12 ≤ m
    · rw [if_pos h1]; intro h; simp at h
    rw [if_neg h1]
    by_cases h2 : fitB k i s n = false
    · rw [if_pos h2]; intro h; simp at h
    rw [if_neg h2]
    by_cases h3 : k = 3 ∧ 3 ≤ d
    · rw [if_pos h3]; intro h; simp at h
    rw [if_neg h3]
    by_cases h4 : 24 < s.size
    · rw [if_pos h4]; intro h; simp at h
    rw [if_neg h4]
    by_cases h5 : 6 < n
    · rw [if_pos h5]; intro h; simp at h
    rw [if_neg h5]
    intro h
    rw [key n h]
    simp only [List.length_cons, flatN]; omega

/-- what flat leaves: the list is where it was or in new memory; nothing else is changed -/
structure Laid (w w' : World) (v v' : Value) : Prop where
  near : Near w v v'
  but : But (fun k => v.ownBlock = some k) w w'
theorem Laid.refl (w : World) (v : Value) : Laid w w v v := ⟨.inl rfl, But.refl _ _⟩
theorem Laid.trans {a b c : World} {u v x : Value} (h : Laid a b u v) (k : Laid b c v x) : Laid a c u x := by
  refine ⟨?_, ?_⟩
  · rcases k.near with e | e
    · rcases h.near with e2 | e2
      · exact .inl (e.trans e2)
      · exact .inr fun g hg => e2 g (e ▸ hg)
    · exact .inr fun g hg => Nat.le_trans h.but.size (e g hg)
  · refine ⟨k.but.os.trans h.but.os, k.but.tape.trans h.but.tape, k.but.output.trans h.but.output, Nat.le_trans h.but.size k.but.size, fun q hq hx => ?_⟩
    refine (k.but.block q (Nat.lt_of_lt_of_le hq h.but.size) fun e => ?_).trans (h.but.block q hq hx)
    rcases h.near with e2 | e2
    · exact hx (e2 ▸ e)
    · have := e2 q e; omega
theorem Laid.below {w w1 w' : World} {v v' : Value} (h : Laid w w1 v v') (hb : Below w1.heap.size w1 w') : Laid w w' v v' := h.trans ⟨.inl rfl, But.ofBelow hb⟩
end Go.Proofs.Ytikfpoabaaiegaa

namespace Go.Proofs.Ytikfpoabaaiegaa
open Go.RowKit

/-- the first that is not 0 of the first j -/
def firstN (g : Nat → Int) : Nat → Int
  | 0 => 0
  | j + 1 => if firstN g j ≠ 0 then firstN g j else g j
/-- the order of two valid values -/
def ordV : VT → VT → Int
  | .nil, _ => 0
  | .mk k i s n _ _ f, u => if k ≠ u.kind then cmpI k u.kind else if k = 1 then cmpI i u.int else if k = 2 then cmpS s u.text
    else if firstN (fun j => ordV (f j) (u.item j)) (min n u.n) ≠ 0 then firstN (fun j => ordV (f j) (u.item j)) (min n u.n) else cmpI n u.n
theorem ordV_eq (k i : Int) (s : ByteArray) (n : Nat) (p : Option Addr) (c : Nat) (f : Nat → VT) (u : VT) : ordV (.mk k i s n p c f) u = if k ≠ u.kind then cmpI k u.kind else if k = 1 then cmpI i u.int else if k = 2 then cmpS s u.text
    else if firstN (fun j => ordV (f j) (u.item j)) (min n u.n) ≠ 0 then firstN (fun j => ordV (f j) (u.item j)) (min n u.n) else cmpI n u.n := rfl
theorem firstN_stuck {g : Nat → Int} : ∀ {n j : Nat}, j ≤ n → firstN g j ≠ 0 → firstN g n = firstN g j := by
  intro n
  induction n with
  | zero =>
    intro j h _
    obtain rfl : j = 0 := by omega
    rfl
  | succ n ih =>
    intro j h hne
    by_cases hj : j = n + 1
    · rw [hj]
    · have e := ih (show j ≤ n by omega) hne
      show (if firstN g n ≠ 0 then firstN g n else g n) = _
      rw [e, if_pos hne]
theorem firstN_succ {g : Nat → Int} {j : Nat} (h : firstN g j = 0) : firstN g (j + 1) = g j := by
  show (if firstN g j ≠ 0 then firstN g j else g j) = _
  rw [if_neg (by simpa using h)]
theorem firstN_congr {g h : Nat → Int} : ∀ n, (∀ j, j < n → g j = h j) → firstN g n = firstN h n := by
  intro n
  induction n with
  | zero => intro _; rfl
  | succ n ih =>
    intro e
    show (if firstN g n ≠ 0 then firstN g n else g n) = (if firstN h n ≠ 0 then firstN h n else h n)
    rw [ih fun j hj => e j (by omega), e n (by omega)]
/-- none -/
def zeroT : VT := .mk 0 0 ⟨#[]⟩ 0 none 0 (fun _ => .nil)
/-- a value, or none if it isn't valid -/
def cleanT (t : VT) : VT := if (chk t 0 0).1 = 0 then t else zeroT
theorem zeroT_in (w : World) (S : Nat → Prop) : VT.In w S zeroT := by
  refine ⟨⟨?_, ?_, ?_, ?_, ?_, Nat.le_refl 0, ?_, Nat.zero_le _, fun _ => ⟨rfl, rfl⟩⟩, fun h => absurd h (by omega), fun j hj => absurd hj (by omega)⟩
  · show (-9223372036854775808 : Int) ≤ 0; omega
  · show (0 : Int) ≤ 9223372036854775807; omega
  · show (-9223372036854775808 : Int) ≤ 0; omega
  · show (0 : Int) ≤ 9223372036854775807; omega
  · show (⟨#[]⟩ : ByteArray).size ≤ 140737488355328; decide
  · show 0 ≤ 140737488355328; omega
theorem cleanT_in {w : World} {S : Nat → Prop} {t : VT} (h : VT.In w S t) : VT.In w S (cleanT t) := by
  unfold cleanT
  split
  · exact h
  · exact zeroT_in w S
end Go.Proofs.Ytikfpoabaaiegaa

namespace Go.Proofs.Ytikfpoabaaiegaa
open Go.RowKit
set_option maxRecDepth 8000
/-- valid, without a look at the number of parts -/
def Val : VT → Prop
  | .nil => False
  | .mk k i s n _ _ f => (fitB k i s n = true ∧ s.size ≤ 24 ∧ n ≤ 6 ∧ -9223372036854775808 ≤ i ∧ i ≤ 9223372036854775807) ∧ ∀ j, j < n → Val (f j)
theorem val_of {w : World} {S : Nat → Prop} : ∀ (t : VT) (d m : Nat), VT.In w S t → (chk t d m).1 = 0 → Val t := by
  intro t
  induction t with
  | nil => intro d m h; exact h.elim
  | mk k i s n p c f ih =>
    intro d m hin h
    rw [chk_eq] at h
    by_cases h1 : 12 ≤ m
    · rw [if_pos h1] at h; simp at h
    rw [if_neg h1] at h
    by_cases h2 : fitB k i s n = false
    · rw [if_pos h2] at h; simp at h
    rw [if_neg h2] at h
    by_cases h3 : k = 3 ∧ 3 ≤ d
    · rw [if_pos h3] at h; simp at h
    rw [if_neg h3] at h
    by_cases h4 : 24 < s.size
    · rw [if_pos h4] at h; simp at h
    rw [if_neg h4] at h
    by_cases h5 : 6 < n
    · rw [if_pos h5] at h; simp at h
    rw [if_neg h5] at h
    refine ⟨⟨by simpa using h2, by omega, by omega, hin.fit.i0, hin.fit.i1⟩, fun j hj => ?_⟩
    have e : ∀ q, q ≤ n → (stepN (fun j m => chk (f j) (d + 1) m) (m + 1) q).1 = 0 := by
      intro q hq
      by_cases hz : (stepN (fun j m => chk (f j) (d + 1) m) (m + 1) q).1 = 0
      · exact hz
      · rw [stepN_stuck hq hz] at h; exact absurd h hz
    have e1 := e (j + 1) hj
    rw [stepN_succ (e j (by omega))] at e1
    exact ih j _ _ (hin.sub hj) e1
theorem zero_val : Val zeroT := ⟨⟨by simp [fitB], by decide, by omega, by omega, by omega⟩, fun j hj => absurd hj (by omega)⟩
theorem clean_val {w : World} {S : Nat → Prop} {t : VT} (h : VT.In w S t) : Val (cleanT t) := by
  unfold cleanT
  split
  · rename_i hc; exact val_of t 0 0 h hc
  · exact zero_val
end Go.Proofs.Ytikfpoabaaiegaa

namespace Go.Proofs.Ytikfpoabaaiegaa
open Go.RowKit
set_option maxRecDepth 8000

/-- a number in groups of seven bits -/
def grpB (u : Nat) : List Int := if u < 128 then [(u : Int)] else ((u % 128 + 128 : Nat) : Int) :: grpB (u / 128)
termination_by u
decreasing_by omega
theorem grpB_small {u : Nat} (h : u < 128) : grpB u = [(u : Int)] := by rw [grpB, if_pos h]
theorem grpB_great {u : Nat} (h : ¬ u < 128) : grpB u = ((u % 128 + 128 : Nat) : Int) :: grpB (u / 128) := by rw [grpB, if_neg h]
theorem grpB_len : ∀ (k u : Nat), u < 128 ^ (k + 1) → (grpB u).length ≤ k + 1 := by
  intro k
  induction k with
  | zero => intro u h; rw [grpB_small (by simpa using h)]; simp
  | succ k ih =>
    intro u h
    by_cases hu : u < 128
    · rw [grpB_small hu]; simp
    · rw [grpB_great hu]
      have h1 : u / 128 < 128 ^ (k + 1) := by
        rw [Nat.div_lt_iff_lt_mul (by omega)]
        rw [Nat.pow_succ] at h
        exact h
      have := ih _ h1
      simp
      omega
/-- the number that an int is folded to -/
def foldN (i : Int) : Nat := if i < 0 then 2 * (-1 - i).toNat + 1 else 2 * i.toNat
/-- a text's bytes -/
def txtB (s : ByteArray) : List Int := s.data.toList.map fun b => (b.toNat : Int)
/-- a value's bytes -/
def encB : VT → List Int
  | .nil => [0]
  | .mk k i s n _ _ f => k :: (if k = 1 then grpB (foldN i) else if k = 2 then (s.size : Int) :: txtB s else if k = 3 then (n : Int) :: (List.range n).flatMap fun j => encB (f j) else [])
theorem encB_eq (k i : Int) (s : ByteArray) (n : Nat) (p : Option Addr) (c : Nat) (f : Nat → VT) : encB (.mk k i s n p c f) = k :: (if k = 1 then grpB (foldN i) else if k = 2 then (s.size : Int) :: txtB s else if k = 3 then (n : Int) :: (List.range n).flatMap fun j => encB (f j) else []) := rfl
/-- a part's bytes -/
def encP (q : PT) : List Int := q.kind :: (if q.kind = 1 then grpB (foldN q.int) else if q.kind = 2 then (q.text.size : Int) :: txtB q.text else if q.kind = 3 then [(q.n : Int)] else [])
theorem strCells_txt (s : ByteArray) : Go.Lib.strCells s = (txtB s).map (Value.int .u8) := by
  simp [Go.Lib.strCells, txtB, List.map_map, Function.comp_def]
theorem txtB_len (s : ByteArray) : (txtB s).length = s.size := by
  unfold txtB
  rw [List.length_map, Array.length_toList]
  rfl
theorem enc_flat : ∀ t : VT, Val t → (flatP t).flatMap encP = encB t := by
  intro t
  induction t with
  | nil => intro h; exact h.elim
  | mk k i s n p c f ih =>
    intro h
    obtain ⟨⟨h1, _⟩, h2⟩ := h
    rw [flatP_eq, encB_eq, List.flatMap_cons]
    have h3 : ((List.range n).flatMap fun j => flatP (f j)).flatMap encP = (List.range n).flatMap fun j => encB (f j) := by
      rw [List.flatMap_assoc, List.flatMap_def, List.flatMap_def]
      congr 1
      apply List.map_congr_left
      intro j hj
      exact ih j (h2 j (List.mem_range.1 hj))
    rw [h3]
    by_cases hk : k = 3
    · subst hk
      simp [encP]
    · have hn : n = 0 := by
        simp only [fitB, Bool.and_eq_true, Bool.or_eq_true, decide_eq_true_eq] at h1
        rcases h1.2 with h | h
        · exact h
        · exact absurd h hk
      subst hn
      simp [encP, hk]
theorem foldN_lt {i : Int} (h1 : -9223372036854775808 ≤ i) (h2 : i ≤ 9223372036854775807) : foldN i < 18446744073709551616 := by
  unfold foldN; split <;> omega
theorem grp_fold_len {i : Int} (h1 : -9223372036854775808 ≤ i) (h2 : i ≤ 9223372036854775807) : (grpB (foldN i)).length ≤ 10 :=
  grpB_len 9 _ (Nat.lt_of_lt_of_le (foldN_lt h1 h2) (by decide))
theorem encP_len {t : VT} (h : Val t) : ∀ q ∈ flatP t, (encP q).length ≤ 60 := by
  induction t with
  | nil => exact h.elim
  | mk k i s n p c f ih =>
    obtain ⟨⟨h1, h2, h3, h4, h5⟩, h6⟩ := h
    intro q hq
    rw [flatP_eq, List.mem_cons] at hq
    rcases hq with rfl | hq
    · have := grp_fold_len h4 h5
      have := txtB_len s
      simp only [encP]
      split
      · simp; omega
      · split
        · simp; omega
        · split <;> simp
    · obtain ⟨j, hj, hq⟩ := List.mem_flatMap.1 hq
      exact ih j (h6 j (List.mem_range.1 hj)) q hq
theorem flatMap_le {α β : Type} (g : α → List β) (m : Nat) : ∀ l : List α, (∀ q ∈ l, (g q).length ≤ m) → (l.flatMap g).length ≤ m * l.length := by
  intro l
  induction l with
  | nil => intro _; simp
  | cons a r ih =>
    intro h
    have h1 := h a (List.mem_cons_self ..)
    have h2 := ih fun q hq => h q (List.mem_cons_of_mem _ hq)
    rw [List.flatMap_cons, List.length_append, List.length_cons, Nat.mul_succ]
    omega
theorem enc_len {t : VT} (h : Val t) : (encB t).length ≤ 60 * (flatP t).length := by
  rw [← enc_flat t h]; exact flatMap_le _ _ _ (encP_len h)

theorem or128 (u : Nat) : (u % 256) ||| 128 = u % 128 + 128 := by
  have h : ∀ v : Nat, v < 256 → v ||| 128 = v % 128 + 128 := by decide
  rw [h _ (Nat.mod_lt _ (by omega))]
  omega
theorem bits_or128 (u : Nat) : bits BinOp.or IntKind.u8 ((u % 256 : Nat) : Int) 128 = ((u % 128 + 128 : Nat) : Int) := by
  rw [← or128]
  have h : ∀ v : Nat, v < 256 → bits BinOp.or IntKind.u8 (v : Int) 128 = ((v ||| 128 : Nat) : Int) := by decide
  exact h _ (Nat.mod_lt _ (by omega))
end Go.Proofs.Ytikfpoabaaiegaa
