import Derived.Test.YtehpdhhlggegdaaPack0
import Derived.Lib.Bytealg
import Derived.Test.YtehpdhhlggegdaaPack7
import Derived.Test.YtehpdhhlggegdaaPack5
namespace Go.Proofs.Ytehpdhhlggegdaa
open Go.RowKit
set_option maxRecDepth 8000

/-- the order of two ints -/
def cmpI (x y : Int) : Int := if x < y then -1 else if y < x then 1 else 0
/-- the order of two texts -/
def cmpS (a b : ByteArray) : Int := Go.Lib.compareBytes a.data.toList b.data.toList

theorem cmpInt_any (x y : Int) (w : World) : Calls Try.prog 64 #[.int .i64 x, .int .i64 y] w fun e w' => e = .returned (.int .i64 (cmpI x y)) ∧ w' = w := by
  by_cases h : x < y
  · rw [cmpI, if_pos h]
    go_enter Try.func64, Try.ntmps64
    go_wp2
    go_ret
    exact ⟨rfl, rfl⟩
  · by_cases h2 : y < x
    · rw [cmpI, if_neg h, if_pos h2]
      go_enter Try.func64, Try.ntmps64
      go_wp2
      go_ret
      exact ⟨rfl, rfl⟩
    · rw [cmpI, if_neg h, if_neg h2]
      obtain rfl : x = y := by omega
      go_enter Try.func64, Try.ntmps64
      go_wp2
      go_ret
      exact ⟨rfl, rfl⟩
theorem cmpInt64_any (x y : Int) (w : World) : Calls Try.prog 65 #[.int .i64 x, .int .i64 y] w fun e w' => e = .returned (.int .i64 (cmpI x y)) ∧ w' = w := by
  by_cases h : x < y
  · rw [cmpI, if_pos h]
    go_enter Try.func65, Try.ntmps65
    go_wp2
    go_ret
    exact ⟨rfl, rfl⟩
  · by_cases h2 : y < x
    · rw [cmpI, if_neg h, if_pos h2]
      go_enter Try.func65, Try.ntmps65
      go_wp2
      go_ret
      exact ⟨rfl, rfl⟩
    · rw [cmpI, if_neg h, if_neg h2]
      obtain rfl : x = y := by omega
      go_enter Try.func65, Try.ntmps65
      go_wp2
      go_ret
      exact ⟨rfl, rfl⟩
theorem cmpStr_any (a b : ByteArray) (w : World) : Calls Try.prog 66 #[.string a, .string b] w fun e w' => e = .returned (.int .i64 (cmpS a b)) ∧ w' = w := by
  have hx : ∀ W : World, (callFunc 84 #[.string a, .string b]).run Try.prog W = .ok (Go.Next.value (.int .i64 (Go.Lib.compareBytes a.data.toList b.data.toList))) W := by
    intro W
    rw [run_callFunc_extern Try.func84 (by kernel_rfl) (by kernel_rfl) (by kernel_rfl) (e := Extern.BytealgCompare.compare) (by kernel_rfl), Go.Lib.run_compareString]
    rfl
  unfold cmpS
  go_enter Try.func66, Try.ntmps66
  go_wp2
  go_ret
  exact ⟨rfl, rfl⟩
end Go.Proofs.Ytehpdhhlggegdaa

namespace Go.Proofs.Ytehpdhhlggegdaa
open Go.RowKit

/-- the first that is not 0 of the first j -/
def firstN (g : Nat → Int) : Nat → Int
  | 0 => 0
  | j + 1 => if firstN g j ≠ 0 then firstN g j else g j
/-- the order of two valid values -/
def ordV : VT → VT → Int
  | .nil, _ => 0
  | .mk k i s n _ _ f, u => if k ≠ u.kind then cmpI k u.kind else if k = 1 then cmpI i u.int else if k = 2 then cmpS s u.text
    else if firstN (fun j => ordV (f j) (u.item j)) (min n u.n) ≠ 0 then firstN (fun j => ordV (f j) (u.item j)) (min n u.n) else cmpI n u.n
theorem ordV_eq (k i : Int) (s : ByteArray) (n : Nat) (p : Option Addr) (c : Nat) (f : Nat → VT) (u : VT) : ordV (.mk k i s n p c f) u = if k ≠ u.kind then cmpI k u.kind else if k = 1 then cmpI i u.int else if k = 2 then cmpS s u.text
    else if firstN (fun j => ordV (f j) (u.item j)) (min n u.n) ≠ 0 then firstN (fun j => ordV (f j) (u.item j)) (min n u.n) else cmpI n u.n := rfl
theorem firstN_stuck {g : Nat → Int} : ∀ {n j : Nat}, j ≤ n → firstN g j ≠ 0 → firstN g n = firstN g j := by
  intro n
  induction n with
  | zero =>
    intro j h _
    obtain rfl : j = 0 := by omega
    rfl
  | succ n ih =>
    intro j h hne
    by_cases hj : j = n + 1
    · rw [hj]
    · have e := ih (show j ≤ n by omega) hne
      show (if firstN g n ≠ 0 then firstN g n else g n) = _
      rw [e, if_pos hne]
theorem firstN_succ {g : Nat → Int} {j : Nat} (h : firstN g j = 0) : firstN g (j + 1) = g j := by
  show (if firstN g j ≠ 0 then firstN g j else g j) = _
  rw [if_neg (by simpa using h)]
theorem firstN_congr {g h : Nat → Int} : ∀ n, (∀ j, j < n → g j = h j) → firstN g n = firstN h n := by
  intro n
  induction n with
  | zero => intro _; rfl
  | succ n ih =>
    intro e
    show (if firstN g n ≠ 0 then firstN g n else g n) = (if firstN h n ≠ 0 then firstN h n else h n)
    rw [ih fun j hj => e j (by omega), e n (by omega)]
/-- none -/
def zeroT : VT := .mk 0 0 ⟨#[]⟩ 0 none 0 (fun _ => .nil)
/-- a value, or none if it isn't valid -/
def cleanT (t : VT) : VT := if (chk t 0 0).1 = 0 then t else zeroT
theorem zeroT_in (w : World) (S : Nat → Prop) : VT.In w S zeroT := by
  refine ⟨⟨?_, ?_, ?_, ?_, ?_, Nat.le_refl 0, ?_, Nat.zero_le _, fun _ => ⟨rfl, rfl⟩⟩, fun h => absurd h (by omega), fun j hj => absurd hj (by omega)⟩
  · show (-9223372036854775808 : Int) ≤ 0; omega
  · show (0 : Int) ≤ 9223372036854775807; omega
  · show (-9223372036854775808 : Int) ≤ 0; omega
  · show (0 : Int) ≤ 9223372036854775807; omega
  · show (⟨#[]⟩ : ByteArray).size ≤ 140737488355328; decide
  · show 0 ≤ 140737488355328; omega
theorem cleanT_in {w : World} {S : Nat → Prop} {t : VT} (h : VT.In w S t) : VT.In w S (cleanT t) := by
  unfold cleanT
  split
  · exact h
  · exact zeroT_in w S
end Go.Proofs.Ytehpdhhlggegdaa

namespace Go.Proofs.Ytehpdhhlggegdaa
open Go.RowKit
set_option maxRecDepth 8000

/-- a text's bytes, 255 behind each 0 -/
def escB (l : List UInt8) : List Int := l.flatMap fun b => if b.toNat = 0 then [0, 255] else [(b.toNat : Int)]
/-- bytes whose order is the values' order -/
def rankB : VT → List Int
  | .nil => [1]
  | .mk k i s n _ _ f => (k + 1) :: (if k = 1 then placeB i else if k = 2 then escB s.data.toList ++ [0, 0] else if k = 3 then ((List.range n).flatMap fun j => rankB (f j)) ++ [0] else [])
theorem rankB_eq (k i : Int) (s : ByteArray) (n : Nat) (p : Option Addr) (c : Nat) (f : Nat → VT) : rankB (.mk k i s n p c f) = (k + 1) :: (if k = 1 then placeB i else if k = 2 then escB s.data.toList ++ [0, 0] else if k = 3 then ((List.range n).flatMap fun j => rankB (f j)) ++ [0] else []) := rfl
/-- valid, without a look at the number of parts -/
def Val : VT → Prop
  | .nil => False
  | .mk k i s n _ _ f => (fitB k i s n = true ∧ s.size ≤ 24 ∧ n ≤ 6 ∧ -9223372036854775808 ≤ i ∧ i ≤ 9223372036854775807) ∧ ∀ j, j < n → Val (f j)
theorem val_of {w : World} {S : Nat → Prop} : ∀ (t : VT) (d m : Nat), VT.In w S t → (chk t d m).1 = 0 → Val t := by
  intro t
  induction t with
  | nil => intro d m h; exact h.elim
  | mk k i s n p c f ih =>
    intro d m hin h
    rw [chk_eq] at h
    by_cases h1 : 12 ≤ m
    · rw [if_pos h1] at h; simp at h
    rw [if_neg h1] at h
    by_cases h2 : fitB k i s n = false
    · rw [if_pos h2] at h; simp at h
    rw [if_neg h2] at h
    by_cases h3 : k = 3 ∧ 3 ≤ d
    · rw [if_pos h3] at h; simp at h
    rw [if_neg h3] at h
    by_cases h4 : 24 < s.size
    · rw [if_pos h4] at h; simp at h
    rw [if_neg h4] at h
    by_cases h5 : 6 < n
    · rw [if_pos h5] at h; simp at h
    rw [if_neg h5] at h
    refine ⟨⟨by simpa using h2, by omega, by omega, hin.fit.i0, hin.fit.i1⟩, fun j hj => ?_⟩
    have e : ∀ q, q ≤ n → (stepN (fun j m => chk (f j) (d + 1) m) (m + 1) q).1 = 0 := by
      intro q hq
      by_cases hz : (stepN (fun j m => chk (f j) (d + 1) m) (m + 1) q).1 = 0
      · exact hz
      · rw [stepN_stuck hq hz] at h; exact absurd h hz
    have e1 := e (j + 1) hj
    rw [stepN_succ (e j (by omega))] at e1
    exact ih j _ _ (hin.sub hj) e1
theorem zero_val : Val zeroT := ⟨⟨by simp [fitB], by decide, by omega, by omega, by omega⟩, fun j hj => absurd hj (by omega)⟩
theorem clean_val {w : World} {S : Nat → Prop} {t : VT} (h : VT.In w S t) : Val (cleanT t) := by
  unfold cleanT
  split
  · rename_i hc; exact val_of t 0 0 h hc
  · exact zero_val

theorem esc_len (l : List UInt8) : (escB l).length ≤ 2 * l.length := by
  induction l with
  | nil => simp [escB]
  | cons b l ih =>
    have : escB (b :: l) = (if b.toNat = 0 then [0, 255] else [(b.toNat : Int)]) ++ escB l := by simp [escB]
    rw [this, List.length_append, List.length_cons]
    split <;> simp <;> omega
theorem flatMap_len (g : Nat → List Int) (h : Nat → List PT) : ∀ n, (∀ j, j < n → (g j).length ≤ 60 * (h j).length) → ((List.range n).flatMap g).length ≤ 60 * ((List.range n).flatMap h).length := by
  intro n
  induction n with
  | zero => intro _; simp
  | succ n ih =>
    intro e
    rw [List.range_succ, List.flatMap_append, List.flatMap_append, List.length_append, List.length_append]
    have h1 := ih fun j hj => e j (by omega)
    have h2 := e n (by omega)
    simp only [List.flatMap_cons, List.flatMap_nil, List.append_nil]
    omega
theorem rank_len : ∀ t : VT, Val t → (rankB t).length ≤ 60 * (flatP t).length := by
  intro t
  induction t with
  | nil => intro h; exact h.elim
  | mk k i s n p c f ih =>
    intro h
    rw [rankB_eq, flatP_eq]
    have hs : s.data.toList.length = s.size := by simp
    have he := esc_len s.data.toList
    have hz := h.1.2.1
    have hf := flatMap_len (fun j => rankB (f j)) (fun j => flatP (f j)) n fun j hj => ih j (h.2 j hj)
    simp only [List.length_cons]
    by_cases h1 : k = 1
    · rw [if_pos h1]; simp [placeB, be8]; omega
    rw [if_neg h1]
    by_cases h2 : k = 2
    · rw [if_pos h2]; simp only [List.length_append, List.length_cons, List.length_nil]; omega
    rw [if_neg h2]
    by_cases h3 : k = 3
    · rw [if_pos h3]; simp only [List.length_append, List.length_cons, List.length_nil]; omega
    · rw [if_neg h3]; simp only [List.length_nil]; omega
theorem pt_get : ∀ (L : List PT) (i r : Nat) (h : i < L.length), r < 4 → (ptCells L)[i * 4 + r]? = (L[i]'h).cells[r]? := by
  intro L
  induction L with
  | nil => intro i r h; exact absurd h (by simp)
  | cons q L ih =>
    intro i r h hr
    have e : ptCells (q :: L) = q.cells ++ ptCells L := by simp [ptCells]
    rw [e]
    cases i with
    | zero =>
      rw [List.getElem?_append_left (by simp [PT.cells]; omega)]
      simp
    | succ i =>
      have hl : q.cells.length = 4 := rfl
      rw [List.getElem?_append_right (by rw [hl]; omega), hl]
      have h2 := ih i r (by simpa using h) hr
      rw [show (i + 1) * 4 + r - 4 = i * 4 + r by omega, h2]
      simp
/-- a part that lies in a row of parts -/
theorem part_at {w : World} {base g c : Nat} {L : List PT} (h : w.ownsRow base 93 4 (.slice (some ⟨g, 0, none⟩) L.length c) L.length (ptCells L)) {i : Nat} {q : PT} (hq : L[i]? = some q) :
    i < L.length ∧ w.cell? ⟨g, i * 4, none⟩ = some (.int .i64 q.kind) ∧ w.cell? ⟨g, i * 4 + 1, none⟩ = some (.int .i64 q.int) ∧ w.cell? ⟨g, i * 4 + 2, none⟩ = some (.string q.text) ∧ w.cell? ⟨g, i * 4 + 3, none⟩ = some (.int .i64 q.n) := by
  obtain ⟨hi, rfl⟩ := List.getElem?_eq_some_iff.1 hq
  have hc := h.cells (g := g) rfl
  have k : ∀ r u, r < 4 → (L[i]).cells[r]? = some u → w.cell? ⟨g, i * 4 + r, none⟩ = some u := by
    intro r u hr hu
    have := hc (i * 4 + r) u (by rw [pt_get L i r hi hr]; exact hu)
    rw [Go.WideShapes.add_plain, Nat.zero_add] at this
    exact this
  exact ⟨hi, k 0 _ (by omega) rfl, k 1 _ (by omega) rfl, k 2 _ (by omega) rfl, k 3 _ (by omega) rfl⟩
end Go.Proofs.Ytehpdhhlggegdaa
