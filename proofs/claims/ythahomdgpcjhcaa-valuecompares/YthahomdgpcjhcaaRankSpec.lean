import Derived.Test.YthahomdgpcjhcaaRefPlace
import Derived.Test.YthahomdgpcjhcaaFlatGood
import Derived.Test.YthahomdgpcjhcaaOrdSpec
namespace Go.Proofs.Ythahomdgpcjhcaa
open Go.RowKit
set_option maxRecDepth 8000

/-- a text's bytes, 255 behind each 0 -/
def escB (l : List UInt8) : List Int := l.flatMap fun b => if b.toNat = 0 then [0, 255] else [(b.toNat : Int)]
/-- bytes whose order is the values' order -/
def rankB : VT → List Int
  | .nil => [1]
  | .mk k i s n _ _ f => (k + 1) :: (if k = 1 then placeB i else if k = 2 then escB s.data.toList ++ [0, 0] else if k = 3 then ((List.range n).flatMap fun j => rankB (f j)) ++ [0] else [])
theorem rankB_eq (k i : Int) (s : ByteArray) (n : Nat) (p : Option Addr) (c : Nat) (f : Nat → VT) : rankB (.mk k i s n p c f) = (k + 1) :: (if k = 1 then placeB i else if k = 2 then escB s.data.toList ++ [0, 0] else if k = 3 then ((List.range n).flatMap fun j => rankB (f j)) ++ [0] else []) := rfl
/-- valid, without a look at the number of parts -/
def Val : VT → Prop
  | .nil => False
  | .mk k i s n _ _ f => (fitB k i s n = true ∧ s.size ≤ 24 ∧ n ≤ 6 ∧ -9223372036854775808 ≤ i ∧ i ≤ 9223372036854775807) ∧ ∀ j, j < n → Val (f j)
theorem val_of {w : World} {S : Nat → Prop} : ∀ (t : VT) (d m : Nat), VT.In w S t → (chk t d m).1 = 0 → Val t := by
  intro t
  induction t with
  | nil => intro d m h; exact h.elim
  | mk k i s n p c f ih =>
    intro d m hin h
    rw [chk_eq] at h
    by_cases h1 : 12 ≤ m
    · rw [if_pos h1] at h; simp at h
    rw [if_neg h1] at h
    by_cases h2 : fitB k i s n = false
    · rw [if_pos h2] at h; simp at h
    rw [if_neg h2] at h
    by_cases h3 : k = 3 ∧ 3 ≤ d
    · rw [if_pos h3] at h; simp at h
    rw [if_neg h3] at h
    by_cases h4 : 24 < s.size
    · rw [if_pos h4] at h; simp at h
    rw [if_neg h4] at h
    by_cases h5 : 6 < n
    · rw [if_pos h5] at h; simp at h
    rw [if_neg h5] at h
    refine ⟨⟨by simpa using h2, by omega, by omega, hin.fit.i0, hin.fit.i1⟩, fun j hj => ?_⟩
    have e : ∀ q, q ≤ n → (stepN (fun j m => chk (f j) (d + 1) m) (m + 1) q).1 = 0 := by
      intro q hq
      by_cases hz : (stepN (fun j m => chk (f j) (d + 1) m) (m + 1) q).1 = 0
      · exact hz
      · rw [stepN_stuck hq hz] at h; exact absurd h hz
    have e1 := e (j + 1) hj
    rw [stepN_succ (e j (by omega))] at e1
    exact ih j _ _ (hin.sub hj) e1
theorem zero_val : Val zeroT := ⟨⟨by simp [fitB], by decide, by omega, by omega, by omega⟩, fun j hj => absurd hj (by omega)⟩
theorem clean_val {w : World} {S : Nat → Prop} {t : VT} (h : VT.In w S t) : Val (cleanT t) := by
  unfold cleanT
  split
  · rename_i hc; exact val_of t 0 0 h hc
  · exact zero_val

theorem esc_len (l : List UInt8) : (escB l).length ≤ 2 * l.length := by
  induction l with
  | nil => simp [escB]
  | cons b l ih =>
    have : escB (b :: l) = (if b.toNat = 0 then [0, 255] else [(b.toNat : Int)]) ++ escB l := by simp [escB]
    rw [this, List.length_append, List.length_cons]
    split <;> simp <;> omega
theorem flatMap_len (g : Nat → List Int) (h : Nat → List PT) : ∀ n, (∀ j, j < n → (g j).length ≤ 60 * (h j).length) → ((List.range n).flatMap g).length ≤ 60 * ((List.range n).flatMap h).length := by
  intro n
  induction n with
  | zero => intro _; simp
  | succ n ih =>
    intro e
    rw [List.range_succ, List.flatMap_append, List.flatMap_append, List.length_append, List.length_append]
    have h1 := ih fun j hj => e j (by omega)
    have h2 := e n (by omega)
    simp only [List.flatMap_cons, List.flatMap_nil, List.append_nil]
    omega
theorem rank_len : ∀ t : VT, Val t → (rankB t).length ≤ 60 * (flatP t).length := by
  intro t
  induction t with
  | nil => intro h; exact h.elim
  | mk k i s n p c f ih =>
    intro h
    rw [rankB_eq, flatP_eq]
    have hs : s.data.toList.length = s.size := by simp
    have he := esc_len s.data.toList
    have hz := h.1.2.1
    have hf := flatMap_len (fun j => rankB (f j)) (fun j => flatP (f j)) n fun j hj => ih j (h.2 j hj)
    simp only [List.length_cons]
    by_cases h1 : k = 1
    · rw [if_pos h1]; simp [placeB, be8]; omega
    rw [if_neg h1]
    by_cases h2 : k = 2
    · rw [if_pos h2]; simp only [List.length_append, List.length_cons, List.length_nil]; omega
    rw [if_neg h2]
    by_cases h3 : k = 3
    · rw [if_pos h3]; simp only [List.length_append, List.length_cons, List.length_nil]; omega
    · rw [if_neg h3]; simp only [List.length_nil]; omega
theorem pt_get : ∀ (L : List PT) (i r : Nat) (h : i < L.length), r < 4 → (ptCells L)[i * 4 + r]? = (L[i]'h).cells[r]? := by
  intro L
  induction L with
  | nil => intro i r h; exact absurd h (by simp)
  | cons q L ih =>
    intro i r h hr
    have e : ptCells (q :: L) = q.cells ++ ptCells L := by simp [ptCells]
    rw [e]
    cases i with
    | zero =>
      rw [List.getElem?_append_left (by simp [PT.cells]; omega)]
      simp
    | succ i =>
      have hl : q.cells.length = 4 := rfl
      rw [List.getElem?_append_right (by rw [hl]; omega), hl]
      have h2 := ih i r (by simpa using h) hr
      rw [show (i + 1) * 4 + r - 4 = i * 4 + r by omega, h2]
      simp
/-- a part that lies in a row of parts -/
theorem part_at {w : World} {base g c : Nat} {L : List PT} (h : w.ownsRow base 93 4 (.slice (some ⟨g, 0, none⟩) L.length c) L.length (ptCells L)) {i : Nat} {q : PT} (hq : L[i]? = some q) :
    i < L.length ∧ w.cell? ⟨g, i * 4, none⟩ = some (.int .i64 q.kind) ∧ w.cell? ⟨g, i * 4 + 1, none⟩ = some (.int .i64 q.int) ∧ w.cell? ⟨g, i * 4 + 2, none⟩ = some (.string q.text) ∧ w.cell? ⟨g, i * 4 + 3, none⟩ = some (.int .i64 q.n) := by
  obtain ⟨hi, rfl⟩ := List.getElem?_eq_some_iff.1 hq
  have hc := h.cells (g := g) rfl
  have k : ∀ r u, r < 4 → (L[i]).cells[r]? = some u → w.cell? ⟨g, i * 4 + r, none⟩ = some u := by
    intro r u hr hu
    have := hc (i * 4 + r) u (by rw [pt_get L i r hi hr]; exact hu)
    rw [Go.WideShapes.add_plain, Nat.zero_add] at this
    exact this
  exact ⟨hi, k 0 _ (by omega) rfl, k 1 _ (by omega) rfl, k 2 _ (by omega) rfl, k 3 _ (by omega) rfl⟩
end Go.Proofs.Ythahomdgpcjhcaa
