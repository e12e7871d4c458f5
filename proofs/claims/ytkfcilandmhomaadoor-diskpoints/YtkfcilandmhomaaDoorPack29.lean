import Derived.Test.YtkfcilandmhomaaDoorEfK
import Derived.Test.YtkfcilandmhomaaDoorPack28
namespace Go.Proofs.YtkfcilandmhomaaDoor
open Go.RowKit
set_option maxRecDepth 8000
/-- the key of a file that is cut -/
def trK (s : ByteArray) (f : RF) (m : Nat) : Key := (s, (f.su ++ f.lo).take m, ((min f.su.length m : Nat) : Int))
theorem range_getD (l : List Int) (m k : Nat) (h : m + k ≤ l.length) : (List.range k).map (fun j => l.getD (m + j) 0) = (l.drop m).take k := by
  apply List.ext_getElem?
  intro j
  by_cases hj : j < k
  · rw [List.getElem?_map, List.getElem?_range hj, List.getElem?_take_of_lt hj, List.getElem?_drop]
    simp [List.getD_eq_getElem?_getD, List.getElem?_eq_getElem (show m + j < l.length by omega)]
  · rw [List.getElem?_eq_none (by simp; omega), List.getElem?_eq_none (by simp; omega)]
end Go.Proofs.YtkfcilandmhomaaDoor

namespace Go.Proofs.YtkfcilandmhomaaDoor
open Go.RowKit
set_option maxRecDepth 8000
def remK (s : ByteArray) (ks : List Key) : List Key := ks.filter fun k => !decide (k.1 = s)
theorem erase_key {R : RK} (hnd : (R.fs.map RF.name).Nodup) {s : ByteArray} {i : Nat} {f : RF} (hi : R.is s i f) : (R.fs.eraseIdx i).map RF.key = remK s (R.fs.map RF.key) := by
  obtain ⟨hi, rfl⟩ := hi
  have : ∀ (l : List RF) (i : Nat), (l.map RF.name).Nodup → l[i]? = some f → (l.eraseIdx i).map RF.key = remK f.name (l.map RF.key) := by
    intro l
    induction l with
    | nil => intro i _ h; simp at h
    | cons x l ih =>
      intro i hnd hi
      rw [List.map_cons, List.nodup_cons] at hnd
      cases i with
      | zero =>
        simp at hi
        subst hi
        have h2 : (l.map RF.key).filter (fun k => !decide (k.1 = x.name)) = l.map RF.key := by
          rw [List.filter_eq_self]
          intro k hk
          obtain ⟨g, hg, rfl⟩ := List.mem_map.1 hk
          have : g.key.1 ≠ x.name := fun e => hnd.1 (List.mem_map.2 ⟨g, hg, e⟩)
          simpa using this
        have h3 : x.key.1 = x.name := rfl
        simp [remK, h3]
        simpa using h2.symm
      | succ i =>
        have h1 : l[i]? = some f := by simpa using hi
        have hne : x.key.1 ≠ f.name := fun e => hnd.1 (List.mem_map.2 ⟨f, List.mem_of_getElem? h1, e.symm⟩)
        have := ih i hnd.2 h1
        simp [remK, hne] at this ⊢
        exact this
  exact this R.fs i hnd hi
theorem eraseIdx_step {α : Type} (l : List α) (i k : Nat) (x : α) (hk : l[k]? = some x) (hne : k ≠ i) : (l.take (k + 1)).eraseIdx i = (l.take k).eraseIdx i ++ [x] := by
  have hlt := (List.getElem?_eq_some_iff.1 hk).1
  have e : l.take (k + 1) = l.take k ++ [x] := by rw [List.take_add_one, hk]; rfl
  rw [e]
  by_cases h : i < k
  · rw [List.eraseIdx_append_of_lt_length (by simp; omega)]
  · rw [List.eraseIdx_of_length_le (by simp; omega), List.eraseIdx_of_length_le (by simp; omega)]
theorem eraseIdx_skip {α : Type} (l : List α) (i : Nat) (x : α) (hk : l[i]? = some x) : (l.take (i + 1)).eraseIdx i = (l.take i).eraseIdx i := by
  have hlt := (List.getElem?_eq_some_iff.1 hk).1
  have e : l.take (i + 1) = l.take i ++ [x] := by rw [List.take_add_one, hk]; rfl
  rw [e, List.eraseIdx_append_of_length_le (by simp; omega)]
  rw [List.eraseIdx_of_length_le (show (l.take i).length ≤ i by simp; omega)]
  have : i - (l.take i).length = 0 := by simp; omega
  rw [this]
  simp
theorem oneR (f : RF) : ∀ u ∈ f.cells, u.oneCell' = true := fun u hu => by
  simp only [RF.cells, List.mem_cons, List.not_mem_nil, or_false] at hu
  rcases hu with rfl | rfl | rfl <;> rfl
end Go.Proofs.YtkfcilandmhomaaDoor

namespace Go.Proofs.YtkfcilandmhomaaDoor
open Go.RowKit
set_option maxRecDepth 8000
end Go.Proofs.YtkfcilandmhomaaDoor
