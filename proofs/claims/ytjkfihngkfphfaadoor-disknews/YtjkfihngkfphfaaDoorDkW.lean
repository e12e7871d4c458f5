import Derived.Test.YtjkfihngkfphfaaDoorDkV
import Derived.Test.YtjkfihngkfphfaaDoorLay75
import Derived.Sort.OwnSorted
namespace Go.Proofs.YtjkfihngkfphfaaDoor
open Go.RowKit
set_option maxRecDepth 8000
theorem flat_eq (XS : List ByteArray) : (Go.Sort.flatK labC 12 XS.toArray).toList = XS.flatMap labC := by
  have hlen : ∀ XS : List ByteArray, (XS.flatMap labC).length = XS.length * 12 := fun XS => by
    induction XS with
    | nil => rfl
    | cons x XS ih => rw [List.flatMap_cons, List.length_append, ih, List.length_cons]; show 12 + _ = _; omega
  have hget : ∀ (XS : List ByteArray) (t : Nat), t < XS.length * 12 → (XS.flatMap labC)[t]? = some ((labC XS.toArray[t / 12]!)[t % 12]!) := by
    intro XS
    induction XS with
    | nil => intro t ht; simp at ht
    | cons x XS ih =>
      intro t ht
      rw [List.flatMap_cons]
      by_cases h : t < 12
      · rw [List.getElem?_append_left (by show t < 12; exact h)]
        have e1 : t / 12 = 0 := by omega
        have e2 : t % 12 = t := by omega
        rw [e1, e2]
        simp only [List.getElem!_toArray, List.getElem!_cons_zero]
        rw [getElem!_pos (labC x) t (show t < 12 from h), List.getElem?_eq_getElem (show t < 12 from h)]
      · rw [List.getElem?_append_right (by show 12 ≤ t; omega)]
        show (XS.flatMap labC)[t - 12]? = _
        simp only [List.length_cons] at ht
        rw [ih (t - 12) (by omega)]
        have e1 : t / 12 = (t - 12) / 12 + 1 := by omega
        have e2 : t % 12 = (t - 12) % 12 := by omega
        rw [e1, e2]
        simp
  apply List.ext_getElem?
  intro t
  by_cases h : t < XS.length * 12
  · rw [hget XS t h]
    have hs : t < (Go.Sort.flatK labC 12 XS.toArray).size := by simp; exact h
    rw [Array.getElem?_toList, Array.getElem?_eq_getElem hs]
    have := Go.Sort.get_flatK labC 12 XS.toArray t (by simpa using h)
    rw [getElem!_pos _ t hs] at this
    rw [this]
  · rw [List.getElem?_eq_none (by simp; omega), List.getElem?_eq_none (by rw [hlen]; omega)]
theorem holds_row {w : World} {g : Nat} {cur : Array Value} {e : TypeId} {F : Array Value} (hb : w.heap[g]? = some (.cells cur e (0, 0))) (ht : cur.toList.take F.size = F.toList) : Go.Sort.Holds id w g 0 F := by
  intro j hj
  refine ⟨?_, by simp [World.frozen?, hb]⟩
  have h1 : (cur.toList.take F.size)[j]? = F.toList[j]? := by rw [ht]
  rw [List.getElem?_take_of_lt hj] at h1
  simp only [World.cell?, hb, Nat.zero_add]
  simp only [Option.isSome_none, Bool.false_eq_true, if_false]
  rw [← Array.getElem?_toList, h1, Array.getElem?_toList, Array.getElem?_eq_getElem hj, getElem!_pos F j hj]
  rfl
theorem heap_srt {w : World} {g n : Nat} {os : Array Obj} {cur : Array Value} {e : TypeId} {fr : Nat × Nat} (F : Array Value) (hb : w.heap[g]? = some (.cells cur e fr)) :
    (Go.Sort.grow (Go.Sort.putRow id (Go.Sort.ahead w n) g 0 F) os).heap[g]? = some (.cells (Go.Sort.putCells id 0 F cur) e fr) := by
  have hg : g < w.heap.size := (Array.getElem?_eq_some_iff.1 hb).1
  rw [Go.Sort.heap_grow_old _ _ (by simpa using hg)]
  simp [Go.Sort.putRow, Go.Sort.mapBlock, Go.Sort.ahead, Array.getElem?_modify, hb, Go.Sort.onCells]
theorem but_srt {w : World} {g n : Nat} {os : Array Obj} (F : Array Value) : But (fun k => k = g) w (Go.Sort.grow (Go.Sort.putRow id (Go.Sort.ahead w n) g 0 F) os) := by
  refine ⟨rfl, rfl, rfl, by simp, fun k hk hne => ?_⟩
  rw [Go.Sort.heap_grow_old _ _ (by simpa using hk)]
  have : g ≠ k := fun e => hne e.symm
  simp [Go.Sort.putRow, Go.Sort.mapBlock, Go.Sort.ahead, Array.getElem?_modify, this]
theorem take_put (cur F : Array Value) (h : F.size ≤ cur.size) : (Go.Sort.putCells id 0 F cur).toList.take F.size = F.toList := by
  apply List.ext_getElem?
  intro j
  by_cases hj : j < F.size
  · rw [List.getElem?_take_of_lt hj, Array.getElem?_toList]
    simp [Go.Sort.putCells, hj, show j < cur.size by omega]
  · rw [List.getElem?_take_eq_none (by omega), List.getElem?_eq_none (by simp; omega)]
/-- how labels are ordered is a strict weak order -/
theorem cb_self : ∀ l : List UInt8, Go.Lib.compareBytes l l = 0
  | [] => rfl
  | a :: l => by simp [Go.Lib.compareBytes, cb_self l]
theorem u8_lt {a b : UInt8} : a < b ↔ a.toNat < b.toNat := UInt8.lt_iff_toNat_lt
theorem cb_trans : ∀ (a b c : List UInt8), Go.Lib.compareBytes a b < 0 → Go.Lib.compareBytes b c < 0 → Go.Lib.compareBytes a c < 0
  | [], [], _, h, _ => by simp [Go.Lib.compareBytes] at h
  | [], _ :: _, [], _, h => by simp [Go.Lib.compareBytes] at h
  | [], _ :: _, _ :: _, _, _ => by simp [Go.Lib.compareBytes]
  | _ :: _, [], _, h, _ => by simp [Go.Lib.compareBytes] at h
  | _ :: _, _ :: _, [], _, h => by simp [Go.Lib.compareBytes] at h
  | x :: a, y :: b, z :: c, h1, h2 => by
    simp only [Go.Lib.compareBytes, u8_lt] at h1 h2 ⊢
    have ih := cb_trans a b c
    split at h1
    · split at h2
      · rw [if_pos (by omega)]; omega
      · split at h2
        · omega
        · rw [if_pos (by omega)]; omega
    · split at h1
      · omega
      · split at h2
        · rw [if_pos (by omega)]; omega
        · split at h2
          · omega
          · rw [if_neg (by omega), if_neg (by omega)]; exact ih h1 h2
theorem cb_ntrans : ∀ (a b c : List UInt8), ¬ Go.Lib.compareBytes a b < 0 → ¬ Go.Lib.compareBytes b c < 0 → ¬ Go.Lib.compareBytes a c < 0
  | [], [], [], _, _ => by simp [Go.Lib.compareBytes]
  | [], [], _ :: _, _, h => by simp [Go.Lib.compareBytes] at h
  | [], _ :: _, _, h, _ => by simp [Go.Lib.compareBytes] at h
  | _ :: _, _, [], _, _ => by simp [Go.Lib.compareBytes]
  | _ :: _, [], _ :: _, _, h => by simp [Go.Lib.compareBytes] at h
  | x :: a, y :: b, z :: c, h1, h2 => by
    simp only [Go.Lib.compareBytes, u8_lt] at h1 h2 ⊢
    have ih := cb_ntrans a b c
    split at h1
    · omega
    · split at h1
      · split at h2
        · omega
        · split at h2
          · rw [if_neg (by omega), if_pos (by omega)]; omega
          · rw [if_neg (by omega), if_pos (by omega)]; omega
      · split at h2
        · omega
        · split at h2
          · rw [if_neg (by omega), if_pos (by omega)]; omega
          · rw [if_neg (by omega), if_neg (by omega)]; exact ih h1 h2
theorem cmpSwo : Go.Sort.SWO (Go.Proofs.ltOf cmpN) where
  irrefl x := by simp [Go.Proofs.ltOf, cmpN, cb_self]
  trans x y z h1 h2 := by
    simp only [Go.Proofs.ltOf, decide_eq_true_eq] at h1 h2 ⊢
    exact cb_trans _ _ _ h1 h2
  ntrans x y z h1 h2 := by
    simp only [Go.Proofs.ltOf, decide_eq_false_iff_not] at h1 h2 ⊢
    exact cb_ntrans _ _ _ h1 h2
end Go.Proofs.YtjkfihngkfphfaaDoor
