import Derived.Test.YtneomdiabcpemaaRecT
namespace Go.Proofs.Ytneomdiabcpemaa
open Go.RowKit
set_option maxRecDepth 8000
/-- bytes in a row, in a block of S -/
structure Byts (w : World) (S : Nat → Prop) (p : Option Addr) (n c : Nat) (f : Nat → Int) : Prop where
  at_ : 0 < n → ∃ b o, p = some ⟨b, o, none⟩ ∧ S b ∧ b < w.heap.size ∧ ∀ j, j < n → w.cell? ⟨b, o + j, none⟩ = some (.int .u8 (f j))
  nc : n ≤ c
  nn : n ≤ 140737488355328
  cc : c ≤ maxLen
  fit : ∀ j, j < n → 0 ≤ f j ∧ f j < 256
  nil : p = none → n = 0 ∧ c = 0
theorem Byts.kept {w w' : World} {S : Nat → Prop} {p : Option Addr} {n c : Nat} {f : Nat → Int} (h : Byts w S p n c f) (hs : w.heap.size ≤ w'.heap.size) (hb : ∀ b, S b → b < w.heap.size → w'.heap[b]? = w.heap[b]?) : Byts w' S p n c f := by
  refine ⟨fun hn => ?_, h.nc, h.nn, h.cc, h.fit, h.nil⟩
  obtain ⟨b, o, e, hS, hl, ha⟩ := h.at_ hn
  exact ⟨b, o, e, hS, Nat.lt_of_lt_of_le hl hs, fun j hj => (World.cell?_of_block (a := ⟨b, o + j, none⟩) (hb b hS hl)).trans (ha j hj)⟩
theorem Byts.mono {w : World} {S S' : Nat → Prop} {p : Option Addr} {n c : Nat} {f : Nat → Int} (h : Byts w S p n c f) (hb : ∀ b, S b → b < w.heap.size → S' b) : Byts w S' p n c f := by
  refine ⟨fun hn => ?_, h.nc, h.nn, h.cc, h.fit, h.nil⟩
  obtain ⟨b, o, e, hS, hl, ha⟩ := h.at_ hn
  exact ⟨b, o, e, hb b hS hl, hl, ha⟩
theorem Byts.src {w : World} {S : Nat → Prop} {p : Option Addr} {n c : Nat} {f : Nat → Int} (h : Byts w S p n c f) : Src w p n c 1 ((List.range n).map fun j => .int .u8 (f j)) := by
  cases p with
  | none => obtain ⟨rfl, rfl⟩ := h.nil rfl; exact .inl ⟨rfl, rfl, rfl, rfl⟩
  | some ad =>
    refine .inr ⟨ad, rfl, by simp, fun j u hu => ?_⟩
    by_cases hj : j < n
    · obtain ⟨b, o, e, _, _, ha⟩ := h.at_ (by omega)
      cases e
      rw [Go.WideShapes.add_plain, ha j hj]
      simp [List.getElem?_range hj] at hu
      rw [hu]
    · simp [List.getElem?_eq_none (show ((List.range n).map fun j => Value.int .u8 (f j)).length ≤ j by simp; omega)] at hu
theorem oneCell_byts (n : Nat) (f : Nat → Int) : ∀ u ∈ ((List.range n).map fun j => Value.int .u8 (f j)), u.oneCell' = true := by
  intro u hu
  obtain ⟨j, _, rfl⟩ := List.mem_map.1 hu
  rfl
end Go.Proofs.Ytneomdiabcpemaa
