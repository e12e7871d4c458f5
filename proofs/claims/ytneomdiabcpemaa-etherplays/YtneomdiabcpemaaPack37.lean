import Derived.Test.YtneomdiabcpemaaPack26
namespace Go.Proofs.Ytneomdiabcpemaa
open Go.RowKit
set_option maxRecDepth 8000

/-- a room that keeps nothing but values -/
def RS.plainV (R : RS) : Prop := ∀ i, i < 10 → i ≠ 2 → i ≠ 3 → R.F i = .slice none 0 0

theorem mark_at {base : Nat} {w : World} {R : RS} (hR : Rm base w R) {i : Nat} (hi : i < 10) {p : Option Addr} {c q : Nat} (hF : R.F i = .slice p (R.L i).length c) (hq : q < (R.L i).length) (hs : rmMark i = rmMark 2) {k : Nat} (hk : k < rmCnt i) (hz : rmSize i = 4 := by rfl) :
    ∃ gb xg d xc, p = some ⟨gb, 0, none⟩ ∧ d ≤ 281474976710656 ∧ gb < w.heap.size ∧ xg < w.heap.size ∧ w.cell? ⟨gb, q, none⟩ = some (.slice (some ⟨xg, 0, none⟩) (d + rmCnt i) xc) ∧
      w.cell? ⟨xg, (d + k) * 4, none⟩ = some (.int .i64 1) ∧ w.cell? ⟨xg, (d + k) * 4 + 1, none⟩ = some (.int .i64 (lotN k)) ∧ w.cell? ⟨xg, (d + k) * 4 + 2, none⟩ = some (.string ⟨#[]⟩) ∧ w.cell? ⟨xg, (d + k) * 4 + 3, none⟩ = some (.slice none 0 0) := by
  have hrow := hR.row i hi
  have hlt := hrow.lt
  obtain ⟨_, ⟨hv, h0⟩ | ⟨gb, cap, cur, hv, hbg, hh, hnc, _⟩⟩ := id hrow
  · omega
  · have hm := hR.mark i hi (R.L i)[q] (List.getElem_mem hq)
    obtain ⟨⟨⟨h1, h1b⟩, h2⟩, h3, _⟩ := hm
    have hc := hrow.cells (g := gb) (by rw [hv]; rfl) q (R.L i)[q].val (by simp [List.getElem?_eq_getElem hq])
    rw [Go.WideShapes.add_plain, Nat.zero_add] at hc
    obtain ⟨d, hd⟩ : ∃ d, (R.L i)[q].n = d + rmCnt i := ⟨(R.L i)[q].n - rmCnt i, by omega⟩
    have key : ∀ r u, r < 4 → (markV k).cells[r]? = some u → w.cell? ⟨(R.L i)[q].g, (d + k) * 4 + r, none⟩ = some u := by
      intro r u hr hu
      have h := h2 k hk r (by rw [hz]; exact hr)
      rw [hd, Nat.add_sub_cancel, hz, hs] at h
      rw [h]
      exact hu
    rw [hF] at hv
    simp only [Value.slice.injEq] at hv
    refine ⟨gb, (R.L i)[q].g, d, (R.L i)[q].c, hv.1, by omega, (hlt gb (by rw [hF, hv.1]; rfl)).2, h3, ?_, key 0 _ (by omega) rfl, key 1 _ (by omega) rfl, key 2 _ (by omega) rfl, key 3 _ (by omega) rfl⟩
    rw [hc, ← hd]; rfl

end Go.Proofs.Ytneomdiabcpemaa

namespace Go.Proofs.Ytneomdiabcpemaa
open Go.RowKit
set_option maxRecDepth 8000
/-- the mark of a list that the room keeps in field i -/
theorem mark_of {base : Nat} {w : World} {R : RS} (hR : Rm base w R) {i : Nat} (hi : i < 10) {p : Option Addr} {c q : Nat} (hF : R.F i = .slice p (R.L i).length c) (hq : q < (R.L i).length) {k : Nat} (hk : k < rmCnt i) :
    ∃ gb xg d xc, p = some ⟨gb, 0, none⟩ ∧ d ≤ 281474976710656 ∧ gb < w.heap.size ∧ xg < w.heap.size ∧ w.cell? ⟨gb, q, none⟩ = some (.slice (some ⟨xg, 0, none⟩) (d + rmCnt i) xc) ∧ ∀ r u, r < rmSize i → (rmMark i k)[r]? = some u → w.cell? ⟨xg, (d + k) * rmSize i + r, none⟩ = some u := by
  have hrow := hR.row i hi
  have hlt := hrow.lt
  obtain ⟨_, ⟨hv, h0⟩ | ⟨gb, cap, cur, hv, hbg, hh, hnc, _⟩⟩ := id hrow
  · omega
  · have hm := hR.mark i hi (R.L i)[q] (List.getElem_mem hq)
    obtain ⟨⟨⟨h1, h1b⟩, h2⟩, h3, _⟩ := hm
    have hc := hrow.cells (g := gb) (by rw [hv]; rfl) q (R.L i)[q].val (by simp [List.getElem?_eq_getElem hq])
    rw [Go.WideShapes.add_plain, Nat.zero_add] at hc
    obtain ⟨d, hd⟩ : ∃ d, (R.L i)[q].n = d + rmCnt i := ⟨(R.L i)[q].n - rmCnt i, by omega⟩
    rw [hF] at hv
    simp only [Value.slice.injEq] at hv
    refine ⟨gb, (R.L i)[q].g, d, (R.L i)[q].c, hv.1, by omega, (hlt gb (by rw [hF, hv.1]; rfl)).2, h3, ?_, fun r u hr hu => ?_⟩
    · rw [hc, ← hd]; rfl
    · have h := h2 k hk r hr
      rw [hd, Nat.add_sub_cancel] at h
      rw [h]
      exact hu
end Go.Proofs.Ytneomdiabcpemaa
