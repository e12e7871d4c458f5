import Derived.Test.YtbeibhmbaofjhaaPack23
import Derived.Test.YtbeibhmbaofjhaaUaD
namespace Go.Proofs.Ytbeibhmbaofjhaa
open Go.RowKit
set_option maxRecDepth 8000
end Go.Proofs.Ytbeibhmbaofjhaa

namespace Go.Proofs.Ytbeibhmbaofjhaa
open Go.RowKit
set_option maxRecDepth 8000
end Go.Proofs.Ytbeibhmbaofjhaa

namespace Go.Proofs.Ytbeibhmbaofjhaa
open Go.RowKit
set_option maxRecDepth 8000
theorem ownsRow_setCell {w : World} {base : Nat} {e : TypeId} {size g n cap : Nat} {xs : List Value} (h : w.ownsRow base e size (.slice (some ⟨g, 0, none⟩) n cap) n xs) (j : Nat) (u : Value) : (w.setCell ⟨g, j, none⟩ u).ownsRow base e size (.slice (some ⟨g, 0, none⟩) n cap) n (xs.set j u) := by
  refine ⟨by rw [List.length_set]; exact h.1, ?_⟩
  obtain ⟨hl, ⟨hv, h0⟩ | ⟨g', cap', cur, hv, hbg, hh, hnc, hcm, hcs, htk⟩⟩ := h
  · cases hv
  · obtain ⟨hg, _, rfl⟩ := Value.slice.inj hv
    obtain rfl : g = g' := by cases hg; rfl
    refine .inr ⟨g, cap, cur.setIfInBounds j u, rfl, hbg, (show Box w g cur e from hh).set j u, hnc, hcm, by simpa using hcs, ?_⟩
    rw [Array.toList_setIfInBounds, List.take_set, htk]
end Go.Proofs.Ytbeibhmbaofjhaa
