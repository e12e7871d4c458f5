import Derived.Test.YtbeibhmbaofjhaaYkI
namespace Go.Proofs.Ytbeibhmbaofjhaa
open Go.RowKit
set_option maxRecDepth 8000
/-- an empty book -/
def yb0 : Yb := ⟨fun _ => .slice none 0 0, fun _ => [], 0, [], []⟩
theorem book_new {w : World} {Z : Nat → Prop} {kb : Nat} (hX : Box w kb (ybC (.slice none 0 0) (.slice none 0 0) (.slice none 0 0) (.slice none 0 0) (.slice none 0 0) (.slice none 0 0) 0) 48) (hz : ¬ Z kb) (hl : ∀ k, Z k → k < w.heap.size) : YbI w Z kb yb0 [] [] [] [] [] [] := by
  have hob : ob (.slice none 0 0) = [] := rfl
  have hhot : ∀ k, k ∈ yb0.hot kb → k = kb := fun k hk => by
    rcases Yb.mem_hot.1 hk with h | ⟨i, _, h⟩ | ⟨x, hx, _⟩
    · exact h
    · rw [show yb0.F i = .slice none 0 0 from rfl, hob] at h
      simp at h
    · simp [yb0] at hx
  have hcold : ∀ k, ¬ yb0.cold k := fun k ⟨x, hx, _⟩ => by simp [yb0] at hx
  refine ⟨⟨hX, fun i _ => World.ownsRow_nil _ _ _ _, fun x hx => by simp [yb0] at hx, fun x hx => by simp [yb0] at hx, fun i _ => ?_, fun i j _ _ _ k hk => ?_, fun x hx => by simp [yb0] at hx, fun i _ x hx => by simp [yb0] at hx, List.Pairwise.nil, fun k _ => hcold k, fun k hk => by rw [hhot k hk]; exact hz, fun k h => absurd h (hcold k), hl⟩, ⟨rfl, rfl, rfl, rfl, rfl, rfl, rfl, rfl, rfl, rfl, fun l h => by simp at h, fun m h => by simp at h, rfl, fun x h => by simp at h, by show 0 + 2 * 0 ≤ _; omega, by show (0 : Int) ≤ 0 ∧ (0 : Int) ≤ 1000000; omega⟩⟩
  · rw [show yb0.F i = .slice none 0 0 from rfl, hob]; simp
  · rw [show yb0.F i = .slice none 0 0 from rfl, hob] at hk; simp at hk
end Go.Proofs.Ytbeibhmbaofjhaa
