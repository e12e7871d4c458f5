import Derived.Test.YtnbcidlmckmaaaaOpnC
namespace Go.Proofs.Ytnbcidlmckmaaaa
open Go.ChangeShapes Go.WideShapes Go.ChangeAt Go.RowKit
set_option maxRecDepth 8000
/-- WHAT NUMBERS THAT CAME IN ARE -/
theorem open_intsA {H : Type} {enc : TypeId × Value → H} {W : World} {base : Nat} {v : Value} {d : DataW H} {p : List MemPlace}
    (hv : Value.okWide Try.prog W .any base 34 v) (hd : DataW.Trod enc Try.prog W 0 (fun _ => true) true 34 v d p) (hw : ∀ n ∈ d.weights Try.prog 34, n ≤ reachBytes) :
    ∃ n p c f, v = .slice p n c ∧ Ints W (fun b => b < W.heap.size) p n c f := by
  obtain ⟨a0, len0, cap0, rfl⟩ := okWide_slice Try.underlying34 hv
  obtain ⟨fuel, hf⟩ := hd
  obtain ⟨n, q, c, f, h1, h2⟩ := open_ints fuel _ (d, p) hf hw
  refine ⟨n, q, c, f, ?_, h2⟩
  simpa [Value.cells] using h1
end Go.Proofs.Ytnbcidlmckmaaaa
