import Derived.Test.YtkfcilandmhomaaDoorOpnG
namespace Go.Proofs.YtkfcilandmhomaaDoor
open Go.ChangeShapes Go.WideShapes Go.ChangeAt Go.RowKit
set_option maxRecDepth 8000
/-- WHAT A LIST OF NUMBERS THAT CAME IN IS -/
theorem open_intsD {H : Type} {enc : TypeId × Value → H} {W : World} {base : Nat} {v : Value} {d : DataW H} {p : List MemPlace}
    (hv : Value.okWide Tryd.prog W .any base 31 v) (hd : DataW.Trod enc Tryd.prog W 0 (fun _ => true) true 31 v d p) (hw : ∀ n ∈ d.weights Tryd.prog 31, n ≤ reachBytes) :
    ∃ l : LT Int, v = .slice l.p l.n l.c ∧ LT.In elInt W (fun b => b < W.heap.size) l := by
  obtain ⟨a0, len0, cap0, rfl⟩ := okWide_slice Tryd.underlying31 hv
  obtain ⟨fuel, hf⟩ := hd
  obtain ⟨l, hc, hl⟩ := open_list (0 : Int) elInt 31 7 Tryd.underlying31 cellsI3 (by decide) bytesI3 opens_int fuel _ (d, p) hf hw
  exact ⟨l, by simpa [Value.cells] using hc, hl⟩
end Go.Proofs.YtkfcilandmhomaaDoor
