import Derived.Test.YtbeibhmbaofjhaaPack2
import Derived.BigQuiet
namespace Go.Proofs.Ytbeibhmbaofjhaa
open Go.RowKit
set_option maxRecDepth 8000
/-- the worlds behind W in which all that was there stands -/
structure BW (W : World) where
  val : World
  prop : Below W.heap.size W val
instance BW.any (W : World) : Nonempty (BW W) := ⟨⟨W, Below.refl _ _⟩⟩
def BW.mk' {W V : World} (h : Below W.heap.size W V) : BW W := ⟨V, h⟩
theorem BW.fact {W : World} (u : BW W) {p : Addr} {x : Value} (h : W.cell? p = some x) (hl : p.block < W.heap.size) : u.val.cell? p = some x := (World.cell?_of_block (u.prop.block _ hl)).trans h
theorem BW.ret {W w' : World} {u : BW W} (h : Below u.val.heap.size u.val w') : ∃ u' : BW W, w' = u'.val := ⟨⟨w', u.prop.trans (h.mono u.prop.size)⟩, rfl⟩
/-- a region that draws and only reads; its callees may make new memory, their answers do not hang on it -/
theorem wp_region_bw {P : Program} {id : Nat} {Q : Exit → Act → World → Prop} {a : Act} {w : World} {l : List Oper} (W : World) (hw : Below W.heap.size W w.drew) (hm : P.follows .mixedOrders = true) (hB : Region.lexB .any l.toArray = true)
    (h : wpQuiet P l.toArray (fun w' => ∃ u : BW W, w' = u.val) (fun a' => ∀ w', (∃ u : BW W, w' = u.val) → Q .normal a' w') l a) : (Code.region id l.toArray true).wp P Q a w :=
  wp_region_quiet (C := fun w' => ∃ u : BW W, w' = u.val) hm hB ⟨⟨w.drew, hw⟩, rfl⟩ (by simpa using h)
end Go.Proofs.Ytbeibhmbaofjhaa
