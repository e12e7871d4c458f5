import Derived.Test.YtneomdiabcpemaaUaB
namespace Go.Proofs.Ytneomdiabcpemaa
open Go.RowKit
set_option maxRecDepth 8000
/-- bytes with their address -/
structure BY where
  p : Option Addr
  n : Nat
  c : Nat
  f : Nat → Int
def BY.zs (b : BY) : List Int := (List.range b.n).map b.f
theorem BY.len (b : BY) : b.zs.length = b.n := by simp [BY.zs]
def elBy : El BY where
  ty := 29
  size := 1
  cells := fun x => [.slice x.p x.n x.c]
  len := fun _ => rfl
  one := fun x u hu => by simp only [List.mem_singleton] at hu; subst hu; rfl
  In := fun w S x => Byts w S x.p x.n x.c x.f
  kept := fun h hs hb => h.kept hs hb
  mono := fun h hb => h.mono hb
def elBo : El Bool where
  ty := 4
  size := 1
  cells := fun x => [.bool x]
  len := fun _ => rfl
  one := fun x u hu => by simp only [List.mem_singleton] at hu; subst hu; rfl
  In := fun _ _ _ => True
  kept := fun h _ _ => h
  mono := fun h _ => h
/-- a step of a script -/
structure OU where
  kind : Int
  which : Int
  a : Int
  b : Int
  y : BY
def elOU : El OU where
  ty := 48
  size := 5
  cells := fun x => [.int .i64 x.kind, .int .i64 x.which, .int .i64 x.a, .int .i64 x.b, .slice x.y.p x.y.n x.y.c]
  len := fun _ => rfl
  one := fun x u hu => by
    simp only [List.mem_cons, List.not_mem_nil, or_false] at hu
    rcases hu with rfl | rfl | rfl | rfl | rfl <;> rfl
  In := fun w S x => Byts w S x.y.p x.y.n x.y.c x.y.f ∧ x.b ≤ 9223372036854775807
  kept := fun h hs hb => ⟨h.1.kept hs hb, h.2⟩
  mono := fun h hb => ⟨h.1.mono hb, h.2⟩
/-- bytes as what is appended, and their size -/
theorem BY.src {w : World} {S : Nat → Prop} {x : BY} (h : Byts w S x.p x.n x.c x.f) : Src w x.p x.zs.length x.c 1 (x.zs.map (.int .u8)) := by
  rw [BY.len]
  have := h.src
  simpa [BY.zs, List.map_map, Function.comp_def] using this
theorem BY.by_ {w : World} {S : Nat → Prop} {x : BY} (h : Byts w S x.p x.n x.c x.f) : ∀ z ∈ x.zs, 0 ≤ z ∧ z < 256 := by
  intro z hz
  obtain ⟨j, hj, rfl⟩ := List.mem_map.1 hz
  exact h.fit j (List.mem_range.1 hj)
end Go.Proofs.Ytneomdiabcpemaa
