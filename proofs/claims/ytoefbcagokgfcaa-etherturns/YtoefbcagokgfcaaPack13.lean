import Derived.Test.YtoefbcagokgfcaaPack12
import Derived.Test.YtoefbcagokgfcaaPack6
namespace Go.Proofs.Ytoefbcagokgfcaa
open Go.RowKit
set_option maxRecDepth 8000
/-- a network beside all that lay below B -/
structure En (B : Nat) (W w : World) (b : Nat) (m : Int) (A : List FA) : Prop where
  et : EtA w (Lo B) b m A
  bel : Below B W w
  sz : B ≤ W.heap.size
theorem En.lo {B : Nat} {W w : World} {b : Nat} {m : Int} {A : List FA} (h : En B W w b m A) : ∀ k, Lo B k → k < w.heap.size := fun k hk => by
  have h1 : k < B := hk
  have := h.sz
  have := h.bel.size
  omega
theorem En.below {B : Nat} {W w w' : World} {b : Nat} {m : Int} {A : List FA} (h : En B W w b m A) (hb : Below w.heap.size w w') : En B W w' b m A :=
  ⟨h.et.below hb (fun _ _ h => h), h.bel.trans (hb.mono (by have := h.sz; have := h.bel.size; omega)), h.sz⟩
theorem En.fr {B : Nat} {W w w' : World} {b : Nat} {m : Int} {A A' : List FA} (h : En B W w b m A) (hb : Fr (Lo B) w w') (hE : EtA w' (Lo B) b m A') : En B W w' b m A' :=
  ⟨hE, h.bel.trans (hb.lo (by have := h.sz; have := h.bel.size; omega)), h.sz⟩
/-- Send in one word -/
theorem send_en {B : Nat} {W w : World} {b : Nat} {m : Int} {A : List FA} (h : En B W w b m A) (fr tt : Int) (p : Option Addr) (c : Nat) (zs : List Int) (hs : Src w p zs.length c 1 (zs.map (.int .u8))) (hby : ∀ z ∈ zs, 0 ≤ z ∧ z < 256) (x : Int) (hx : sendE m fr tt zs.length A.length = x) :
    Calls Try.prog 10 #[.pointer (some ⟨b, 0, none⟩), .int .i64 fr, .int .i64 tt, .slice p zs.length c] w fun e w' => e = .returned (.int .i64 x) ∧ (x = 0 → En B W w' b m (A ++ [⟨fr, tt, zs⟩])) ∧ (x ≠ 0 → En B W w' b m A) := by
  subst hx
  refine (send_any w (Lo B) b m A h.et h.lo fr tt p c zs hs hby).mono ?_
  rintro e w' ⟨rfl, h1, h2, h3⟩
  exact ⟨rfl, fun h0 => h.fr h3 (h1 h0), fun h0 => h.fr h3 (h2 h0)⟩
theorem copy_en {B : Nat} {W w : World} {b : Nat} {m : Int} {A : List FA} (h : En B W w b m A) (i : Int) (x : Int) (hx : copyE i A.length = x) :
    Calls Try.prog 15 #[.pointer (some ⟨b, 0, none⟩), .int .i64 i] w fun e w' => e = .returned (.int .i64 x) ∧ (x = 0 → ∃ a, A[i.toNat]? = some a ∧ En B W w' b m (A ++ [a])) ∧ (x ≠ 0 → En B W w' b m A) := by
  subst hx
  refine (copy_any w (Lo B) b m A h.et h.lo i).mono ?_
  rintro e w' ⟨rfl, h1, h2, h3⟩
  exact ⟨rfl, fun h0 => by
    obtain ⟨a, ha, hE⟩ := h1 h0
    exact ⟨a, ha, h.fr h3 hE⟩, fun h0 => h.fr h3 (h2 h0)⟩
theorem list_en {B : Nat} {W w : World} {b : Nat} {m : Int} {A : List FA} (h : En B W w b m A) :
    Calls Try.prog 13 #[.pointer (some ⟨b, 0, none⟩)] w fun e w' => ∃ (g : Nat) (U : List FL), e = .returned (.slice (some ⟨g, 0, none⟩) A.length A.length) ∧ U.map FL.a = A ∧ LsI w' w.heap.size g U ∧ Below w.heap.size w w' ∧ En B W w' b m A := by
  refine (list_any w (Lo B) b m A h.et).mono ?_
  rintro e w' ⟨g, U, rfl, h1, h2, h3⟩
  exact ⟨g, U, rfl, h1, h2, h3, h.below h3⟩
theorem deliver_en {B : Nat} {W w : World} {b : Nat} {m : Int} {A : List FA} (h : En B W w b m A) (i : Int) (hi : inA i A.length) :
    Calls Try.prog 11 #[.pointer (some ⟨b, 0, none⟩), .int .i64 i] w fun e w' => ∃ (a : FA) (d : Nat), A[i.toNat]? = some a ∧ e = .returned (.tuple #[.agg #[.int .i64 a.fr, .int .i64 a.tt, .slice (some ⟨d, 0, none⟩) a.zs.length a.zs.length], .bool true]) ∧ w.heap.size ≤ d ∧ Box w' d (bys a.zs) 5 ∧ En B W w' b m (A.eraseIdx i.toNat) := by
  refine (deliver_any w (Lo B) b m A h.et h.lo i).mono ?_
  intro e w' hq
  obtain ⟨a, d, ha, rfl, hd, hb, hE, hF⟩ := hq.2 hi
  exact ⟨a, d, ha, rfl, hd, hb, h.fr hF (hE.z fun k _ hk => .inl hk)⟩
theorem deliver_no {B : Nat} {W w : World} {b : Nat} {m : Int} {A : List FA} (h : En B W w b m A) (i : Int) (hi : ¬ inA i A.length) :
    Calls Try.prog 11 #[.pointer (some ⟨b, 0, none⟩), .int .i64 i] w fun e w' => e = .returned (.tuple #[.agg #[.int .i64 0, .int .i64 0, .slice none 0 0], .bool false]) ∧ En B W w' b m A := by
  refine (deliver_any w (Lo B) b m A h.et h.lo i).mono ?_
  intro e w' hq
  obtain ⟨rfl, hE, hF⟩ := hq.1 hi
  exact ⟨rfl, h.fr hF hE⟩
theorem drop_en {B : Nat} {W w : World} {b : Nat} {m : Int} {A : List FA} (h : En B W w b m A) (i : Int) (hi : inA i A.length) :
    Calls Try.prog 23 #[.pointer (some ⟨b, 0, none⟩), .int .i64 i] w fun e w' => e = .returned (.bool true) ∧ En B W w' b m (A.eraseIdx i.toNat) := by
  refine (drop_any w (Lo B) b m A h.et h.lo i).mono ?_
  intro e w' hq
  obtain ⟨rfl, hE, hF⟩ := hq.2 hi
  exact ⟨rfl, h.fr hF hE⟩
theorem drop_no {B : Nat} {W w : World} {b : Nat} {m : Int} {A : List FA} (h : En B W w b m A) (i : Int) (hi : ¬ inA i A.length) :
    Calls Try.prog 23 #[.pointer (some ⟨b, 0, none⟩), .int .i64 i] w fun e w' => e = .returned (.bool false) ∧ En B W w' b m A := by
  refine (drop_any w (Lo B) b m A h.et h.lo i).mono ?_
  intro e w' hq
  obtain ⟨rfl, hE, hF⟩ := hq.1 hi
  exact ⟨rfl, h.fr hF hE⟩
theorem flip_en {B : Nat} {W w : World} {b : Nat} {m : Int} {A : List FA} (h : En B W w b m A) (i bit : Int) (hb : bit ≤ 9223372036854775807) (hi : canF A i bit) :
    Calls Try.prog 19 #[.pointer (some ⟨b, 0, none⟩), .int .i64 i, .int .i64 bit] w fun e w' => e = .returned (.bool true) ∧ ∃ a, A[i.toNat]? = some a ∧ En B W w' b m (A.set i.toNat (a.flip bit.toNat)) := by
  refine (flip_any w (Lo B) b m A h.et i bit hb).mono ?_
  intro e w' hq
  obtain ⟨rfl, ⟨a, ha, hE⟩, hF⟩ := hq.2 hi
  exact ⟨rfl, a, ha, h.fr hF hE⟩
theorem flip_no {B : Nat} {W w : World} {b : Nat} {m : Int} {A : List FA} (h : En B W w b m A) (i bit : Int) (hb : bit ≤ 9223372036854775807) (hi : ¬ canF A i bit) :
    Calls Try.prog 19 #[.pointer (some ⟨b, 0, none⟩), .int .i64 i, .int .i64 bit] w fun e w' => e = .returned (.bool false) ∧ En B W w' b m A := by
  refine (flip_any w (Lo B) b m A h.et i bit hb).mono ?_
  intro e w' hq
  obtain ⟨rfl, hE, hF⟩ := hq.1 hi
  exact ⟨rfl, h.fr hF hE⟩
theorem new_en {B : Nat} {W w : World} (m : Int) (hb : Below B W w) (hB : B ≤ W.heap.size) (hm : 1 ≤ m ∧ m ≤ 8) :
    Calls Try.prog 9 #[.int .i64 m] w fun e w' => e = .returned (.tuple #[.pointer (some ⟨w.heap.size, 0, none⟩), .int .i64 0]) ∧ En B W w' w.heap.size m [] := by
  refine (new_any m w).mono ?_
  intro e w' hq
  obtain ⟨rfl, hs, hb', hE⟩ := hq.2 (by omega)
  have := hb.size
  exact ⟨rfl, hE _ (fun k hk => by have h1 : k < B := hk; omega), hb.trans (hb'.mono (by omega)), hB⟩
theorem src_nil (w : World) : Src w none ([] : List Int).length 0 1 (([] : List Int).map (.int .u8)) := .inl ⟨rfl, rfl, rfl, rfl⟩
theorem flat_cell {w : World} {base g : Nat} {U : List FL} (h : LsI w base g U) {j : Nat} {x : FL} (hx : U[j]? = some x) : w.cell? ⟨g, j * 3, none⟩ = some (.int .i64 x.fr) ∧ w.cell? ⟨g, j * 3 + 1, none⟩ = some (.int .i64 x.tt) ∧ w.cell? ⟨g, j * 3 + 2, none⟩ = some (.slice (some ⟨x.d, 0, none⟩) x.zs.length x.zs.length) := by
  have k : ∀ r u, r < 3 → x.cells[r]? = some u → w.cell? ⟨g, j * 3 + r, none⟩ = some u := by
    intro r u hr hu
    rw [h.bx.cell]
    simp only [List.getElem?_toArray]
    rw [flat3 U j r x hx hr]
    exact hu
  exact ⟨k 0 _ (by omega) rfl, k 1 _ (by omega) rfl, k 2 _ (by omega) rfl⟩
end Go.Proofs.Ytoefbcagokgfcaa

namespace Go.Proofs.Ytoefbcagokgfcaa
open Go.RowKit
set_option maxRecDepth 8000
/-- bytes with their address -/
structure BY where
  p : Option Addr
  n : Nat
  c : Nat
  f : Nat → Int
def BY.zs (b : BY) : List Int := (List.range b.n).map b.f
theorem BY.len (b : BY) : b.zs.length = b.n := by simp [BY.zs]
def elBy : El BY where
  ty := 29
  size := 1
  cells := fun x => [.slice x.p x.n x.c]
  len := fun _ => rfl
  one := fun x u hu => by simp only [List.mem_singleton] at hu; subst hu; rfl
  In := fun w S x => Byts w S x.p x.n x.c x.f
  kept := fun h hs hb => h.kept hs hb
  mono := fun h hb => h.mono hb
def elBo : El Bool where
  ty := 4
  size := 1
  cells := fun x => [.bool x]
  len := fun _ => rfl
  one := fun x u hu => by simp only [List.mem_singleton] at hu; subst hu; rfl
  In := fun _ _ _ => True
  kept := fun h _ _ => h
  mono := fun h _ => h
/-- a step of a script -/
structure OU where
  kind : Int
  which : Int
  a : Int
  b : Int
  y : BY
def elOU : El OU where
  ty := 48
  size := 5
  cells := fun x => [.int .i64 x.kind, .int .i64 x.which, .int .i64 x.a, .int .i64 x.b, .slice x.y.p x.y.n x.y.c]
  len := fun _ => rfl
  one := fun x u hu => by
    simp only [List.mem_cons, List.not_mem_nil, or_false] at hu
    rcases hu with rfl | rfl | rfl | rfl | rfl <;> rfl
  In := fun w S x => Byts w S x.y.p x.y.n x.y.c x.y.f ∧ x.b ≤ 9223372036854775807
  kept := fun h hs hb => ⟨h.1.kept hs hb, h.2⟩
  mono := fun h hb => ⟨h.1.mono hb, h.2⟩
/-- bytes as what is appended, and their size -/
theorem BY.src {w : World} {S : Nat → Prop} {x : BY} (h : Byts w S x.p x.n x.c x.f) : Src w x.p x.zs.length x.c 1 (x.zs.map (.int .u8)) := by
  rw [BY.len]
  have := h.src
  simpa [BY.zs, List.map_map, Function.comp_def] using this
theorem BY.by_ {w : World} {S : Nat → Prop} {x : BY} (h : Byts w S x.p x.n x.c x.f) : ∀ z ∈ x.zs, 0 ≤ z ∧ z < 256 := by
  intro z hz
  obtain ⟨j, hj, rfl⟩ := List.mem_map.1 hz
  exact h.fit j (List.mem_range.1 hj)
end Go.Proofs.Ytoefbcagokgfcaa
