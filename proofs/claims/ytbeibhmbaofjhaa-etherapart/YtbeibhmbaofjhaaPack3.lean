import Derived.Test.YtbeibhmbaofjhaaPack0
namespace Go.Proofs.Ytbeibhmbaofjhaa
open Go.RowKit
set_option maxRecDepth 8000
theorem kindB : ∃ i, Kind 51 5 i (.int .u8 0) 1 1 := by
  obtain ⟨i0, hi, hz0, hz1, hz2⟩ := info_parts (show (Try.prog.info? 5).map (fun i => (i.zero, i.size, i.bytes)) = some (some (.int .u8 0), 1, 1) by kernel_rfl)
  exact ⟨i0, Try.underlying51, hi, hz0, hz1, hz2, rfl, by decide⟩
theorem wrap_u64 (x : Int) : IntKind.u64.wrap x = x % 18446744073709551616 := by
  simp [IntKind.wrap, IntKind.bits, IntKind.signed]
/-- a row of one byte -/
theorem row_one (w : World) (x : Int) : (w.alloc (.cells #[.int .u8 x] 5)).ownsRow w.heap.size 5 1 (.slice (some ⟨w.heap.size, 0, none⟩) 1 1) 1 [.int .u8 x] := by
  have h := World.ownsRow_made (base := w.heap.size) (e := 5) (size := 1) w #[.int .u8 x] 1 (Nat.le_refl _) (by unfold maxLen; omega) (by simp)
  refine ⟨by simp, .inr ⟨w.heap.size, 1, #[.int .u8 x], rfl, Nat.le_refl _, ?_, Nat.le_refl _, by unfold maxLen; omega, by simp, by simp⟩⟩
  exact Box.new w _ 5

/-- bytes in a row of the call's own -/
def OwnBy (base : Nat) (w : World) (v : Value) (zs : List Int) : Prop := w.ownsRow base 5 1 v zs.length (zs.map (Value.int .u8))
theorem OwnBy.app {base : Nat} {w w' : World} {v v' : Value} {zs ys : List Int} (_h : OwnBy base w v zs) (ho : w'.ownsRow base 5 1 v' (zs.length + ys.length) (zs.map (Value.int .u8) ++ ys.map (Value.int .u8))) : OwnBy base w' v' (zs ++ ys) := by
  unfold OwnBy
  rw [List.length_append, List.map_append]
  exact ho
theorem OwnBy.below {base : Nat} {w w' : World} {v : Value} {zs : List Int} (h : OwnBy base w v zs) (hb : Below w.heap.size w w') : OwnBy base w' v zs := ownsRow_keep h fun g _ hl => hb.block g hl
theorem OwnBy.slice {base : Nat} {w : World} {v : Value} {zs : List Int} (h : OwnBy base w v zs) (hz : 0 < zs.length) : ∃ b c, v = .slice (some ⟨b, 0, none⟩) zs.length c ∧ base ≤ b ∧ b < w.heap.size ∧ ∀ j u, (zs.map (Value.int .u8))[j]? = some u → w.cell? ((⟨b, 0, none⟩ : Addr).add j) = some u := by
  have hlt := World.ownsRow.lt h
  have hc := @World.ownsRow.cells _ _ _ _ _ _ _ h
  obtain ⟨_, ⟨hv, h0⟩ | ⟨b, cap, cur, hv, hbg, hh, _⟩⟩ := id h
  · omega
  · exact ⟨b, cap, hv, hbg, (hlt b (by rw [hv]; rfl)).2, hc (by rw [hv]; rfl)⟩
end Go.Proofs.Ytbeibhmbaofjhaa

namespace Go.Proofs.Ytbeibhmbaofjhaa
open Go.RowKit
set_option maxRecDepth 8000
/-- bytes in a row, in a block of S -/
structure Byts (w : World) (S : Nat → Prop) (p : Option Addr) (n c : Nat) (f : Nat → Int) : Prop where
  at_ : 0 < n → ∃ b o, p = some ⟨b, o, none⟩ ∧ S b ∧ b < w.heap.size ∧ ∀ j, j < n → w.cell? ⟨b, o + j, none⟩ = some (.int .u8 (f j))
  nc : n ≤ c
  nn : n ≤ 140737488355328
  cc : c ≤ maxLen
  fit : ∀ j, j < n → 0 ≤ f j ∧ f j < 256
  nil : p = none → n = 0 ∧ c = 0
theorem Byts.kept {w w' : World} {S : Nat → Prop} {p : Option Addr} {n c : Nat} {f : Nat → Int} (h : Byts w S p n c f) (hs : w.heap.size ≤ w'.heap.size) (hb : ∀ b, S b → b < w.heap.size → w'.heap[b]? = w.heap[b]?) : Byts w' S p n c f := by
  refine ⟨fun hn => ?_, h.nc, h.nn, h.cc, h.fit, h.nil⟩
  obtain ⟨b, o, e, hS, hl, ha⟩ := h.at_ hn
  exact ⟨b, o, e, hS, Nat.lt_of_lt_of_le hl hs, fun j hj => (World.cell?_of_block (a := ⟨b, o + j, none⟩) (hb b hS hl)).trans (ha j hj)⟩
theorem Byts.mono {w : World} {S S' : Nat → Prop} {p : Option Addr} {n c : Nat} {f : Nat → Int} (h : Byts w S p n c f) (hb : ∀ b, S b → b < w.heap.size → S' b) : Byts w S' p n c f := by
  refine ⟨fun hn => ?_, h.nc, h.nn, h.cc, h.fit, h.nil⟩
  obtain ⟨b, o, e, hS, hl, ha⟩ := h.at_ hn
  exact ⟨b, o, e, hb b hS hl, hl, ha⟩
theorem Byts.src {w : World} {S : Nat → Prop} {p : Option Addr} {n c : Nat} {f : Nat → Int} (h : Byts w S p n c f) : Src w p n c 1 ((List.range n).map fun j => .int .u8 (f j)) := by
  cases p with
  | none => obtain ⟨rfl, rfl⟩ := h.nil rfl; exact .inl ⟨rfl, rfl, rfl, rfl⟩
  | some ad =>
    refine .inr ⟨ad, rfl, by simp, fun j u hu => ?_⟩
    by_cases hj : j < n
    · obtain ⟨b, o, e, _, _, ha⟩ := h.at_ (by omega)
      cases e
      rw [Go.WideShapes.add_plain, ha j hj]
      simp [List.getElem?_range hj] at hu
      rw [hu]
    · simp [List.getElem?_eq_none (show ((List.range n).map fun j => Value.int .u8 (f j)).length ≤ j by simp; omega)] at hu
theorem oneCell_byts (n : Nat) (f : Nat → Int) : ∀ u ∈ ((List.range n).map fun j => Value.int .u8 (f j)), u.oneCell' = true := by
  intro u hu
  obtain ⟨j, _, rfl⟩ := List.mem_map.1 hu
  rfl
end Go.Proofs.Ytbeibhmbaofjhaa

namespace Go.Proofs.Ytbeibhmbaofjhaa
open Go.RowKit
set_option maxRecDepth 8000

/-- what stands in a row: its type, how many cells, which, and what they hold elsewhere -/
structure El (α : Type) where
  ty : TypeId
  size : Nat
  cells : α → List Value
  len : ∀ x, (cells x).length = size
  one : ∀ x u, u ∈ cells x → u.oneCell' = true
  In : World → (Nat → Prop) → α → Prop
  kept : ∀ {w w' : World} {S : Nat → Prop} {x : α}, In w S x → w.heap.size ≤ w'.heap.size → (∀ b, S b → b < w.heap.size → w'.heap[b]? = w.heap[b]?) → In w' S x
  mono : ∀ {w : World} {S S' : Nat → Prop} {x : α}, In w S x → (∀ b, S b → b < w.heap.size → S' b) → In w S' x
/-- a list with its address -/
structure LT (α : Type) where
  p : Option Addr
  n : Nat
  c : Nat
  item : Nat → α
def LT.val {α : Type} (l : LT α) : Value := .slice l.p l.n l.c
structure LT.In {α : Type} (E : El α) (w : World) (S : Nat → Prop) (l : LT α) : Prop where
  at_ : 0 < l.n → ∃ b o, l.p = some ⟨b, o, none⟩ ∧ S b ∧ b < w.heap.size ∧ ∀ j, j < l.n → ∀ r u, (E.cells (l.item j))[r]? = some u → w.cell? ⟨b, o + j * E.size + r, none⟩ = some u
  each : ∀ j, j < l.n → E.In w S (l.item j)
  nc : l.n ≤ l.c
  nn : l.n ≤ 140737488355328
  cc : l.c ≤ maxLen
  nil : l.p = none → l.n = 0 ∧ l.c = 0
theorem LT.In.kept {α : Type} {E : El α} {w w' : World} {S : Nat → Prop} {l : LT α} (h : LT.In E w S l) (hs : w.heap.size ≤ w'.heap.size) (hb : ∀ b, S b → b < w.heap.size → w'.heap[b]? = w.heap[b]?) : LT.In E w' S l := by
  refine ⟨fun hn => ?_, fun j hj => E.kept (h.each j hj) hs hb, h.nc, h.nn, h.cc, h.nil⟩
  obtain ⟨b, o, e, hS, hl, ha⟩ := h.at_ hn
  exact ⟨b, o, e, hS, Nat.lt_of_lt_of_le hl hs, fun j hj r u hu => (World.cell?_of_block (a := ⟨b, o + j * E.size + r, none⟩) (hb b hS hl)).trans (ha j hj r u hu)⟩
theorem LT.In.mono {α : Type} {E : El α} {w : World} {S S' : Nat → Prop} {l : LT α} (h : LT.In E w S l) (hb : ∀ b, S b → b < w.heap.size → S' b) : LT.In E w S' l := by
  refine ⟨fun hn => ?_, fun j hj => E.mono (h.each j hj) hb, h.nc, h.nn, h.cc, h.nil⟩
  obtain ⟨b, o, e, hS, hl, ha⟩ := h.at_ hn
  exact ⟨b, o, e, hb b hS hl, hl, ha⟩
theorem LT.In.below {α : Type} {E : El α} {w w' : World} {S : Nat → Prop} {l : LT α} (h : LT.In E w S l) (hb : Below w.heap.size w w') : LT.In E w' S l := h.kept hb.size fun b _ hl => hb.block b hl
theorem LT.In.but {α : Type} {E : El α} {w w' : World} {S X : Nat → Prop} {l : LT α} (h : LT.In E w S l) (hb : But X w w') (hx : ∀ b, S b → b < w.heap.size → ¬ X b) : LT.In E w' S l :=
  h.kept hb.size fun b hS hl => hb.block b hl (hx b hS hl)
/-- an empty list -/
theorem LT.In.none_ {α : Type} (E : El α) (w : World) (S : Nat → Prop) (p : Option Addr) (c : Nat) (f : Nat → α) (hc : c ≤ maxLen) (hp : p = none → c = 0) : LT.In E w S ⟨p, 0, c, f⟩ :=
  ⟨fun h => absurd h (by simp), fun j h => absurd h (by simp), Nat.zero_le _, Nat.zero_le _, hc, fun h => ⟨rfl, hp h⟩⟩

theorem range_flat_len {α : Type} (E : El α) (g : Nat → α) (m : Nat) : ((List.range m).flatMap fun j => E.cells (g j)).length = m * E.size := by
  induction m with
  | zero => simp
  | succ m ih => rw [List.range_succ, List.flatMap_append, List.length_append, ih]; simp [E.len, Nat.add_mul]
theorem range_flat_get {α : Type} (E : El α) (g : Nat → α) : ∀ (n j r : Nat), j < n → r < E.size → ((List.range n).flatMap fun j => E.cells (g j))[j * E.size + r]? = (E.cells (g j))[r]? := by
  intro n
  induction n with
  | zero => intro j r h; omega
  | succ n ih =>
    intro j r hj hr
    rw [List.range_succ, List.flatMap_append]
    by_cases h : j < n
    · have h1 : (j + 1) * E.size ≤ n * E.size := Nat.mul_le_mul h (Nat.le_refl _)
      rw [Nat.add_mul] at h1
      rw [List.getElem?_append_left (by rw [range_flat_len]; omega)]
      exact ih j r h hr
    · obtain rfl : j = n := by omega
      rw [List.getElem?_append_right (by rw [range_flat_len]; omega), range_flat_len]
      simp only [List.flatMap_cons, List.flatMap_nil, List.append_nil]
      congr 1
      omega
/-- a row of the call's own, and what it holds in other blocks -/
structure OwnL {α : Type} (E : El α) (base : Nat) (w : World) (v : Value) (n : Nat) (g : Nat → α) : Prop where
  own : w.ownsRow base E.ty E.size v n ((List.range n).flatMap fun j => E.cells (g j))
  each : ∀ j, j < n → E.In w (fun b => base ≤ b ∧ v.ownBlock ≠ some b) (g j)
theorem OwnL.keep {α : Type} {E : El α} {base : Nat} {w w' : World} {v : Value} {n : Nat} {g : Nat → α} (h : OwnL E base w v n g) (hs : w.heap.size ≤ w'.heap.size) (hb : ∀ k, base ≤ k → k < w.heap.size → w'.heap[k]? = w.heap[k]?) : OwnL E base w' v n g :=
  ⟨ownsRow_keep h.own (fun k hk hl => hb k (h.own.lt k hk).1 hl), fun j hj => E.kept (h.each j hj) hs (fun b hS hl => hb b hS.1 hl)⟩
theorem OwnL.push {α : Type} {E : El α} {base : Nat} {w w' : World} {v v' : Value} {n : Nat} {g : Nat → α} {u : α} (h : OwnL E base w v n g) (hu : E.In w (fun b => base ≤ b ∧ v.ownBlock ≠ some b) u)
    (hown : w'.ownsRow base E.ty E.size v' (n + 1) (((List.range n).flatMap fun j => E.cells (g j)) ++ E.cells u)) (hg : w.grownBy w' v.ownBlock) (hn : Near w v v') :
    OwnL E base w' v' (n + 1) (fun j => if j < n then g j else u) := by
  have key : ∀ x, E.In w (fun b => base ≤ b ∧ v.ownBlock ≠ some b) x → E.In w' (fun b => base ≤ b ∧ v'.ownBlock ≠ some b) x := by
    intro x hx
    have h1 : E.In w (fun b => base ≤ b ∧ v.ownBlock ≠ some b ∧ v'.ownBlock ≠ some b) x := by
      refine E.mono hx fun b hb hl => ⟨hb.1, hb.2, fun e => ?_⟩
      rcases hn with h1 | h1
      · exact hb.2 (h1 ▸ e)
      · have := h1 b e; omega
    have h2 := E.kept h1 hg.size (fun b hb hl => hg.block b hl (fun e => hb.2.1 e.symm))
    exact E.mono h2 fun b hb _ => ⟨hb.1, hb.2.2⟩
  refine ⟨?_, fun j hj => ?_⟩
  · have e : ((List.range (n + 1)).flatMap fun j => E.cells (if j < n then g j else u)) = ((List.range n).flatMap fun j => E.cells (g j)) ++ E.cells u := by
      rw [List.range_succ, List.flatMap_append]
      congr 1
      · rw [List.flatMap_def, List.flatMap_def]
        congr 1
        apply List.map_congr_left
        intro j hj
        rw [if_pos (List.mem_range.1 hj)]
      · simp
    rw [e]
    exact hown
  · by_cases hjn : j < n
    · rw [if_pos hjn]; exact key _ (h.each j hjn)
    · rw [if_neg hjn]; exact key _ hu
/-- the row as a list -/
theorem OwnL.in_ {α : Type} {E : El α} {base : Nat} {w : World} {v : Value} {n : Nat} {g : Nat → α} (h : OwnL E base w v n g) (hnn : n ≤ 140737488355328) :
    ∃ p c, v = .slice p n c ∧ LT.In E w (fun b => base ≤ b) ⟨p, n, c, g⟩ := by
  have hlt := h.own.lt
  have hce := @World.ownsRow.cells _ _ _ _ _ _ _ h.own
  obtain ⟨_, ⟨hv, h0⟩ | ⟨gb, cap, cur, hv, hbg, hh, hnc, hcm, hcs, htake⟩⟩ := id h.own
  · subst h0
    exact ⟨none, 0, hv, LT.In.none_ E w _ none 0 g (Nat.zero_le _) (fun _ => rfl)⟩
  · refine ⟨_, cap, hv, fun hn => ⟨gb, 0, rfl, hbg, (hlt gb (by rw [hv]; rfl)).2, fun j hj r u hu => ?_⟩, fun j hj => E.mono (h.each j hj) fun b hb _ => hb.1, hnc, hnn, hcm, fun h => by cases h⟩
    have hr : r < E.size := by
      rcases Nat.lt_or_ge r E.size with h1 | h1
      · exact h1
      · rw [List.getElem?_eq_none (by rw [E.len]; exact h1)] at hu; cases hu
    have := hce (g := gb) (by rw [hv]; rfl) (j * E.size + r) u (by rw [range_flat_get E g n j r hj hr]; exact hu)
    rw [Go.WideShapes.add_plain] at this
    rw [show (0 : Nat) + j * E.size + r = 0 + (j * E.size + r) by omega]
    exact this
theorem oneCell_flat {α : Type} (E : El α) (x : α) : ∀ u ∈ E.cells x, u.oneCell' = true := E.one x

/-- ints, texts, records, lists -/
def elInt : El Int where
  ty := 3
  size := 1
  cells := fun x => [.int .i64 x]
  len := fun _ => rfl
  one := fun x u hu => by simp only [List.mem_singleton] at hu; subst hu; rfl
  In := fun _ _ x => -9223372036854775808 ≤ x ∧ x ≤ 9223372036854775807
  kept := fun h _ _ => h
  mono := fun h _ => h
def elStr : El ByteArray where
  ty := 9
  size := 1
  cells := fun x => [.string x]
  len := fun _ => rfl
  one := fun x u hu => by simp only [List.mem_singleton] at hu; subst hu; rfl
  In := fun _ _ x => x.size ≤ 140737488355328
  kept := fun h _ _ => h
  mono := fun h _ => h
/-- a value in a row -/
def elVal : El VT where
  ty := 92
  size := 4
  cells := VT.cells
  len := fun _ => rfl
  one := fun x => oneCell_cells x
  In := VT.In
  kept := fun h hs hb => h.kept hs hb
  mono := fun h hb => h.mono hb
/-- a cell of a state: a value's text and items -/
def elCell : El VT where
  ty := 96
  size := 2
  cells := VT.two
  len := fun _ => rfl
  one := fun x u hu => by
    simp only [VT.two, List.mem_cons, List.not_mem_nil, or_false] at hu
    rcases hu with rfl | rfl <;> rfl
  In := VT.In
  kept := fun h hs hb => h.kept hs hb
  mono := fun h hb => h.mono hb
def elRec : El RT where
  ty := 94
  size := 6
  cells := RT.cells
  len := fun _ => rfl
  one := fun x u hu => by
    simp only [RT.cells, List.mem_cons, List.not_mem_nil, or_false] at hu
    rcases hu with rfl | rfl | rfl | rfl | rfl | rfl <;> rfl
  In := RT.In
  kept := fun h hs hb => h.kept hs hb
  mono := fun h hb => h.mono hb
def elRecs : El (LT RT) where
  ty := 78
  size := 1
  cells := fun l => [.slice l.p l.n l.c]
  len := fun _ => rfl
  one := fun x u hu => by simp only [List.mem_singleton] at hu; subst hu; rfl
  In := LT.In elRec
  kept := fun h hs hb => h.kept hs hb
  mono := fun h hb => h.mono hb
end Go.Proofs.Ytbeibhmbaofjhaa
