import Derived.Test.YtkfcilandmhomaaDoorPack13
namespace Go.Proofs.YtkfcilandmhomaaDoor
open Go.RowKit
set_option maxRecDepth 8000
def lessN (a b : ByteArray) : Bool := Op.bytesLess a.toList b.toList
/-- a file laid at its place -/
def insR (f : RO) : List RO → List RO
  | [] => [f]
  | a :: l => if lessN f.name a.name = true then f :: a :: l else a :: insR f l
theorem insR_done (f a : RO) : ∀ l : List RO, (∃ x ∈ l, lessN f.name x.name = true) → insR f (l ++ [a]) = insR f l ++ [a]
  | [], h => by obtain ⟨x, hx, _⟩ := h; cases hx
  | b :: l, h => by
    by_cases hb : lessN f.name b.name = true
    · simp [insR, hb]
    · simp only [List.cons_append, insR, if_neg hb]
      have ih := insR_done f a l (by
        obtain ⟨x, hx, hl⟩ := h
        rcases List.mem_cons.1 hx with rfl | hx
        · exact absurd hl hb
        · exact ⟨x, hx, hl⟩)
      rw [ih]
theorem insR_last (f a : RO) (ha : lessN f.name a.name = true) : ∀ l : List RO, (∀ x ∈ l, lessN f.name x.name = false) → insR f (l ++ [a]) = l ++ [f, a]
  | [], _ => by simp [insR, ha]
  | b :: l, h => by
    have hb : ¬ lessN f.name b.name = true := by rw [h b (by simp)]; simp
    simp only [List.cons_append, insR, if_neg hb]
    rw [insR_last f a ha l fun x hx => h x (List.mem_cons_of_mem _ hx)]
theorem insR_none (f : RO) : ∀ l : List RO, (∀ x ∈ l, lessN f.name x.name = false) → insR f l = l ++ [f]
  | [], _ => rfl
  | b :: l, h => by
    have hb : ¬ lessN f.name b.name = true := by rw [h b (by simp)]; simp
    simp only [List.cons_append, insR, if_neg hb]
    rw [insR_none f l fun x hx => h x (List.mem_cons_of_mem _ hx)]
theorem insR_len (f : RO) : ∀ l : List RO, (insR f l).length = l.length + 1
  | [] => rfl
  | b :: l => by
    simp only [insR]
    split
    · simp
    · simp [insR_len f l]
theorem insR_mem (f : RO) : ∀ (l : List RO) (x : RO), x ∈ insR f l → x = f ∨ x ∈ l
  | [], x, h => .inl (by simpa [insR] using h)
  | b :: l, x, h => by
    simp only [insR] at h
    split at h
    · rcases List.mem_cons.1 h with h | h
      · exact .inl h
      · exact .inr h
    · rcases List.mem_cons.1 h with h | h
      · exact .inr (by rw [h]; simp)
      · rcases insR_mem f l x h with h | h
        · exact .inl h
        · exact .inr (List.mem_cons_of_mem _ h)
def LT.lst (A : LT RO) (i : Nat) : List RO := (List.range i).map A.item
theorem lst_succ (A : LT RO) (i : Nat) : A.lst (i + 1) = A.lst i ++ [A.item i] := by simp [LT.lst, List.range_succ]
/-- what is laid down behind i files -/
def putL (A : LT RO) (f : RO) (i : Nat) (dn : Bool) : List RO := if dn = true then insR f (A.lst i) else A.lst i
/-- has the file been laid already? -/
def putB (A : LT RO) (f : RO) (i : Nat) : Bool := (A.lst i).any fun x => lessN f.name x.name
def lOf {α : Type} (p : Option Addr) (c : Nat) (z : α) (xs : List α) : LT α := ⟨p, xs.length, c, fun j => xs.getD j z⟩
theorem flat_getL {α : Type} (E : El α) : ∀ (xs : List α) (j r : Nat) (z : α), j < xs.length → r < E.size → (xs.flatMap E.cells)[j * E.size + r]? = (E.cells (xs.getD j z))[r]? := by
  intro xs
  induction xs with
  | nil => intro j r z h; simp at h
  | cons x xs ih =>
    intro j r z h hr
    rw [List.flatMap_cons]
    cases j with
    | zero =>
      rw [List.getElem?_append_left (by rw [E.len]; omega)]
      simp
    | succ j =>
      rw [List.getElem?_append_right (by rw [E.len, Nat.add_mul]; omega), E.len]
      have := ih j r z (by simpa using h) hr
      rw [show (j + 1) * E.size + r - E.size = j * E.size + r by rw [Nat.add_mul]; omega, this]
      simp
theorem own_lt {α : Type} {E : El α} {W : World} {base : Nat} {p : Option Addr} {c : Nat} {xs : List α} {Q : Nat → Prop} (z : α) (h : W.ownsRow base E.ty E.size (.slice p xs.length c) xs.length (xs.flatMap E.cells)) (hQ : ∀ k, base ≤ k → Q k) (hx : ∀ x ∈ xs, E.In W Q x) (hn : xs.length ≤ 140737488355328) : LT.In E W Q (lOf p c z xs) := by
  have hlt := h.lt
  have hcells := fun g hg => h.cells (g := g) hg
  have hmem : ∀ j, j < xs.length → xs.getD j z ∈ xs := fun j hj => by rw [List.getD_eq_getElem?_getD, List.getElem?_eq_getElem hj]; exact List.getElem_mem hj
  obtain ⟨_, ⟨hv, h0⟩ | ⟨g, cap, cur, hv, hbg, hh, hnc, hcm, _⟩⟩ := h
  · simp only [Value.slice.injEq] at hv
    obtain ⟨rfl, _, rfl⟩ := hv
    exact ⟨fun h => absurd h (by show ¬ 0 < xs.length; omega), fun j hj => hx _ (hmem j hj), by show xs.length ≤ 0; omega, hn, by show 0 ≤ maxLen; omega, fun _ => ⟨h0, rfl⟩⟩
  · simp only [Value.slice.injEq] at hv
    obtain ⟨rfl, _, rfl⟩ := hv
    refine ⟨fun _ => ⟨g, 0, rfl, hQ g hbg, (hlt g rfl).2, fun j hj r u hu => ?_⟩, fun j hj => hx _ (hmem j hj), hnc, hn, hcm, fun h => by cases h⟩
    have hr : r < E.size := by
      rcases Nat.lt_or_ge r E.size with h | h
      · exact h
      · rw [List.getElem?_eq_none (by rw [E.len]; exact h)] at hu; cases hu
    have := hcells g rfl (j * E.size + r) u ((flat_getL E xs j r z hj hr).trans hu)
    rw [Go.WideShapes.add_plain] at this
    rw [show 0 + j * E.size + r = 0 + (j * E.size + r) by omega]
    exact this
theorem putL_len (A : LT RO) (f : RO) (i : Nat) (dn : Bool) : (putL A f i dn).length ≤ i + 1 := by
  unfold putL
  split
  · rw [insR_len]; simp [LT.lst]
  · simp [LT.lst]
end Go.Proofs.YtkfcilandmhomaaDoor
