import Derived.Test.YtckopbkhpbhljaaDlK
namespace Go.Proofs.Ytckopbkhpbhljaa
open Go.RowKit
set_option maxRecDepth 8000

/-- the order of keys -/
def ltB (x y : ByteArray) : Prop := Op.bytesLess x.toList y.toList = true
theorem bl_irr : ∀ x : List UInt8, Op.bytesLess x x = false
  | [] => rfl
  | a :: x => by simp [Op.bytesLess, bl_irr x]
theorem bl_trans : ∀ {x y z : List UInt8}, Op.bytesLess x y = true → Op.bytesLess y z = true → Op.bytesLess x z = true
  | [], [], _, h, _ => by simp [Op.bytesLess] at h
  | [], _ :: _, [], _, h => by simp [Op.bytesLess] at h
  | [], _ :: _, _ :: _, _, _ => by simp [Op.bytesLess]
  | _ :: _, [], _, h, _ => by simp [Op.bytesLess] at h
  | _ :: _, _ :: _, [], _, h => by simp [Op.bytesLess] at h
  | a :: x, b :: y, c :: z, h1, h2 => by
    simp only [Op.bytesLess, Bool.or_eq_true, Bool.and_eq_true, decide_eq_true_eq, beq_iff_eq] at h1 h2 ⊢
    rcases h1 with h1 | ⟨rfl, h1⟩
    · rcases h2 with h2 | ⟨rfl, _⟩
      · exact .inl (UInt8.lt_trans h1 h2)
      · exact .inl h1
    · rcases h2 with h2 | ⟨rfl, h2⟩
      · exact .inl h2
      · exact .inr ⟨rfl, bl_trans h1 h2⟩
theorem bl_tri (x y : List UInt8) : Op.bytesLess x y = true ∨ x = y ∨ Op.bytesLess y x = true := by
  have h := le_not_lt x y
  cases hx : Op.bytesLess y x with
  | true => exact .inr (.inr rfl)
  | false =>
    rw [hx] at h
    simp only [Bool.not_false, Bool.or_eq_true, beq_iff_eq] at h
    rcases h with h | h
    · exact .inl h
    · exact .inr (.inl h)
theorem ltB.irr {x : ByteArray} (h : ltB x x) : False := by
  have := bl_irr x.toList
  unfold ltB at h
  rw [h] at this
  cases this
theorem ltB.trans {x y z : ByteArray} (h : ltB x y) (g : ltB y z) : ltB x z := bl_trans h g
theorem ba_ext {x y : ByteArray} (h : x.toList = y.toList) : x = y := by
  rw [Go.Lib.toList_data, Go.Lib.toList_data] at h
  exact ByteArray.ext (Array.ext' h)
theorem ltB.tri (x y : ByteArray) : ltB x y ∨ x = y ∨ ltB y x := by
  rcases bl_tri x.toList y.toList with h | h | h
  · exact .inl h
  · exact .inr (.inl (ba_ext h))
  · exact .inr (.inr h)
/-- rising keys -/
def Rise {α : Type} (k : α → ByteArray) (xs : List α) : Prop := xs.Pairwise fun a b => ltB (k a) (k b)
theorem Rise.ext {α : Type} {k : α → ByteArray} : ∀ {xs ys : List α}, Rise k xs → Rise k ys → (∀ x, x ∈ xs ↔ x ∈ ys) → xs = ys
  | [], [], _, _, _ => rfl
  | [], b :: _, _, _, h => by have := (h b).2 List.mem_cons_self; cases this
  | a :: _, [], _, _, h => by have := (h a).1 List.mem_cons_self; cases this
  | a :: t, b :: u, hx, hy, h => by
    obtain ⟨hx1, hx2⟩ := List.pairwise_cons.1 hx
    obtain ⟨hy1, hy2⟩ := List.pairwise_cons.1 hy
    have e : a = b := by
      rcases List.mem_cons.1 ((h a).1 List.mem_cons_self) with e | ha
      · exact e
      · rcases List.mem_cons.1 ((h b).2 List.mem_cons_self) with e | hb
        · exact e.symm
        · exact ((hx1 b hb).trans (hy1 a ha)).irr.elim
    subst e
    have ht : t = u := Rise.ext hx2 hy2 fun x => by
      constructor
      · intro hm
        rcases List.mem_cons.1 ((h x).1 (List.mem_cons_of_mem _ hm)) with e | hm2
        · subst e; exact (hx1 x hm).irr.elim
        · exact hm2
      · intro hm
        rcases List.mem_cons.1 ((h x).2 (List.mem_cons_of_mem _ hm)) with e | hm2
        · subst e; exact (hy1 x hm).irr.elim
        · exact hm2
    rw [ht]
theorem Rise.uniq {α : Type} {k : α → ByteArray} {xs : List α} (h : Rise k xs) {x y : α} (hx : x ∈ xs) (hy : y ∈ xs) (e : k x = k y) : x = y := by
  induction xs with
  | nil => cases hx
  | cons a t ih =>
    obtain ⟨h1, h2⟩ := List.pairwise_cons.1 h
    rcases List.mem_cons.1 hx with rfl | hx2
    · rcases List.mem_cons.1 hy with rfl | hy
      · rfl
      · have := h1 y hy; rw [e] at this; exact this.irr.elim
    · rcases List.mem_cons.1 hy with rfl | hy2
      · have := h1 x hx2; rw [e] at this; exact this.irr.elim
      · exact ih h2 hx2 hy2
section
variable {α β : Type}
theorem one_cut (k : α → ByteArray) (z : α) (xs : List α) (K : ByteArray) (hr : Rise k xs) (hle : ∀ x ∈ xs, ltB K (k x) ∨ k x = K) :
    (∀ x ∈ cutL xs (hitL k xs K), ltB K (k x)) ∧ Rise k (cutL xs (hitL k xs K)) ∧ ∀ x ∈ xs, x ∈ cutL xs (hitL k xs K) ∨ (hitL k xs K = true ∧ getL z xs (hitL k xs K) = x) := by
  cases xs with
  | nil => exact ⟨fun x hx => (by cases hx), hr, fun x hx => (by cases hx)⟩
  | cons a t =>
    obtain ⟨h1, h2⟩ := List.pairwise_cons.1 hr
    by_cases he : k a = K
    · have hh : hitL k (a :: t) K = true := by simp [hitL, he]
      rw [hh]
      refine ⟨fun x hx => ?_, h2, fun x hx => ?_⟩
      · rw [← he]; exact h1 x hx
      · rcases List.mem_cons.1 hx with rfl | hx
        · exact .inr ⟨rfl, rfl⟩
        · exact .inl hx
    · have hh : hitL k (a :: t) K = false := by
        simp only [hitL, beq_eq_false_iff_ne]
        exact fun e => he (ba_ext e)
      rw [hh]
      have ha := (hle a List.mem_cons_self).resolve_right he
      refine ⟨fun x hx => ?_, hr, fun x hx => .inl hx⟩
      rcases List.mem_cons.1 hx with rfl | hx
      · exact ha
      · exact ha.trans (h1 x hx)
variable (kA : α → ByteArray) (kB : β → ByteArray) (zA : α) (zB : β)
theorem lk_le (xs : List α) (ys : List β) (hx : Rise kA xs) (hy : Rise kB ys) : (∀ x ∈ xs, ltB (lkL kA kB xs ys) (kA x) ∨ kA x = lkL kA kB xs ys) ∧ ∀ y ∈ ys, ltB (lkL kA kB xs ys) (kB y) ∨ kB y = lkL kA kB xs ys := by
  have own : ∀ {γ : Type} (k : γ → ByteArray) (a : γ) (t : List γ), Rise k (a :: t) → ∀ x ∈ a :: t, ltB (k a) (k x) ∨ k x = k a := fun k a t h x hx => by
    rcases List.mem_cons.1 hx with rfl | hx
    · exact .inr rfl
    · exact .inl ((List.pairwise_cons.1 h).1 x hx)
  have lift : ∀ {γ : Type} (k : γ → ByteArray) (K : ByteArray) (a : γ) (t : List γ), Rise k (a :: t) → (ltB K (k a) ∨ k a = K) → ∀ x ∈ a :: t, ltB K (k x) ∨ k x = K := fun k K a t h h0 x hx => by
    rcases own k a t h x hx with h1 | h1
    · rcases h0 with h0 | h0
      · exact .inl (h0.trans h1)
      · rw [← h0]; exact .inl h1
    · rw [h1]; exact h0
  cases xs with
  | nil =>
    cases ys with
    | nil => exact ⟨fun x h => (by cases h), fun x h => (by cases h)⟩
    | cons b u => exact ⟨fun x h => (by cases h), own kB b u hy⟩
  | cons a t =>
    cases ys with
    | nil => exact ⟨own kA a t hx, fun x h => (by cases h)⟩
    | cons b u =>
      simp only [lkL]
      split
      · rename_i h
        refine ⟨own kA a t hx, lift kB _ b u hy ?_⟩
        rcases h with h | h
        · exact .inl h
        · exact .inr (ba_ext h.symm)
      · rename_i h
        refine ⟨lift kA _ a t hx ?_, own kB b u hy⟩
        rcases ltB.tri (kA a) (kB b) with g | g | g
        · exact (h (.inl g)).elim
        · exact .inr g
        · exact .inl g
/-- what the list of events says of two rising lists -/
structure MrgS (xs : List α) (ys : List β) (L : List (Ev α β)) : Prop where
  rise : L.Pairwise fun a b => ltB a.key b.key
  a : ∀ e ∈ L, e.inA = true → e.a ∈ xs ∧ kA e.a = e.key
  b : ∀ e ∈ L, e.inB = true → e.b ∈ ys ∧ kB e.b = e.key
  na : ∀ e ∈ L, e.inA = false → ∀ x ∈ xs, kA x ≠ e.key
  nb : ∀ e ∈ L, e.inB = false → ∀ y ∈ ys, kB y ≠ e.key
  ab : ∀ e ∈ L, e.inA = true ∨ e.inB = true
  xs : ∀ x ∈ xs, ∃ e ∈ L, e.inA = true ∧ e.a = x
  ys : ∀ y ∈ ys, ∃ e ∈ L, e.inB = true ∧ e.b = y
theorem mrg_spec : ∀ (f : Nat) (xs : List α) (ys : List β), xs.length + ys.length ≤ f → Rise kA xs → Rise kB ys → MrgS kA kB xs ys (mrgF kA kB zA zB f xs ys) := by
  intro f
  induction f with
  | zero =>
    intro xs ys h _ _
    obtain rfl : xs = [] := List.length_eq_zero_iff.1 (by omega)
    obtain rfl : ys = [] := List.length_eq_zero_iff.1 (by omega)
    refine ⟨List.Pairwise.nil, ?_, ?_, ?_, ?_, ?_, ?_, ?_⟩ <;> intro e h <;> cases h
  | succ f ih =>
    intro xs ys h hx hy
    by_cases h0 : xs.length + ys.length = 0
    · obtain rfl : xs = [] := List.length_eq_zero_iff.1 (by omega)
      obtain rfl : ys = [] := List.length_eq_zero_iff.1 (by omega)
      rw [mrg_end _ _ _ _ _ _ _ h0]
      refine ⟨List.Pairwise.nil, ?_, ?_, ?_, ?_, ?_, ?_, ?_⟩ <;> intro e h <;> cases h
    · have hm : mrgF kA kB zA zB (f + 1) xs ys = evL kA kB zA zB xs ys :: mrgF kA kB zA zB f (nxA kA kB xs ys) (nxB kA kB xs ys) := by simp only [mrgF, if_neg h0]
      have hab := (mrg_mem kA kB zA zB (f + 1) xs ys (evL kA kB zA zB xs ys) (by rw [hm]; exact List.mem_cons_self)).2.2
      rw [hm]
      obtain ⟨hlx, hly⟩ := lk_le kA kB xs ys hx hy
      obtain ⟨a1, a2, a3⟩ := one_cut kA zA xs _ hx hlx
      obtain ⟨b1, b2, b3⟩ := one_cut kB zB ys _ hy hly
      have hl := mrg_less kA kB xs ys h0
      have I := ih (nxA kA kB xs ys) (nxB kA kB xs ys) (by omega) a2 b2
      generalize mrgF kA kB zA zB f (nxA kA kB xs ys) (nxB kA kB xs ys) = L at I
      have hgt : ∀ e ∈ L, ltB (lkL kA kB xs ys) e.key := fun e he => by
        rcases I.ab e he with hi | hi
        · obtain ⟨p, q⟩ := I.a e he hi
          rw [← q]; exact a1 _ p
        · obtain ⟨p, q⟩ := I.b e he hi
          rw [← q]; exact b1 _ p
      have hk : (evL kA kB zA zB xs ys).key = lkL kA kB xs ys := rfl
      refine ⟨List.pairwise_cons.2 ⟨fun e he => hgt e he, I.rise⟩, ?_, ?_, ?_, ?_, ?_, ?_, ?_⟩
      · intro e he hi
        rcases List.mem_cons.1 he with rfl | he
        · have := hit_ne kA zA xs _ hi
          exact ⟨this.1, ba_ext this.2⟩
        · exact ⟨cut_sub _ _ _ (I.a e he hi).1, (I.a e he hi).2⟩
      · intro e he hi
        rcases List.mem_cons.1 he with rfl | he
        · have := hit_ne kB zB ys _ hi
          exact ⟨this.1, ba_ext this.2⟩
        · exact ⟨cut_sub _ _ _ (I.b e he hi).1, (I.b e he hi).2⟩
      · intro e he hi x hx' e'
        rcases List.mem_cons.1 he with rfl | he
        · have hi' : hitL kA xs (lkL kA kB xs ys) = false := hi
          rcases a3 x hx' with g | g
          · have := a1 x g; rw [e', hk] at this; exact this.irr
          · rw [hi'] at g; cases g.1
        · rcases a3 x hx' with g | ⟨g1, g2⟩
          · exact I.na e he hi x g e'
          · have q := (hit_ne kA zA xs _ g1).2
            rw [g2, e'] at q
            have := hgt e he
            rw [ba_ext q] at this
            exact this.irr
      · intro e he hi x hx' e'
        rcases List.mem_cons.1 he with rfl | he
        · have hi' : hitL kB ys (lkL kA kB xs ys) = false := hi
          rcases b3 x hx' with g | g
          · have := b1 x g; rw [e', hk] at this; exact this.irr
          · rw [hi'] at g; cases g.1
        · rcases b3 x hx' with g | ⟨g1, g2⟩
          · exact I.nb e he hi x g e'
          · have q := (hit_ne kB zB ys _ g1).2
            rw [g2, e'] at q
            have := hgt e he
            rw [ba_ext q] at this
            exact this.irr
      · intro e he
        rcases List.mem_cons.1 he with rfl | he
        · exact hab
        · exact I.ab e he
      · intro x hx'
        rcases a3 x hx' with g | ⟨g1, g2⟩
        · obtain ⟨e, he, h1, h2⟩ := I.xs x g
          exact ⟨e, List.mem_cons_of_mem _ he, h1, h2⟩
        · exact ⟨_, List.mem_cons_self, g1, g2⟩
      · intro x hx'
        rcases b3 x hx' with g | ⟨g1, g2⟩
        · obtain ⟨e, he, h1, h2⟩ := I.ys x g
          exact ⟨e, List.mem_cons_of_mem _ he, h1, h2⟩
        · exact ⟨_, List.mem_cons_self, g1, g2⟩
theorem wo_mem {xs : List α} {ys : List β} (hx : Rise kA xs) (hy : Rise kB ys) (x : α) : x ∈ woL kA kB zA zB xs ys ↔ x ∈ xs ∧ ∀ y ∈ ys, kB y ≠ kA x := by
  have I := mrg_spec kA kB zA zB _ xs ys (Nat.le_refl _) hx hy
  unfold woL
  rw [List.mem_map]
  constructor
  · rintro ⟨e, he, rfl⟩
    rw [List.mem_filter] at he
    have hb : e.inB = false := by simpa using he.2
    have ha := (I.ab e he.1).resolve_right (by rw [hb]; simp)
    obtain ⟨p, q⟩ := I.a e he.1 ha
    exact ⟨p, fun y hy => by rw [q]; exact I.nb e he.1 hb y hy⟩
  · rintro ⟨hm, hn⟩
    obtain ⟨e, he, h1, h2⟩ := I.xs x hm
    refine ⟨e, List.mem_filter.2 ⟨he, ?_⟩, h2⟩
    cases hb : e.inB with
    | false => rfl
    | true =>
      obtain ⟨p, q⟩ := I.b e he hb
      have := (I.a e he h1).2
      rw [h2, ← q] at this
      exact (hn _ p this.symm).elim
theorem wo_rise {xs : List α} {ys : List β} (hx : Rise kA xs) (hy : Rise kB ys) : Rise kA (woL kA kB zA zB xs ys) := by
  have I := mrg_spec kA kB zA zB _ xs ys (Nat.le_refl _) hx hy
  unfold Rise woL
  rw [List.pairwise_map]
  refine (I.rise.sublist List.filter_sublist).imp_of_mem fun {a b} ha hb h => ?_
  have key : ∀ e ∈ (mrgF kA kB zA zB (xs.length + ys.length) xs ys).filter fun x => !x.inB, kA e.a = e.key := fun e he => by
    rw [List.mem_filter] at he
    have hb : e.inB = false := by simpa using he.2
    exact (I.a e he.1 ((I.ab e he.1).resolve_right (by rw [hb]; simp))).2
  rw [key a ha, key b hb]
  exact h
end
section
variable {α : Type} (k : α → ByteArray) (z : α)
theorem ov_mem {xs ys : List α} (hx : Rise k xs) (hy : Rise k ys) (x : α) : x ∈ ovL k z xs ys ↔ x ∈ ys ∨ (x ∈ xs ∧ ∀ y ∈ ys, k y ≠ k x) := by
  have I := mrg_spec k k z z _ xs ys (Nat.le_refl _) hx hy
  unfold ovL
  rw [List.mem_map]
  constructor
  · rintro ⟨e, he, rfl⟩
    cases hb : e.inB with
    | true => exact .inl (by simpa using (I.b e he hb).1)
    | false =>
      have ha := (I.ab e he).resolve_right (by rw [hb]; simp)
      obtain ⟨p, q⟩ := I.a e he ha
      refine .inr ?_
      simp only [Bool.false_eq_true, if_false]
      exact ⟨p, fun y hy => by rw [q]; exact I.nb e he hb y hy⟩
  · rintro (hm | ⟨hm, hn⟩)
    · obtain ⟨e, he, h1, h2⟩ := I.ys x hm
      exact ⟨e, he, by rw [if_pos h1, h2]⟩
    · obtain ⟨e, he, h1, h2⟩ := I.xs x hm
      refine ⟨e, he, ?_⟩
      cases hb : e.inB with
      | false => simp [h2]
      | true =>
        obtain ⟨p, q⟩ := I.b e he hb
        have := (I.a e he h1).2
        rw [h2, ← q] at this
        exact (hn _ p this.symm).elim
theorem ov_rise {xs ys : List α} (hx : Rise k xs) (hy : Rise k ys) : Rise k (ovL k z xs ys) := by
  have I := mrg_spec k k z z _ xs ys (Nat.le_refl _) hx hy
  unfold Rise ovL
  rw [List.pairwise_map]
  refine I.rise.imp_of_mem fun {a b} ha hb h => ?_
  have key : ∀ e ∈ mrgF k k z z (xs.length + ys.length) xs ys, k (if e.inB = true then e.b else e.a) = e.key := fun e he => by
    by_cases hb : e.inB = true
    · rw [if_pos hb]; exact (I.b e he hb).2
    · rw [if_neg hb]
      exact (I.a e he ((I.ab e he).resolve_right hb)).2
  rw [key a ha, key b hb]
  exact h
end
end Go.Proofs.Ytckopbkhpbhljaa
