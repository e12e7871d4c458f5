import Derived.Test.YtbcnlfbclgkeiaaLcO
namespace Go.Proofs.Ytbcnlfbclgkeiaa
open Go.RowKit Go.Conc
set_option maxRecDepth 8000
/-- a list's items -/
def LT.toL {α : Type} (l : LT α) : List α := (List.range l.n).map l.item
theorem LT.toL_len {α : Type} (l : LT α) : l.toL.length = l.n := by simp [LT.toL]
theorem LT.toL_get {α : Type} (l : LT α) {j : Nat} (h : j < l.n) : l.toL[j]? = some (l.item j) := by simp [LT.toL, List.getElem?_range h]
theorem LT.toL_some {α : Type} (l : LT α) {j : Nat} {x : α} (h : l.toL[j]? = some x) : j < l.n ∧ l.item j = x := by
  have hj : j < l.n := by
    rcases Nat.lt_or_ge j l.n with h1 | h1
    · exact h1
    · rw [List.getElem?_eq_none (by rw [LT.toL_len]; exact h1)] at h; cases h
  rw [LT.toL_get l hj] at h
  injection h with h
  exact ⟨hj, h⟩
/-- a list of copies -/
inductive Cps : List IT → List IT → Prop where
  | nil : Cps [] []
  | cons {x u : IT} {xs us : List IT} : CopyI x u → Cps xs us → Cps (x :: xs) (u :: us)
theorem Cps.len {F us : List IT} (h : Cps F us) : us.length = F.length := by
  induction h with
  | nil => rfl
  | cons _ _ ih => simp [ih]
theorem Cps.of_get : ∀ {F us : List IT}, us.length = F.length → (∀ (j : Nat) (x u : IT), F[j]? = some x → us[j]? = some u → CopyI x u) → Cps F us
  | [], [], _, _ => .nil
  | [], _ :: _, h, _ => by simp at h
  | _ :: _, [], h, _ => by simp at h
  | x :: F, u :: us, h, hc => .cons (hc 0 x u rfl rfl) (Cps.of_get (by simpa using h) fun j y v hy hv => hc (j + 1) y v (by simpa using hy) (by simpa using hv))
theorem Cps.get {F us : List IT} (h : Cps F us) : ∀ {j : Nat} {x : IT}, F[j]? = some x → ∃ u, us[j]? = some u ∧ CopyI x u := by
  induction h with
  | nil => intro j x hx; simp at hx
  | cons hc _ ih =>
    intro j x hx
    cases j with
    | zero => simp at hx; subst hx; exact ⟨_, rfl, hc⟩
    | succ j => simp at hx; simpa using ih hx
theorem Cps.append {F us G vs : List IT} (h : Cps F us) (g : Cps G vs) : Cps (F ++ G) (us ++ vs) := by
  induction h with
  | nil => exact g
  | cons hc _ ih => exact .cons hc ih
theorem Cps.take {F us : List IT} (h : Cps F us) : ∀ i, Cps (F.take i) (us.take i) := by
  induction h with
  | nil => intro i; simp; exact .nil
  | cons hc _ ih =>
    intro i
    cases i with
    | zero => exact .nil
    | succ i => exact .cons hc (ih i)
theorem Cps.drop {F us : List IT} (h : Cps F us) : ∀ i, Cps (F.drop i) (us.drop i) := by
  induction h with
  | nil => intro i; simp; exact .nil
  | cons hc ht ih =>
    intro i
    cases i with
    | zero => exact .cons hc ht
    | succ i => exact ih i
theorem Cps.filter {F us : List IT} (h : Cps F us) : Cps (F.filter fun x => x.mark = 0) (us.filter fun x => x.mark = 0) := by
  induction h with
  | nil => exact .nil
  | @cons x u xs us hc _ ih =>
    by_cases h0 : x.mark = 0
    · rw [List.filter_cons_of_pos (by simpa using h0), List.filter_cons_of_pos (by simpa using hc.m.trans h0)]
      exact .cons hc ih
    · rw [List.filter_cons_of_neg (by simpa using h0), List.filter_cons_of_neg (by have := hc.m; simp; omega)]
      exact ih
theorem Cps.nR {F us : List IT} (h : Cps F us) : nR us = Go.Proofs.Ytbcnlfbclgkeiaa.nR F := h.filter.len
/-- what a lane holds whose first markers were pulled -/
def pulled (us : List IT) (i : Nat) : List IT := (us.take i).filter (fun x => x.mark = 0) ++ us.drop i
theorem pulled_0 (us : List IT) : pulled us 0 = us := by simp [pulled]
theorem pulled_end (us : List IT) : pulled us us.length = us.filter fun x => x.mark = 0 := by simp [pulled]
theorem pulled_rec (us : List IT) {i : Nat} {u : IT} (hu : us[i]? = some u) (h : u.mark = 0) : pulled us (i + 1) = pulled us i := by
  have hi : i < us.length := by
    rcases Nat.lt_or_ge i us.length with h1 | h1
    · exact h1
    · rw [List.getElem?_eq_none h1] at hu; cases hu
  unfold pulled
  rw [List.take_add_one, hu, List.drop_eq_getElem_cons hi]
  rw [List.getElem?_eq_getElem hi] at hu
  injection hu with hu
  simp [hu, h]
theorem pulled_mark (us : List IT) {i : Nat} {u : IT} (hu : us[i]? = some u) (h : u.mark ≠ 0) : pulled us i = (us.take i).filter (fun x => x.mark = 0) ++ u :: us.drop (i + 1) ∧ pulled us (i + 1) = (us.take i).filter (fun x => x.mark = 0) ++ us.drop (i + 1) := by
  have hi : i < us.length := by
    rcases Nat.lt_or_ge i us.length with h1 | h1
    · exact h1
    · rw [List.getElem?_eq_none h1] at hu; cases hu
  unfold pulled
  refine ⟨?_, ?_⟩
  · rw [List.drop_eq_getElem_cons hi]
    rw [List.getElem?_eq_getElem hi] at hu
    injection hu with hu
    rw [hu]
  · rw [List.take_add_one, hu]
    simp [h]
theorem nR_filter (q : List IT) : nR (q.filter fun x => x.mark = 0) = (q.filter fun x => x.mark = 0).length := by simp [nR]
/-- the markers' places -/
def placesOf : List IT → Nat → List Int
  | [], _ => []
  | x :: F, n => if 0 < x.mark then (n : Int) :: placesOf F n else placesOf F (n + 1)
/-- so many records of a list, alike those of another -/
theorem Cps.recs {F us : List IT} (h : Cps F us) {j : Nat} {u : IT} (hu : (us.filter fun x => x.mark = 0)[j]? = some u) : ∃ x, (F.filter fun x => x.mark = 0)[j]? = some x ∧ RT.Alike x.r u.r := by
  have hf := h.filter
  have hj : j < (F.filter fun x => x.mark = 0).length := by
    rw [← hf.len]
    rcases Nat.lt_or_ge j (us.filter fun x => x.mark = 0).length with h1 | h1
    · exact h1
    · rw [List.getElem?_eq_none h1] at hu; cases hu
  obtain ⟨x, hx⟩ : ∃ x, (F.filter fun x => x.mark = 0)[j]? = some x := ⟨_, List.getElem?_eq_getElem hj⟩
  obtain ⟨v, hv, hc⟩ := hf.get hx
  rw [hu] at hv
  injection hv with hv
  subst hv
  refine ⟨x, hx, hc.r ?_⟩
  have := List.mem_of_getElem? hx
  simpa using (List.mem_filter.1 this).2
end Go.Proofs.Ytbcnlfbclgkeiaa
