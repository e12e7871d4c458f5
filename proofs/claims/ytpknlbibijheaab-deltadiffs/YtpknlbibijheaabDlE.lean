import Derived.Test.YtpknlbibijheaabPack7
namespace Go.Proofs.Ytpknlbibijheaab
open Go.RowKit
set_option maxRecDepth 8000

/-- a list's items -/
def LT.toL {α : Type} (l : LT α) : List α := (List.range l.n).map l.item
theorem LT.toL_len {α : Type} (l : LT α) : l.toL.length = l.n := by simp [LT.toL]
theorem LT.toL_nil {α : Type} (l : LT α) (h : l.n = 0) : l.toL = [] := by simp [LT.toL, h]
theorem LT.toL_cons {α : Type} (l : LT α) (h : 0 < l.n) (p : Option Addr) : l.toL = l.item 0 :: (l.tail p).toL := by
  obtain ⟨m, hm⟩ : ∃ m, l.n = m + 1 := ⟨l.n - 1, by omega⟩
  simp [LT.toL, LT.tail, hm, List.range_succ_eq_map, Function.comp_def]
theorem LT.toL_get {α : Type} (l : LT α) {j : Nat} (h : j < l.n) : l.toL[j]? = some (l.item j) := by simp [LT.toL, h]
theorem LT.mem_toL {α : Type} {l : LT α} {x : α} (h : x ∈ l.toL) : ∃ j, j < l.n ∧ l.item j = x := by
  simp only [LT.toL, List.mem_map, List.mem_range] at h
  exact h
/-- what two lists have of one key -/
structure Ev (α β : Type) where
  key : ByteArray
  a : α
  b : β
  inA : Bool
  inB : Bool
section
variable {α β : Type} (kA : α → ByteArray) (kB : β → ByteArray) (zA : α) (zB : β)
/-- the least key of two lists -/
def lkL : List α → List β → ByteArray
  | [], [] => ⟨#[]⟩
  | a :: _, [] => kA a
  | [], b :: _ => kB b
  | a :: _, b :: _ => if Op.bytesLess (kA a).toList (kB b).toList = true ∨ (kA a).toList = (kB b).toList then kA a else kB b
def hitL (k : α → ByteArray) : List α → ByteArray → Bool
  | [], _ => false
  | a :: _, key => (k a).toList == key.toList
def getL (z : α) : List α → Bool → α
  | a :: _, true => a
  | _, _ => z
def cutL : List α → Bool → List α
  | _ :: xs, true => xs
  | xs, _ => xs
def evL (xs : List α) (ys : List β) : Ev α β := ⟨lkL kA kB xs ys, getL zA xs (hitL kA xs (lkL kA kB xs ys)), getL zB ys (hitL kB ys (lkL kA kB xs ys)), hitL kA xs (lkL kA kB xs ys), hitL kB ys (lkL kA kB xs ys)⟩
def nxA (xs : List α) (ys : List β) : List α := cutL xs (hitL kA xs (lkL kA kB xs ys))
def nxB (xs : List α) (ys : List β) : List β := cutL ys (hitL kB ys (lkL kA kB xs ys))
/-- two lists gone through together -/
def mrgF : Nat → List α → List β → List (Ev α β)
  | 0, _, _ => []
  | f + 1, xs, ys => if xs.length + ys.length = 0 then [] else evL kA kB zA zB xs ys :: mrgF f (nxA kA kB xs ys) (nxB kA kB xs ys)
theorem mrg_end (f : Nat) (xs : List α) (ys : List β) (h : xs.length + ys.length = 0) : mrgF kA kB zA zB f xs ys = [] := by
  cases f with
  | zero => rfl
  | succ f => simp only [mrgF, if_pos h]
theorem mrg_len : ∀ (f : Nat) (xs : List α) (ys : List β), (mrgF kA kB zA zB f xs ys).length ≤ f
  | 0, _, _ => Nat.le_refl _
  | f + 1, xs, ys => by
    unfold mrgF
    split
    · exact Nat.zero_le _
    · have := mrg_len f (nxA kA kB xs ys) (nxB kA kB xs ys)
      simp only [List.length_cons]
      omega
theorem hit_ne (k : α → ByteArray) (z : α) (xs : List α) (key : ByteArray) (h : hitL k xs key = true) : getL z xs (hitL k xs key) ∈ xs ∧ (k (getL z xs (hitL k xs key))).toList = key.toList := by
  cases xs with
  | nil => simp [hitL] at h
  | cons x xs =>
    rw [h]
    simp only [hitL, beq_iff_eq] at h
    exact ⟨List.mem_cons_self, h⟩
theorem cut_sub (xs : List α) (c : Bool) : ∀ x ∈ cutL xs c, x ∈ xs := by
  cases xs with
  | nil => intro x hx; cases c <;> simp [cutL] at hx
  | cons y ys =>
    intro x hx
    cases c
    · exact hx
    · exact List.mem_cons_of_mem _ hx
theorem mrg_mem : ∀ (f : Nat) (xs : List α) (ys : List β) (e : Ev α β), e ∈ mrgF kA kB zA zB f xs ys → (e.inA = true → e.a ∈ xs) ∧ (e.inB = true → e.b ∈ ys) ∧ (e.inA = true ∨ e.inB = true)
  | 0, _, _, e, h => by simp [mrgF] at h
  | f + 1, xs, ys, e, h => by
    unfold mrgF at h
    split at h
    · simp at h
    · rename_i hne
      rcases List.mem_cons.1 h with rfl | h
      · refine ⟨fun h => (hit_ne kA zA xs _ h).1, fun h => (hit_ne kB zB ys _ h).1, ?_⟩
        cases xs with
        | nil =>
          cases ys with
          | nil => simp at hne
          | cons y ys => right; simp [evL, hitL, lkL]
        | cons x xs =>
          cases ys with
          | nil => left; simp [evL, hitL, lkL]
          | cons y ys =>
            simp only [evL, hitL, lkL]
            split
            · left; simp
            · right; simp
      · have := mrg_mem f _ _ e h
        exact ⟨fun h => cut_sub _ _ _ (this.1 h), fun h => cut_sub _ _ _ (this.2.1 h), this.2.2⟩
theorem mrg_less (xs : List α) (ys : List β) (h : xs.length + ys.length ≠ 0) : (nxA kA kB xs ys).length + (nxB kA kB xs ys).length < xs.length + ys.length := by
  cases xs with
  | nil =>
    cases ys with
    | nil => simp at h
    | cons b ys => simp [nxA, nxB, lkL, hitL, cutL]
  | cons a xs =>
    cases ys with
    | nil => simp [nxA, nxB, lkL, hitL, cutL]
    | cons b ys =>
      unfold nxA nxB lkL hitL
      simp only
      split
      · have h1 : ∀ c : Bool, (cutL (b :: ys) c).length ≤ (b :: ys).length := fun c => by cases c <;> simp [cutL]
        have := h1 ((kB b).toList == (kA a).toList)
        simp only [beq_self_eq_true, cutL, List.length_cons] at this ⊢
        omega
      · have h1 : ∀ c : Bool, (cutL (a :: xs) c).length ≤ (a :: xs).length := fun c => by cases c <;> simp [cutL]
        have := h1 ((kA a).toList == (kB b).toList)
        simp only [beq_self_eq_true, cutL, List.length_cons] at this ⊢
        omega
theorem mrg_step (f : Nat) (xs : List α) (ys : List β) (h : xs.length + ys.length ≠ 0) (hf : xs.length + ys.length ≤ f) : ∃ g, mrgF kA kB zA zB f xs ys = evL kA kB zA zB xs ys :: mrgF kA kB zA zB g (nxA kA kB xs ys) (nxB kA kB xs ys) ∧ (nxA kA kB xs ys).length + (nxB kA kB xs ys).length ≤ g := by
  cases f with
  | zero => omega
  | succ f =>
    refine ⟨f, by simp only [mrgF, if_neg h], ?_⟩
    have := mrg_less kA kB xs ys h
    omega
end
/-- the empty cell -/
def zC : VT := .mk 0 0 ⟨#[]⟩ 0 none 0 (fun _ => .nil)
theorem zval_C : (.agg #[.string zC.text, .slice zC.p zC.n zC.c] : Value) = .agg #[.string ⟨#[]⟩, .slice none 0 0] := rfl
/-- cut, in one word -/
theorem cut_C (w : World) (b : Nat) (l : LT VT) (S : Nat → Prop) (key : ByteArray) (hbx : Box w b #[.slice l.p l.n l.c, .func (.func 33) #[] #[]] 53) (hin : LT.In elCell w S l) (hSb : ∀ k, S k → k ≠ b) :
    Calls Try.prog 32 #[.pointer (some ⟨b, 0, none⟩), .string key] w fun e w' => ∃ l' : LT VT, e = .returned (.tuple #[.agg #[.string (getL zC l.toL (hitL VT.text l.toL key)).text, .slice (getL zC l.toL (hitL VT.text l.toL key)).p (getL zC l.toL (hitL VT.text l.toL key)).n (getL zC l.toL (hitL VT.text l.toL key)).c], .bool (hitL VT.text l.toL key)]) ∧ Box w' b #[.slice l'.p l'.n l'.c, .func (.func 33) #[] #[]] 53 ∧ LT.In elCell w' S l' ∧ l'.toL = cutL l.toL (hitL VT.text l.toL key) ∧ But (fun k => k = b) w w' := by
  by_cases hn : l.n = 0
  · refine (cutNone_C w b l S key hbx hin hn).mono ?_
    rintro e w' ⟨rfl, hb⟩
    rw [LT.toL_nil l hn]
    exact ⟨l, rfl, hbx.below hb, hin.below hb, LT.toL_nil l hn, But.ofBelow hb⟩
  · have hn : 0 < l.n := by omega
    cases hk : ((l.item 0).text.toList == key.toList) with
    | false =>
      refine (cutOther_C w b l S key hbx hin hn hk).mono ?_
      rintro e w' ⟨rfl, hb⟩
      have e1 : hitL VT.text l.toL key = false := by rw [LT.toL_cons l hn none]; exact hk
      rw [e1]
      refine ⟨l, ?_, hbx.below hb, hin.below hb, ?_, But.ofBelow hb⟩
      · rw [LT.toL_cons l hn none]; rfl
      · rw [LT.toL_cons l hn none]; rfl
    | true =>
      refine (cutSome_C w b l S key hbx hin hSb hn hk).mono ?_
      rintro e w' ⟨p, rfl, hb, hi, hbt⟩
      have e1 : hitL VT.text l.toL key = true := by rw [LT.toL_cons l hn none]; exact hk
      rw [e1]
      refine ⟨l.tail p, ?_, hb, hi, ?_, hbt⟩
      · rw [LT.toL_cons l hn none]; rfl
      · rw [LT.toL_cons l hn p]; rfl
theorem zval_S : (.string (⟨#[]⟩ : ByteArray) : Value) = .string ⟨#[]⟩ := rfl
/-- least, in one word -/
theorem least_CC (w : World) (la : LT VT) (lb : LT VT) (S : Nat → Prop) (ha : LT.In elCell w S la) (hb : LT.In elCell w S lb) (hne : la.n + lb.n ≠ 0) :
    Calls Try.prog 31 #[.agg #[.slice la.p la.n la.c, .func (.func 33) #[] #[]], .agg #[.slice lb.p lb.n lb.c, .func (.func 33) #[] #[]]] w fun e w' => e = .returned (.string (lkL VT.text VT.text la.toL lb.toL)) ∧ Below w.heap.size w w' := by
  by_cases hb0 : lb.n = 0
  · have hna : 0 < la.n := by omega
    rw [LT.toL_nil lb hb0, LT.toL_cons la hna none]
    exact leastA_CC w la lb S ha hb hna hb0
  · have hnb : 0 < lb.n := by omega
    by_cases ha0 : la.n = 0
    · rw [LT.toL_nil la ha0, LT.toL_cons lb hnb none]
      exact leastB_CC w la lb S ha hb ha0 hnb
    · have hna : 0 < la.n := by omega
      rw [LT.toL_cons la hna none, LT.toL_cons lb hnb none]
      exact leastAB_CC w la lb S ha hb hna hnb _ rfl
end Go.Proofs.Ytpknlbibijheaab
