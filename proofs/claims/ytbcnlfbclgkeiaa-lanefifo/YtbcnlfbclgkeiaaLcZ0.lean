import Derived.Test.YtbcnlfbclgkeiaaLcY
namespace Go.Proofs.Ytbcnlfbclgkeiaa
open Go.RowKit Go.Conc
set_option maxRecDepth 8000
theorem Cps.cons_inv {F : List IT} {x : IT} {q : List IT} (h : Cps F (x :: q)) : ∃ f F', F = f :: F' ∧ CopyI f x ∧ Cps F' q := by
  cases h with
  | cons hc ht => exact ⟨_, _, rfl, hc, ht⟩
theorem Cps.nil_inv {F : List IT} (h : Cps F []) : F = [] := by cases h; rfl
theorem Cps.append_inv : ∀ {A B F : List IT}, Cps F (A ++ B) → ∃ FA FB, F = FA ++ FB ∧ Cps FA A ∧ Cps FB B
  | [], B, F, h => ⟨[], F, rfl, .nil, h⟩
  | a :: A, B, F, h => by
    obtain ⟨f, F', rfl, hc, ht⟩ := h.cons_inv
    obtain ⟨FA, FB, rfl, h1, h2⟩ := Cps.append_inv ht
    exact ⟨f :: FA, FB, rfl, .cons hc h1, h2⟩
theorem Cps.marks {F q : List IT} (h : Cps F q) : (F.filter fun x => ¬ (x.mark = 0)).length = (q.filter fun x => ¬ (x.mark = 0)).length := by
  induction h with
  | nil => rfl
  | @cons x u xs us hc _ ih =>
    by_cases h0 : x.mark = 0
    · rw [List.filter_cons_of_neg (by simpa using h0), List.filter_cons_of_neg (by simpa using hc.m.trans h0)]; exact ih
    · rw [List.filter_cons_of_pos (by simpa using h0), List.filter_cons_of_pos (by have := hc.m; simp; omega), List.length_cons, List.length_cons, ih]
theorem Cps.allrec {F q : List IT} (h : Cps F q) (hq : ∀ x ∈ q, x.mark = 0) : ∀ x ∈ F, x.mark = 0 := by
  induction h with
  | nil => intro x hx; cases hx
  | @cons x u xs us hc _ ih =>
    intro y hy
    rcases List.mem_cons.1 hy with e | e
    · rw [e, ← hc.m]; exact hq u List.mem_cons_self
    · exact ih (fun z hz => hq z (List.mem_cons_of_mem _ hz)) y e
theorem drop_cons {α : Type} {l : LT α} {o : Nat} {y : α} {ys : List α} (h : l.toL.drop o = y :: ys) : o < l.n ∧ l.item o = y ∧ l.toL.drop (o + 1) = ys := by
  have ho : o < l.n := by
    rcases Nat.lt_or_ge o l.n with h1 | h1
    · exact h1
    · rw [List.drop_eq_nil_of_le (by rw [LT.toL_len]; exact h1)] at h; cases h
  have h2 : l.toL[o]? = some y := by
    have := congrArg (fun z : List α => z[0]?) h
    simpa using this
  refine ⟨ho, (l.toL_some h2).2, ?_⟩
  have := congrArg List.tail h
  simpa using this
theorem drop_get {α : Type} {l : LT α} {o j : Nat} {y : α} (h : (l.toL.drop o)[j]? = some y) : o + j < l.n ∧ l.item (o + j) = y := by
  rw [List.getElem?_drop] at h
  exact l.toL_some h
/-- the lane and the law's book -/
structure FJ (B0 : Nat) (w : World) (k b : Nat) (X : Bb) (L : Ln) (F : List IT) : Prop where
  bk : BbI B0 w k X
  ln : LnI w (X.C k) b L
  lb : ∀ j, L.C b j → B0 ≤ j
  cp : Cps F L.q
  r : (F.filter fun x => x.mark = 0).map IT.r = X.R.toL.drop X.oR
  m : (F.filter fun x => ¬ (x.mark = 0)).map IT.mark = X.M.toL.drop X.oM
  rm : L.room = 0 ∨ (nR L.q : Int) ≤ L.room
section
variable {B0 : Nat} {w w' : World} {k b : Nat} {X : Bb} {L : Ln} {F : List IT}
theorem FJ.nrq (h : FJ B0 w k b X L F) : nR L.q = X.R.n - X.oR := by
  rw [h.cp.nR]
  have := congrArg List.length h.r
  rw [List.length_map, List.length_drop, LT.toL_len] at this
  exact this
theorem FJ.below (h : FJ B0 w k b X L F) (hb : Below w.heap.size w w') : FJ B0 w' k b X L F := ⟨h.bk.below hb, h.ln.below hb, h.lb, h.cp, h.r, h.m, h.rm⟩
theorem FJ.zlt (h : FJ B0 w k b X L F) : ∀ j, X.C k j → j < w.heap.size := fun _ hj => (h.bk.c_lt hj).2
theorem FJ.lens (h : FJ B0 w k b X L F) : L.q.length ≤ (X.R.n - X.oR) + (X.M.n - X.oM) := by
  rw [h.cp.len]
  have h1 := congrArg List.length h.r
  have h2 := congrArg List.length h.m
  rw [List.length_map, List.length_drop, LT.toL_len] at h1 h2
  have h3 : ∀ F : List IT, F.length = (F.filter fun x => x.mark = 0).length + (F.filter fun x => ¬ (x.mark = 0)).length := by
    intro F
    induction F with
    | nil => rfl
    | cons x F ih =>
      by_cases h0 : x.mark = 0
      · rw [List.filter_cons_of_pos (by simpa using h0), List.filter_cons_of_neg (by simpa using h0), List.length_cons, List.length_cons, ih]; omega
      · rw [List.filter_cons_of_neg (by simpa using h0), List.filter_cons_of_pos (by simpa using h0), List.length_cons, List.length_cons, ih]; omega
  rw [h3 F, h1, h2]
  exact Nat.le_refl _
/-- behind a Take -/
theorem FJ.head {x : IT} {q' : List IT} (h : FJ B0 w k b X L F) (hq : L.q = x :: q') : ∃ f F', F = f :: F' ∧ CopyI f x ∧ Cps F' q' ∧
    (x.mark = 0 → X.oR < X.R.n ∧ RT.Alike (X.R.item X.oR) x.r ∧ (F'.filter fun x => x.mark = 0).map IT.r = X.R.toL.drop (X.oR + 1) ∧ (F'.filter fun x => ¬ (x.mark = 0)).map IT.mark = X.M.toL.drop X.oM) ∧
    (x.mark ≠ 0 → X.oM < X.M.n ∧ X.M.item X.oM = x.mark ∧ (F'.filter fun x => x.mark = 0).map IT.r = X.R.toL.drop X.oR ∧ (F'.filter fun x => ¬ (x.mark = 0)).map IT.mark = X.M.toL.drop (X.oM + 1)) := by
  have hcp := h.cp
  rw [hq] at hcp
  obtain ⟨f, F', rfl, hc, ht⟩ := hcp.cons_inv
  refine ⟨f, F', rfl, hc, ht, fun h0 => ?_, fun h0 => ?_⟩
  · have hf0 : f.mark = 0 := hc.m.symm.trans h0
    have h1 := h.r
    have h2 := h.m
    rw [List.filter_cons_of_pos (by simpa using hf0), List.map_cons] at h1
    rw [List.filter_cons_of_neg (by simpa using hf0)] at h2
    obtain ⟨a1, a2, a3⟩ := drop_cons h1.symm
    exact ⟨a1, by rw [a2]; exact hc.r hf0, a3.symm, h2⟩
  · have hf0 : ¬ f.mark = 0 := by rw [← hc.m]; exact h0
    have h1 := h.r
    have h2 := h.m
    rw [List.filter_cons_of_neg (by simpa using hf0)] at h1
    rw [List.filter_cons_of_pos (by simpa using hf0), List.map_cons] at h2
    obtain ⟨a1, a2, a3⟩ := drop_cons h2.symm
    exact ⟨a1, a2.trans hc.m.symm, h1, a3.symm⟩
theorem FJ.empty (h : FJ B0 w k b X L F) (hq : L.q = []) : X.R.n - X.oR = 0 ∧ X.oM = X.M.n := by
  have hcp := h.cp
  rw [hq] at hcp
  obtain rfl := hcp.nil_inv
  have h1 := congrArg List.length h.r
  have h2 := congrArg List.length h.m
  rw [List.length_map, List.length_drop, LT.toL_len] at h1 h2
  simp at h1 h2
  have := h.bk.b1
  have := h.bk.b2
  omega
theorem FJ.nomark (h : FJ B0 w k b X L F) (hq : nR L.q = L.q.length) : X.oM = X.M.n := by
  have h2 := congrArg List.length h.m
  rw [List.length_map, List.length_drop, LT.toL_len, h.cp.marks] at h2
  have h3 : ∀ q : List IT, q.length = nR q + (q.filter fun x => ¬ (x.mark = 0)).length := by
    intro q
    induction q with
    | nil => rfl
    | cons x q ih =>
      by_cases h0 : x.mark = 0
      · rw [nR_cons0 q h0, List.filter_cons_of_neg (by simpa using h0), List.length_cons, ih]; omega
      · rw [nR_cons1 q h0, List.filter_cons_of_pos (by simpa using h0), List.length_cons, List.length_cons, ih]; omega
  have h4 := h3 L.q
  have := h.bk.b2
  omega
/-- the first marker -/
theorem FJ.first {A : List IT} {m : IT} {B : List IT} (h : FJ B0 w k b X L F) (hq : L.q = A ++ m :: B) (hA : ∀ x ∈ A, x.mark = 0) (hm : m.mark ≠ 0) : ∃ F', Cps F' (A ++ B) ∧ X.oM < X.M.n ∧ X.M.item X.oM = m.mark ∧ X.oR + A.length ≤ X.R.n ∧ (∀ j x, A[j]? = some x → RT.Alike (X.R.item (X.oR + j)) x.r) ∧
    (F'.filter fun x => x.mark = 0).map IT.r = X.R.toL.drop X.oR ∧ (F'.filter fun x => ¬ (x.mark = 0)).map IT.mark = X.M.toL.drop (X.oM + 1) := by
  have hcp := h.cp
  rw [hq] at hcp
  obtain ⟨FA, FB', rfl, h1, h2⟩ := hcp.append_inv
  obtain ⟨f, FB, rfl, hc, ht⟩ := h2.cons_inv
  have hFA := h1.allrec hA
  have hf0 : ¬ f.mark = 0 := by rw [← hc.m]; exact hm
  have eA : (FA.filter fun x => x.mark = 0) = FA := List.filter_eq_self.2 fun x hx => by simpa using hFA x hx
  have eM : (FA.filter fun x => ¬ (x.mark = 0)) = [] := List.filter_eq_nil_iff.2 fun x hx => by simpa using hFA x hx
  have hr := h.r
  have hmm := h.m
  rw [List.filter_append, eA, List.filter_cons_of_neg (by simpa using hf0)] at hr
  rw [List.filter_append, eM, List.nil_append, List.filter_cons_of_pos (by simpa using hf0), List.map_cons] at hmm
  obtain ⟨a1, a2, a3⟩ := drop_cons hmm.symm
  refine ⟨FA ++ FB, h1.append ht, a1, a2.trans hc.m.symm, ?_, fun j x hx => ?_, by rw [List.filter_append, eA]; exact hr, by rw [List.filter_append, eM, List.nil_append]; exact a3.symm⟩
  · have := congrArg List.length hr
    rw [List.length_map, List.length_append, List.length_drop, LT.toL_len, ← h1.len] at this
    have := h.bk.b1
    omega
  · have hjA : j < FA.length := by
      rw [← h1.len]
      rcases Nat.lt_or_ge j A.length with e | e
      · exact e
      · rw [List.getElem?_eq_none e] at hx; cases hx
    obtain ⟨y, hy⟩ : ∃ y, FA[j]? = some y := ⟨_, List.getElem?_eq_getElem hjA⟩
    obtain ⟨u, hu, hcu⟩ := h1.get hy
    rw [hx] at hu
    injection hu with hu
    subst hu
    have hd : (X.R.toL.drop X.oR)[j]? = some y.r := by
      rw [← hr, List.getElem?_map, List.getElem?_append_left hjA, hy]; rfl
    rw [(drop_get hd).2]
    exact hcu.r (hFA y (List.mem_of_getElem? hy))
end
/-- the copies that Put laid -/
theorem PutS.cps {w : World} {Z : Nat → Prop} {b : Nat} {L : Ln} {l : LT IT} {us : List IT} {L' : Ln} {w' : World} (h : PutS w Z b L l us L' w') : Cps (l.toL.take us.length) us := by
  refine Cps.of_get (by rw [List.length_take, LT.toL_len]; have := h.le; omega) fun j x u hx hu => ?_
  have hj : j < us.length := by
    rcases Nat.lt_or_ge j us.length with e | e
    · exact e
    · rw [List.getElem?_eq_none e] at hu; cases hu
  rw [List.getElem?_take_of_lt hj] at hx
  have := (h.each j u hu).1
  rw [(l.toL_some hx).2] at this
  exact this
theorem PutS.putA {w : World} {Z : Nat → Prop} {b : Nat} {L : Ln} {l : LT IT} {us : List IT} {L' : Ln} {w' : World} {er : Int} (h : PutS w Z b L l us L' w') (hf : (us.length = l.n ∧ er = 0) ∨ (us.length < l.n ∧ er ≠ 0 ∧ er = refI L.room (nR (L.q ++ us)) (l.item us.length).mark)) : PutA L.room (nR L.q) l us.length er := by
  have key : ∀ j, j ≤ us.length → nR (us.take j) = nR (l.toL.take j) := fun j hj => by
    have := (h.cps.take j).nR
    rw [List.take_take, Nat.min_eq_left hj] at this
    exact this
  refine ⟨h.le, fun j hj => ?_, ?_⟩
  · obtain ⟨u, hu⟩ : ∃ u, us[j]? = some u := ⟨_, List.getElem?_eq_getElem hj⟩
    have := (h.each j u hu).2
    rw [nR_append, key j (by omega)] at this
    exact this
  · rcases hf with h1 | ⟨h1, h2, h3⟩
    · exact .inl h1
    · refine .inr ⟨h1, h2, ?_⟩
      rw [nR_append] at h3
      have := key us.length (Nat.le_refl _)
      rw [List.take_length] at this
      rw [this] at h3
      exact h3
theorem PutS.room {w : World} {Z : Nat → Prop} {b : Nat} {L : Ln} {l : LT IT} {us : List IT} {L' : Ln} {w' : World} (h : PutS w Z b L l us L' w') (hr : L.room = 0 ∨ (nR L.q : Int) ≤ L.room) (h0 : 0 ≤ L.room) : L.room = 0 ∨ (nR (L.q ++ us) : Int) ≤ L.room := by
  rcases hr with hr | hr
  · exact .inl hr
  · by_cases hz : L.room = 0
    · exact .inl hz
    right
    have key : ∀ j, j ≤ us.length → (nR (L.q ++ us.take j) : Int) ≤ L.room := by
      intro j
      induction j with
      | zero => intro _; simpa using hr
      | succ j ih =>
        intro hj
        obtain ⟨u, hu⟩ : ∃ u, us[j]? = some u := ⟨_, List.getElem?_eq_getElem (by omega)⟩
        have h1 := ih (by omega)
        have h2 := h.each j u hu
        rw [nR_append] at h1 ⊢
        by_cases hu0 : u.mark = 0
        · rw [nR_take_rec hu hu0]
          have h3 := h2.2
          rw [← h2.1.m, hu0, nR_append] at h3
          unfold refI fullB at h3
          rw [if_neg (by omega)] at h3
          by_cases h4 : L.room ≤ ((nR L.q + nR (us.take j) : Nat) : Int)
          · rw [if_pos ⟨rfl, by simp; exact ⟨by omega, by omega⟩⟩] at h3; cases h3
          · omega
        · rw [nR_take_mark hu hu0]; exact h1
    have := key us.length (Nat.le_refl _)
    rw [List.take_length] at this
    exact this
end Go.Proofs.Ytbcnlfbclgkeiaa
