import Derived.Test.YtbeibhmbaofjhaaPack1
namespace Go.Proofs.Ytbeibhmbaofjhaa
open Go.RowKit
set_option maxRecDepth 8000

/-- a stage: an operation that changes the world, whether it keeps the class, and those behind it that only read -/
abbrev Stg := Nat × Bool × List (Nat × Bool)
def stIdx (st : List Stg) : List Nat := st.flatMap fun s => s.1 :: s.2.2.map (·.1)
def stPre (st : List Stg) : List (Nat × Bool) := st.flatMap fun s => s.2.2
def wpStg (P : Program) (ops : Array Oper) (Q : Exit → Act → World → Prop) (C : World → Prop) : List Stg → Act → World → Prop
  | [], a, w => Q .normal a w
  | (m, b, p) :: r, a, w => wpOp P ops (Qn Q) m (fun a w => (b = true → C w) ∧ wpPre P ops C p (fun a => wpStg P ops Q C r a w) a) a w
def stB (ops : Array Oper) (f : Nat) : List (Nat × Bool) → List Stg → Bool
  | _, [] => true
  | pre, (m, b, p) :: r => pre.all (fun x => (apB ops x.1 m && (x.2 || b)) || reachB ops f m x.1) && (p.map (·.1) ++ stIdx r).all (fun z => reachB ops f z m) && p.all (fun x => x.2 || b) && stB ops f (pre ++ p) r
def calmD (ops : Array Oper) (f : Nat) (pre : List (Nat × Bool)) (st : List Stg) : Bool :=
  Region.noSelect ops && acB ops && pairsB (fun i j => i != j) (pre.map (·.1) ++ stIdx st) &&
  (List.range ops.size).all (fun j => (pre.map (·.1) ++ stIdx st).contains j) && (pre.map (·.1) ++ stIdx st).all (fun j => decide (j < ops.size)) &&
  pairsB (fun i j => apB ops i j || reachB ops f j i) ((pre ++ stPre st).map (·.1)) && stB ops f pre st

section
variable {P : Program} {ops : Array Oper} {Q : Exit → Act → World → Prop} {C : World → Prop}
theorem wpPre_app (K : Act → Prop) : ∀ (p q : List (Nat × Bool)) (a : Act), wpPre P ops C p (fun a => wpPre P ops C q K a) a → wpPre P ops C (p ++ q) K a
  | [], _, _, h => h
  | _ :: p, q, _, ⟨o, v, ho, hy, h⟩ => ⟨o, v, ho, hy, wpPre_app K p q _ h⟩
theorem wpPre_and {A : Prop} (K : Act → Prop) : ∀ (p : List (Nat × Bool)) (a : Act), wpPre P ops C p (fun a => A ∧ K a) a → A ∧ wpPre P ops C p K a
  | [], _, h => h
  | _ :: p, _, ⟨o, v, ho, hy, h⟩ => ⟨(wpPre_and K p _ h).1, o, v, ho, hy, (wpPre_and K p _ h).2⟩

structure CalmD (P : Program) (ops : Array Oper) (Q : Exit → Act → World → Prop) (C : World → Prop) (f : Nat) (T : List (Nat × Bool)) (D : Nat → Prop) (a : Act) (w : World) (pre' : List (Nat × Bool)) (st' : List Stg) (P' : List (Nat × Bool)) : Prop where
  tot : P' ++ stPre st' = T
  sp : pre'.Sublist P'
  sb : stB ops f P' st' = true
  nd : (pre'.map (·.1) ++ stIdx st').Pairwise (fun i j => (i != j) = true)
  mem : ∀ j, (j ∈ pre'.map (·.1) ∨ j ∈ stIdx st') ↔ (j < ops.size ∧ ¬ D j)
  wc : C w ∨ ∀ x ∈ pre', x.2 = true
  cl : ∀ (j : Nat) (o : Oper), ops[j]? = some o → D j → ∀ e ∈ o.after, Region.binds .any e = true → D e.on
  wp : wpPre P ops C pre' (fun a => wpStg P ops Q C st' a w) a

theorem wp_region_calmD {rid : Nat} {a : Act} {w : World} (f : Nat) (C : World → Prop) (pre : List (Nat × Bool)) (st : List Stg) (hm : P.follows .mixedOrders = true) (hB : calmD ops f pre st = true) (hC : C w.drew)
    (h : wpPre P ops C pre (fun a => wpStg P ops Q C st a w.drew) a) : (Code.region rid ops true).wp P Q a w := by
  simp only [calmD, Bool.and_eq_true] at hB
  obtain ⟨⟨⟨⟨⟨⟨hsel, hac⟩, hnd⟩, hcov⟩, hlt⟩, hpp⟩, hsb⟩ := hB
  have hnd := pairsB_spec hnd
  have hpp := pairsB_spec hpp
  simp only [List.all_eq_true] at hcov hlt
  refine wp_region_inv hm (fun D a w => ∃ pre' st' P', CalmD P ops Q C f (pre ++ stPre st) D a w pre' st' P') ?_ hac ?_ ?_ ?_
  · rintro D D' a w hD ⟨p, s, r, hk⟩
    have e : D = D' := funext fun j => propext (hD j)
    subst e
    exact ⟨p, s, r, hk⟩
  · intro D hD
    refine ⟨pre, st, pre, rfl, .refl _, hsb, hnd, fun j => ⟨fun hj => ⟨?_, hD j⟩, fun hj => ?_⟩, .inl hC, fun j o _ hj => absurd hj (hD j), h⟩
    · exact of_decide_eq_true (hlt j (List.mem_append.2 hj))
    · exact List.mem_append.1 (List.contains_iff_mem.1 (hcov j (List.mem_range.2 hj.1)))
  · rintro D a w ⟨p, s, P', hk⟩ i o ho hnD hdep
    have hil : i < ops.size := (Array.getElem?_eq_some_iff.1 ho).1
    have hnot : ∀ x, (x ∈ p.map (·.1) ∨ x ∈ stIdx s) → reachB ops f i x = true → False := fun x hx hr =>
      ((hk.mem x).1 hx).2 (reach_done hk.cl f i x hr (fun o' ho' => by obtain rfl := Option.some.inj (ho.symm.trans ho'); exact hdep))
    have hcl' : ∀ (j : Nat) (o : Oper), ops[j]? = some o → (D j ∨ j = i) → ∀ e ∈ o.after, Region.binds .any e = true → (D e.on ∨ e.on = i) := by
      intro j o' ho' hj e he hb
      rcases hj with hj | rfl
      · exact .inl (hk.cl j o' ho' hj e he hb)
      · obtain rfl := Option.some.inj (ho.symm.trans ho')
        exact .inl (hdep e he hb)
    rcases (hk.mem i).2 ⟨hil, hnD⟩ with hi | hi
    · obtain ⟨⟨i0, b⟩, hx, hx0⟩ := List.mem_map.1 hi
      obtain rfl : i0 = i := hx0
      obtain ⟨l1, l2, rfl⟩ := List.append_of_mem hx
      have hap : ∀ x ∈ l1, apB ops x.1 i0 = true := by
        intro x hx
        have hT : (l1 ++ (i0, b) :: l2).Sublist (pre ++ stPre st) := by rw [← hk.tot]; exact hk.sp.trans (List.sublist_append_left _ _)
        have h1 := hpp.sublist (hT.map (·.1))
        rw [List.map_append, List.map_cons, List.pairwise_append] at h1
        have h2 := h1.2.2 x.1 (List.mem_map_of_mem hx) i0 (by simp)
        simp only [Bool.or_eq_true] at h2
        rcases h2 with h2 | h2
        · exact h2
        · exact (hnot x.1 (.inl (by rw [List.map_append, List.mem_append]; exact .inl (List.mem_map_of_mem hx))) h2).elim
      obtain ⟨oi, v, hoi, hy, h'⟩ := wpPre_move hsel i0 b l2 _ l1 a hap hk.wp
      obtain rfl := Option.some.inj (ho.symm.trans hoi)
      have hcw : cls C b w := by
        rcases hk.wc with h1 | h1
        · exact .inr h1
        · exact .inl (h1 (i0, b) (by simp))
      have hsub : (l1 ++ l2).Sublist (l1 ++ (i0, b) :: l2) := List.Sublist.append_left (List.sublist_cons_self _ _) l1
      have hni : ∀ j, j ∈ (l1 ++ l2).map (·.1) ∨ j ∈ stIdx s → j ≠ i0 := by
        intro j hj
        have hnd' := hk.nd
        rw [List.map_append, List.map_cons, List.append_assoc, List.pairwise_append] at hnd'
        obtain ⟨-, h2, h3⟩ := hnd'
        rw [List.cons_append, List.pairwise_cons] at h2
        rw [List.map_append, List.mem_append] at hj
        rcases hj with (hj | hj) | hj
        · have := h3 j hj i0 (by simp); simpa using this
        · have := h2.1 j (List.mem_append.2 (.inl hj)); exact fun e => by subst e; simp at this
        · have := h2.1 j (List.mem_append.2 (.inr hj)); exact fun e => by subst e; simp at this
      have hnew : CalmD P ops Q C f (pre ++ stPre st) (fun j => D j ∨ j = i0) (a.put o.dst v) w (l1 ++ l2) s P' := by
        refine ⟨hk.tot, hsub.trans hk.sp, hk.sb, hk.nd.sublist ((hsub.map _).append (.refl _)), fun j => ?_, hk.wc.imp id (fun h1 x hx => h1 x (hsub.subset hx)), hcl', h'⟩
        constructor
        · intro hj
          have h1 := (hk.mem j).1 (by rcases hj with hj | hj
                                      · left; exact (hsub.map _).subset hj
                                      · exact .inr hj)
          exact ⟨h1.1, fun h2 => h2.elim h1.2 (hni j hj)⟩
        · rintro ⟨h1, h2⟩
          have h3 := (hk.mem j).2 ⟨h1, fun h4 => h2 (.inl h4)⟩
          rcases h3 with h3 | h3
          · left
            rw [List.map_append, List.mem_append] at h3 ⊢
            rw [List.map_cons, List.mem_cons] at h3
            rcases h3 with h3 | h3 | h3
            · exact .inl h3
            · exact absurd (.inr h3) h2
            · exact .inr h3
          · exact .inr h3
      unfold wpOp
      simp only [ho]
      rcases hy with ⟨hw, hv⟩ | ⟨hw, rfl⟩
      · rw [if_pos hw]
        left
        unfold Oper.wp
        rw [hv w hcw]
        exact ⟨_, _, _, hnew⟩
      · rw [if_neg (by rw [hw]; simp)]
        exact ⟨_, _, _, hnew⟩
    · cases s with
      | nil => cases hi
      | cons y r =>
        obtain ⟨m, b, q⟩ := y
        have hsb' := hk.sb
        simp only [stB, Bool.and_eq_true, List.all_eq_true] at hsb'
        obtain ⟨⟨⟨hb1, hb2⟩, hb4⟩, hb3⟩ := hsb'
        have hmem : stIdx ((m, b, q) :: r) = m :: (q.map (·.1) ++ stIdx r) := by simp [stIdx]
        rw [hmem, List.mem_cons] at hi
        have him : i = m := by
          rcases hi with h1 | h1
          · exact h1
          · exact (hnot m (.inr (by rw [hmem]; simp)) (hb2 i h1)).elim
        subst him
        have hboth : ∀ x ∈ p, apB ops x.1 i = true ∧ (x.2 = true ∨ b = true) := by
          intro x hx
          have h1 := hb1 x (hk.sp.subset hx)
          simp only [Bool.or_eq_true, Bool.and_eq_true] at h1
          rcases h1 with h1 | h1
          · exact h1
          · exact (hnot x.1 (.inl (List.mem_map_of_mem hx)) h1).elim
        have h1 := wpOp_Qn (wpPre_past (w := w) (Q := Q) hsel ho _ p a (fun x hx => (hboth x hx).1) hk.wp)
        refine wpOp_mono (fun a' w' h2 => ?_) h1
        obtain ⟨h3, h4⟩ := wpPre_and _ p a' h2
        have hnd' := hk.nd
        rw [hmem] at hnd'
        have hni : ∀ j, j ∈ (p ++ q).map (·.1) ∨ j ∈ stIdx r → j ≠ i := by
          intro j hj
          rw [List.pairwise_append] at hnd'
          obtain ⟨-, h5, h6⟩ := hnd'
          rw [List.pairwise_cons] at h5
          rw [List.map_append, List.mem_append] at hj
          rcases hj with (hj | hj) | hj
          · have := h6 j hj i (by simp); simpa using this
          · have := h5.1 j (List.mem_append.2 (.inl hj)); exact fun e => by subst e; simp at this
          · have := h5.1 j (List.mem_append.2 (.inr hj)); exact fun e => by subst e; simp at this
        refine ⟨p ++ q, r, P' ++ q, ?_, hk.sp.append (.refl _), hb3, ?_, fun j => ?_, ?_, hcl', wpPre_app _ p q a' h4⟩
        · rw [← hk.tot]; simp [stPre]
        · rw [List.map_append, List.append_assoc]
          exact hnd'.sublist ((List.Sublist.refl _).append (List.sublist_cons_self _ _))
        · constructor
          · intro hj
            have h5 := (hk.mem j).1 (by
              rw [hmem]
              rw [List.map_append, List.mem_append] at hj
              rcases hj with (hj | hj) | hj
              · exact .inl hj
              · exact .inr (List.mem_cons_of_mem _ (List.mem_append.2 (.inl hj)))
              · exact .inr (List.mem_cons_of_mem _ (List.mem_append.2 (.inr hj))))
            exact ⟨h5.1, fun h6 => h6.elim h5.2 (hni j hj)⟩
          · rintro ⟨h5, h6⟩
            have h7 := (hk.mem j).2 ⟨h5, fun h8 => h6 (.inl h8)⟩
            rw [hmem] at h7
            rw [List.map_append, List.mem_append]
            rcases h7 with h7 | h7
            · exact .inl (.inl h7)
            · rcases List.mem_cons.1 h7 with h7 | h7
              · exact absurd (.inr h7) h6
              · rcases List.mem_append.1 h7 with h7 | h7
                · exact .inl (.inr h7)
                · exact .inr h7
        · by_cases hb : b = true
          · exact .inl (h3 hb)
          · right
            intro x hx
            rcases List.mem_append.1 hx with hx | hx
            · exact (hboth x hx).2.resolve_right hb
            · have h9 := hb4 x hx
              simp only [Bool.or_eq_true] at h9
              exact h9.resolve_right hb
  · rintro D a w ⟨p, s, P', hk⟩ hall
    have hp : p = [] := by
      cases p with
      | nil => rfl
      | cons x p => have h1 := (hk.mem x.1).1 (.inl (by simp)); exact absurd (hall _ h1.1) h1.2
    have hs : s = [] := by
      cases s with
      | nil => rfl
      | cons x s => have h1 := (hk.mem x.1).1 (.inr (by simp [stIdx])); exact absurd (hall _ h1.1) h1.2
    subst hp
    subst hs
    exact hk.wp
/-- one that reads, guarded or not -/
theorem wpPre_i {i : Nat} {b : Bool} {r : List (Nat × Bool)} {K : Act → Prop} {a : Act} {o : Oper} (ho : ops[i]? = some o)
    (h : ∀ K' : Act → Prop, (∀ a, wpPre P ops C r K a → K' a) → if Region.wanted o (yielded ops a.tmps) = true then ∃ v, (∀ w, cls C b w → (execOp a.eval o).run P w = .ok (.value v) w) ∧ K' (a.put o.dst v) else K' (a.put o.dst undef)) : wpPre P ops C ((i, b) :: r) K a := by
  have h1 := h _ (fun _ h => h)
  by_cases hw : Region.wanted o (yielded ops a.tmps) = true
  · rw [if_pos hw] at h1
    obtain ⟨v, hy, hk⟩ := h1
    exact ⟨o, v, ho, .inl ⟨hw, hy⟩, hk⟩
  · rw [if_neg hw] at h1
    exact ⟨o, undef, ho, .inr ⟨by simpa using hw, rfl⟩, h1⟩
theorem wpStg_nil {a : Act} {w : World} (h : Q .normal a w) : wpStg P ops Q C [] a w := h
theorem wpStg_e {m : Nat} {b : Bool} {p : List (Nat × Bool)} {r : List Stg} {a : Act} {w : World} {o : Oper} (ho : ops[m]? = some o)
    (h : ∀ K' : Act → World → Prop, (∀ a w, (b = true → C w) → wpPre P ops C p (fun a => wpStg P ops Q C r a w) a → K' a w) → if Region.wanted o (yielded ops a.tmps) = true then Oper.wp P o a w K' (Qn Q) else K' (a.put o.dst undef) w) : wpStg P ops Q C ((m, b, p) :: r) a w := by
  have h1 := h (fun a w => (b = true → C w) ∧ wpPre P ops C p (fun a => wpStg P ops Q C r a w) a) (fun _ _ h1 h2 => ⟨h1, h2⟩)
  show wpOp P ops (Qn Q) m _ a w
  unfold wpOp
  simp only [ho]
  split
  · rename_i hw
    rw [if_pos hw] at h1
    exact .inl h1
  · rename_i hw
    rw [if_neg hw] at h1
    exact h1
end
end Go.Proofs.Ytbeibhmbaofjhaa

namespace Go.Proofs.Ytbeibhmbaofjhaa
open Go.RowKit
set_option maxRecDepth 8000

/-- what changes the world, in its order; where two may come in either order: both ways -/
inductive Tr where
  | done : Tr
  | one (m : Nat) (b : Bool) (p : List (Nat × Bool)) (t : Tr) : Tr
  | two (m1 : Nat) (b1 : Bool) (p1 : List (Nat × Bool)) (t1 : Tr) (m2 : Nat) (b2 : Bool) (p2 : List (Nat × Bool)) (t2 : Tr) : Tr
def trIdx : Tr → List Nat
  | .done => []
  | .one m _ p t => m :: (p.map (·.1) ++ trIdx t)
  | .two m _ p t _ _ _ _ => m :: (p.map (·.1) ++ trIdx t)
def wpTr (P : Program) (ops : Array Oper) (Q : Exit → Act → World → Prop) (C : World → Prop) : Tr → Act → World → Prop
  | .done, a, w => Q .normal a w
  | .one m b p t, a, w => wpOp P ops (Qn Q) m (fun a w => (b = true → C w) ∧ wpPre P ops C p (fun a => wpTr P ops Q C t a w) a) a w
  | .two m b p t m2 b2 p2 t2, a, w => wpOp P ops (Qn Q) m (fun a w => (b = true → C w) ∧ wpPre P ops C p (fun a => wpTr P ops Q C t a w) a) a w ∧ wpOp P ops (Qn Q) m2 (fun a w => (b2 = true → C w) ∧ wpPre P ops C p2 (fun a => wpTr P ops Q C t2 a w) a) a w
/-- what is asked of one branch -/
def brB (ops : Array Oper) (f : Nat) (pre : List (Nat × Bool)) (m : Nat) (b : Bool) (p : List (Nat × Bool)) (idx : List Nat) : Bool :=
  pre.all (fun x => (apB ops x.1 m && (x.2 || b)) || reachB ops f m x.1) && p.all (fun x => x.2 || b) && pairsB (fun i j => apB ops i j || reachB ops f j i) ((pre ++ p).map (·.1)) && pairsB (fun i j => i != j) (m :: ((pre ++ p).map (·.1) ++ idx))
def sameB (l k : List Nat) : Bool := l.all (fun x => k.contains x) && k.all (fun x => l.contains x)
def trB (ops : Array Oper) (f : Nat) : List (Nat × Bool) → Tr → Bool
  | _, .done => true
  | pre, .one m b p t => brB ops f pre m b p (trIdx t) && (p.map (·.1) ++ trIdx t).all (fun z => reachB ops f z m) && trB ops f (pre ++ p) t
  | pre, .two m b p t m2 b2 p2 t2 => brB ops f pre m b p (trIdx t) && brB ops f pre m2 b2 p2 (trIdx t2) && (p.map (·.1) ++ trIdx t).all (fun z => z == m2 || (reachB ops f z m || reachB ops f z m2)) && sameB (m :: (p.map (·.1) ++ trIdx t)) (m2 :: (p2.map (·.1) ++ trIdx t2)) && trB ops f (pre ++ p) t && trB ops f (pre ++ p2) t2
def calmE (ops : Array Oper) (f : Nat) (pre : List (Nat × Bool)) (t : Tr) : Bool :=
  Region.noSelect ops && acB ops && (List.range ops.size).all (fun j => (pre.map (·.1) ++ trIdx t).contains j) && (pre.map (·.1) ++ trIdx t).all (fun j => decide (j < ops.size)) &&
  pairsB (fun i j => i != j) (pre.map (·.1) ++ trIdx t) && pairsB (fun i j => apB ops i j || reachB ops f j i) (pre.map (·.1)) && trB ops f pre t

section
variable {P : Program} {ops : Array Oper} {Q : Exit → Act → World → Prop} {C : World → Prop}
structure CalmE (P : Program) (ops : Array Oper) (Q : Exit → Act → World → Prop) (C : World → Prop) (f : Nat) (D : Nat → Prop) (a : Act) (w : World) (pre' : List (Nat × Bool)) (t : Tr) (P' : List (Nat × Bool)) : Prop where
  sp : pre'.Sublist P'
  pp : (P'.map (·.1)).Pairwise (fun i j => (apB ops i j || reachB ops f j i) = true)
  nd : (P'.map (·.1) ++ trIdx t).Pairwise (fun i j => (i != j) = true)
  sb : trB ops f P' t = true
  mem : ∀ j, (j ∈ pre'.map (·.1) ∨ j ∈ trIdx t) ↔ (j < ops.size ∧ ¬ D j)
  wc : C w ∨ ∀ x ∈ pre', x.2 = true
  cl : ∀ (j : Nat) (o : Oper), ops[j]? = some o → D j → ∀ e ∈ o.after, Region.binds .any e = true → D e.on
  wp : wpPre P ops C pre' (fun a => wpTr P ops Q C t a w) a

theorem sameB_spec {l k : List Nat} (h : sameB l k = true) (x : Nat) : x ∈ l ↔ x ∈ k := by
  simp only [sameB, Bool.and_eq_true, List.all_eq_true, List.contains_iff_mem] at h
  exact ⟨h.1 x, h.2 x⟩

theorem branch_step {f : Nat} {D : Nat → Prop} {a : Act} {w : World} {p : List (Nat × Bool)} {t : Tr} {P' : List (Nat × Bool)} {i : Nat} {o : Oper} {b : Bool} {q : List (Nat × Bool)} {t' : Tr} (hsel : Region.noSelect ops = true)
    (hk : CalmE P ops Q C f D a w p t P') (ho : ops[i]? = some o) (hnot : ∀ x, (x ∈ p.map (·.1) ∨ x ∈ trIdx t) → reachB ops f i x = true → False)
    (hcl' : ∀ (j : Nat) (o : Oper), ops[j]? = some o → (D j ∨ j = i) → ∀ e ∈ o.after, Region.binds .any e = true → (D e.on ∨ e.on = i))
    (hbr : brB ops f P' i b q (trIdx t') = true) (hidx : ∀ j, j ∈ trIdx t ↔ j ∈ i :: (q.map (·.1) ++ trIdx t')) (hsb : trB ops f (P' ++ q) t' = true)
    (hwp : wpPre P ops C p (fun a => wpOp P ops (Qn Q) i (fun a w => (b = true → C w) ∧ wpPre P ops C q (fun a => wpTr P ops Q C t' a w) a) a w) a) :
    wpOp P ops Q i (fun a w => ∃ pre' t P', CalmE P ops Q C f (fun j => D j ∨ j = i) a w pre' t P') a w := by
  simp only [brB, Bool.and_eq_true, List.all_eq_true] at hbr
  obtain ⟨⟨⟨hb1, hb4⟩, hb5⟩, hb6⟩ := hbr
  have hb5 := pairsB_spec hb5
  have hb6 := pairsB_spec hb6
  have hboth : ∀ x ∈ p, apB ops x.1 i = true ∧ (x.2 = true ∨ b = true) := by
    intro x hx
    have h1 := hb1 x (hk.sp.subset hx)
    simp only [Bool.or_eq_true, Bool.and_eq_true] at h1
    rcases h1 with h1 | h1
    · exact h1
    · exact (hnot x.1 (.inl (List.mem_map_of_mem hx)) h1).elim
  have h1 := wpOp_Qn (wpPre_past (w := w) (Q := Q) hsel ho _ p a (fun x hx => (hboth x hx).1) hwp)
  refine wpOp_mono (fun a' w' h2 => ?_) h1
  obtain ⟨h3, h4⟩ := wpPre_and _ p a' h2
  rw [List.pairwise_cons] at hb6
  have hni : ∀ j, j ∈ (p ++ q).map (·.1) ∨ j ∈ trIdx t' → j ≠ i := by
    intro j hj
    have h5 : j ∈ (P' ++ q).map (·.1) ++ trIdx t' := by
      rcases hj with hj | hj
      · exact List.mem_append.2 (.inl (((hk.sp.append (.refl q)).map _).subset hj))
      · exact List.mem_append.2 (.inr hj)
    have := hb6.1 j h5
    exact fun e => by subst e; simp at this
  refine ⟨p ++ q, t', P' ++ q, hk.sp.append (.refl _), hb5, hb6.2, hsb, fun j => ?_, ?_, hcl', wpPre_app _ p q a' h4⟩
  · constructor
    · intro hj
      have h5 := (hk.mem j).1 (by
        rw [hidx]
        rw [List.map_append, List.mem_append] at hj
        rcases hj with (hj | hj) | hj
        · exact .inl hj
        · exact .inr (List.mem_cons_of_mem _ (List.mem_append.2 (.inl hj)))
        · exact .inr (List.mem_cons_of_mem _ (List.mem_append.2 (.inr hj))))
      exact ⟨h5.1, fun h6 => h6.elim h5.2 (hni j hj)⟩
    · rintro ⟨h5, h6⟩
      have h7 := (hk.mem j).2 ⟨h5, fun h8 => h6 (.inl h8)⟩
      rw [hidx] at h7
      rw [List.map_append, List.mem_append]
      rcases h7 with h7 | h7
      · exact .inl (.inl h7)
      · rcases List.mem_cons.1 h7 with h7 | h7
        · exact absurd (.inr h7) h6
        · rcases List.mem_append.1 h7 with h7 | h7
          · exact .inl (.inr h7)
          · exact .inr h7
  · by_cases hb : b = true
    · exact .inl (h3 hb)
    · right
      intro x hx
      rcases List.mem_append.1 hx with hx | hx
      · exact (hboth x hx).2.resolve_right hb
      · have h9 := hb4 x hx
        simp only [Bool.or_eq_true] at h9
        exact h9.resolve_right hb

theorem wpPre_left {A B : Act → Prop} : ∀ (p : List (Nat × Bool)) (a : Act), wpPre P ops C p (fun a => A a ∧ B a) a → wpPre P ops C p A a ∧ wpPre P ops C p B a
  | [], _, h => h
  | _ :: p, _, ⟨o, v, ho, hy, h⟩ => ⟨⟨o, v, ho, hy, (wpPre_left p _ h).1⟩, o, v, ho, hy, (wpPre_left p _ h).2⟩

theorem wp_region_calmE {rid : Nat} {a : Act} {w : World} (f : Nat) (C : World → Prop) (pre : List (Nat × Bool)) (t : Tr) (hm : P.follows .mixedOrders = true) (hB : calmE ops f pre t = true) (hC : C w.drew)
    (h : wpPre P ops C pre (fun a => wpTr P ops Q C t a w.drew) a) : (Code.region rid ops true).wp P Q a w := by
  simp only [calmE, Bool.and_eq_true] at hB
  obtain ⟨⟨⟨⟨⟨⟨hsel, hac⟩, hcov⟩, hlt⟩, hnd⟩, hpp⟩, hsb⟩ := hB
  have hnd := pairsB_spec hnd
  have hpp := pairsB_spec hpp
  simp only [List.all_eq_true] at hcov hlt
  refine wp_region_inv hm (fun D a w => ∃ pre' t P', CalmE P ops Q C f D a w pre' t P') ?_ hac ?_ ?_ ?_
  · rintro D D' a w hD ⟨p, s, r, hk⟩
    have e : D = D' := funext fun j => propext (hD j)
    subst e
    exact ⟨p, s, r, hk⟩
  · intro D hD
    refine ⟨pre, t, pre, .refl _, hpp, hnd, hsb, fun j => ⟨fun hj => ⟨?_, hD j⟩, fun hj => ?_⟩, .inl hC, fun j o _ hj => absurd hj (hD j), h⟩
    · exact of_decide_eq_true (hlt j (List.mem_append.2 hj))
    · exact List.mem_append.1 (List.contains_iff_mem.1 (hcov j (List.mem_range.2 hj.1)))
  · rintro D a w ⟨p, s, P', hk⟩ i o ho hnD hdep
    have hil : i < ops.size := (Array.getElem?_eq_some_iff.1 ho).1
    have hnot : ∀ x, (x ∈ p.map (·.1) ∨ x ∈ trIdx s) → reachB ops f i x = true → False := fun x hx hr =>
      ((hk.mem x).1 hx).2 (reach_done hk.cl f i x hr (fun o' ho' => by obtain rfl := Option.some.inj (ho.symm.trans ho'); exact hdep))
    have hcl' : ∀ (j : Nat) (o : Oper), ops[j]? = some o → (D j ∨ j = i) → ∀ e ∈ o.after, Region.binds .any e = true → (D e.on ∨ e.on = i) := by
      intro j o' ho' hj e he hb
      rcases hj with hj | rfl
      · exact .inl (hk.cl j o' ho' hj e he hb)
      · obtain rfl := Option.some.inj (ho.symm.trans ho')
        exact .inl (hdep e he hb)
    rcases (hk.mem i).2 ⟨hil, hnD⟩ with hi | hi
    · obtain ⟨⟨i0, b⟩, hx, hx0⟩ := List.mem_map.1 hi
      obtain rfl : i0 = i := hx0
      obtain ⟨l1, l2, rfl⟩ := List.append_of_mem hx
      have hap : ∀ x ∈ l1, apB ops x.1 i0 = true := by
        intro x hx
        have h1 := hk.pp.sublist (hk.sp.map (·.1))
        rw [List.map_append, List.map_cons, List.pairwise_append] at h1
        have h2 := h1.2.2 x.1 (List.mem_map_of_mem hx) i0 (by simp)
        simp only [Bool.or_eq_true] at h2
        rcases h2 with h2 | h2
        · exact h2
        · exact (hnot x.1 (.inl (by rw [List.map_append, List.mem_append]; exact .inl (List.mem_map_of_mem hx))) h2).elim
      obtain ⟨oi, v, hoi, hy, h'⟩ := wpPre_move hsel i0 b l2 _ l1 a hap hk.wp
      obtain rfl := Option.some.inj (ho.symm.trans hoi)
      have hcw : cls C b w := by
        rcases hk.wc with h1 | h1
        · exact .inr h1
        · exact .inl (h1 (i0, b) (by simp))
      have hsub : (l1 ++ l2).Sublist (l1 ++ (i0, b) :: l2) := List.Sublist.append_left (List.sublist_cons_self _ _) l1
      have hni : ∀ j, j ∈ (l1 ++ l2).map (·.1) ∨ j ∈ trIdx s → j ≠ i0 := by
        intro j hj
        have hnd' := hk.nd.sublist ((hk.sp.map (·.1)).append (.refl (trIdx s)))
        rw [List.map_append, List.map_cons, List.append_assoc, List.pairwise_append] at hnd'
        obtain ⟨-, h2, h3⟩ := hnd'
        rw [List.cons_append, List.pairwise_cons] at h2
        rw [List.map_append, List.mem_append] at hj
        rcases hj with (hj | hj) | hj
        · have := h3 j hj i0 (by simp); simpa using this
        · have := h2.1 j (List.mem_append.2 (.inl hj)); exact fun e => by subst e; simp at this
        · have := h2.1 j (List.mem_append.2 (.inr hj)); exact fun e => by subst e; simp at this
      have hnew : CalmE P ops Q C f (fun j => D j ∨ j = i0) (a.put o.dst v) w (l1 ++ l2) s P' := by
        refine ⟨hsub.trans hk.sp, hk.pp, hk.nd, hk.sb, fun j => ?_, hk.wc.imp id (fun h1 x hx => h1 x (hsub.subset hx)), hcl', h'⟩
        constructor
        · intro hj
          have h1 := (hk.mem j).1 (by rcases hj with hj | hj
                                      · left; exact (hsub.map _).subset hj
                                      · exact .inr hj)
          exact ⟨h1.1, fun h2 => h2.elim h1.2 (hni j hj)⟩
        · rintro ⟨h1, h2⟩
          have h3 := (hk.mem j).2 ⟨h1, fun h4 => h2 (.inl h4)⟩
          rcases h3 with h3 | h3
          · left
            rw [List.map_append, List.mem_append] at h3 ⊢
            rw [List.map_cons, List.mem_cons] at h3
            rcases h3 with h3 | h3 | h3
            · exact .inl h3
            · exact absurd (.inr h3) h2
            · exact .inr h3
          · exact .inr h3
      unfold wpOp
      simp only [ho]
      rcases hy with ⟨hw, hv⟩ | ⟨hw, rfl⟩
      · rw [if_pos hw]
        left
        unfold Oper.wp
        rw [hv w hcw]
        exact ⟨_, _, _, hnew⟩
      · rw [if_neg (by rw [hw]; simp)]
        exact ⟨_, _, _, hnew⟩
    · cases s with
      | done => cases hi
      | one m b q r =>
        have hsb' := hk.sb
        simp only [trB, Bool.and_eq_true, List.all_eq_true] at hsb'
        obtain ⟨⟨hb1, hb2⟩, hb3⟩ := hsb'
        have him : i = m := by
          rcases List.mem_cons.1 hi with h1 | h1
          · exact h1
          · exact (hnot m (.inr (by simp [trIdx])) (hb2 i h1)).elim
        subst him
        exact branch_step hsel hk ho hnot hcl' hb1 (fun j => Iff.rfl) hb3 hk.wp
      | two m b q r m2 b2 q2 r2 =>
        have hsb' := hk.sb
        simp only [trB, Bool.and_eq_true, List.all_eq_true] at hsb'
        obtain ⟨⟨⟨⟨⟨hb1, hb2⟩, hb3⟩, hb4⟩, hb5⟩, hb6⟩ := hsb'
        have hm2 : m2 ∈ trIdx (.two m b q r m2 b2 q2 r2) := (sameB_spec hb4 m2).2 (by simp)
        have hwp := wpPre_left p a hk.wp
        have him : i = m ∨ i = m2 := by
          rcases List.mem_cons.1 hi with h1 | h1
          · exact .inl h1
          · have h2 := hb3 i h1
            simp only [Bool.or_eq_true, beq_iff_eq] at h2
            rcases h2 with h2 | h2 | h2
            · exact .inr h2
            · exact (hnot m (.inr (by simp [trIdx])) h2).elim
            · exact (hnot m2 (.inr hm2) h2).elim
        rcases him with him | him
        · subst him
          exact branch_step hsel hk ho hnot hcl' hb1 (fun j => Iff.rfl) hb5 hwp.1
        · subst him
          exact branch_step hsel hk ho hnot hcl' hb2 (fun j => sameB_spec hb4 j) hb6 hwp.2
  · rintro D a w ⟨p, s, P', hk⟩ hall
    have hp : p = [] := by
      cases p with
      | nil => rfl
      | cons x p => have h1 := (hk.mem x.1).1 (.inl (by simp)); exact absurd (hall _ h1.1) h1.2
    have hs : s = .done := by
      cases s with
      | done => rfl
      | one m b q r => have h1 := (hk.mem m).1 (.inr (by simp [trIdx])); exact absurd (hall _ h1.1) h1.2
      | two m b q r _ _ _ _ => have h1 := (hk.mem m).1 (.inr (by simp [trIdx])); exact absurd (hall _ h1.1) h1.2
    subst hp
    subst hs
    exact hk.wp
theorem wpTr_done {a : Act} {w : World} (h : Q .normal a w) : wpTr P ops Q C .done a w := h
theorem wpTr_op {m : Nat} {b : Bool} {p : List (Nat × Bool)} {t : Tr} {a : Act} {w : World} {o : Oper} (ho : ops[m]? = some o)
    (h : ∀ K' : Act → World → Prop, (∀ a w, (b = true → C w) → wpPre P ops C p (fun a => wpTr P ops Q C t a w) a → K' a w) → if Region.wanted o (yielded ops a.tmps) = true then Oper.wp P o a w K' (Qn Q) else K' (a.put o.dst undef) w) : wpOp P ops (Qn Q) m (fun a w => (b = true → C w) ∧ wpPre P ops C p (fun a => wpTr P ops Q C t a w) a) a w := by
  have h1 := h (fun a w => (b = true → C w) ∧ wpPre P ops C p (fun a => wpTr P ops Q C t a w) a) (fun _ _ h1 h2 => ⟨h1, h2⟩)
  unfold wpOp
  simp only [ho]
  split
  · rename_i hw
    rw [if_pos hw] at h1
    exact .inl h1
  · rename_i hw
    rw [if_neg hw] at h1
    exact h1
theorem wpTr_e {m : Nat} {b : Bool} {p : List (Nat × Bool)} {t : Tr} {a : Act} {w : World} {o : Oper} (ho : ops[m]? = some o)
    (h : ∀ K' : Act → World → Prop, (∀ a w, (b = true → C w) → wpPre P ops C p (fun a => wpTr P ops Q C t a w) a → K' a w) → if Region.wanted o (yielded ops a.tmps) = true then Oper.wp P o a w K' (Qn Q) else K' (a.put o.dst undef) w) : wpTr P ops Q C (.one m b p t) a w := wpTr_op ho h
theorem wpTr_two {m m2 : Nat} {b b2 : Bool} {p p2 : List (Nat × Bool)} {t t2 : Tr} {a : Act} {w : World} {o o2 : Oper} (ho : ops[m]? = some o) (ho2 : ops[m2]? = some o2)
    (h : ∀ K' : Act → World → Prop, (∀ a w, (b = true → C w) → wpPre P ops C p (fun a => wpTr P ops Q C t a w) a → K' a w) → if Region.wanted o (yielded ops a.tmps) = true then Oper.wp P o a w K' (Qn Q) else K' (a.put o.dst undef) w)
    (h2 : ∀ K' : Act → World → Prop, (∀ a w, (b2 = true → C w) → wpPre P ops C p2 (fun a => wpTr P ops Q C t2 a w) a → K' a w) → if Region.wanted o2 (yielded ops a.tmps) = true then Oper.wp P o2 a w K' (Qn Q) else K' (a.put o2.dst undef) w) : wpTr P ops Q C (.two m b p t m2 b2 p2 t2) a w := ⟨wpTr_op ho h, wpTr_op ho2 h2⟩
end
end Go.Proofs.Ytbeibhmbaofjhaa

namespace Go.Proofs.Ytbeibhmbaofjhaa
open Go.RowKit
set_option maxRecDepth 8000
/-- j waits for i, by some way down to i -/
def reachP (ops : Array Oper) : Nat → Nat → Nat → Bool
  | 0, _, _ => false
  | f + 1, j, i => match ops[j]? with
    | none => false
    | some o => o.after.any fun e => Region.binds .any e && (e.on == i || (Nat.blt i e.on && reachP ops f e.on i))
theorem reachP_reachB (ops : Array Oper) : ∀ (f j i : Nat), reachP ops f j i = true → reachB ops f j i = true
  | 0, _, _, h => by cases h
  | f + 1, j, i, h => by
    unfold reachP at h
    unfold reachB
    split at h
    · cases h
    · rename_i o ho
      simp only [ho]
      obtain ⟨e, he, hb⟩ := Array.any_eq_true'.1 h
      simp only [Bool.and_eq_true, Bool.or_eq_true] at hb
      refine Array.any_eq_true'.2 ⟨e, he, ?_⟩
      simp only [Bool.and_eq_true, Bool.or_eq_true]
      exact ⟨hb.1, hb.2.imp_right fun h => reachP_reachB ops f _ _ h.2⟩
def brP (ops : Array Oper) (f : Nat) (pre : List (Nat × Bool)) (m : Nat) (b : Bool) (p : List (Nat × Bool)) (idx : List Nat) : Bool :=
  pre.all (fun x => (apB ops x.1 m && (x.2 || b)) || reachP ops f m x.1) && p.all (fun x => x.2 || b) && pairsB (fun i j => apB ops i j || reachP ops f j i) ((pre ++ p).map (·.1)) && pairsB (fun i j => i != j) (m :: ((pre ++ p).map (·.1) ++ idx))
/-- what changes the world, in one order -/
def trP (ops : Array Oper) (f : Nat) : List (Nat × Bool) → Tr → Bool
  | _, .done => true
  | pre, .one m b p t => brP ops f pre m b p (trIdx t) && (p.map (·.1) ++ trIdx t).all (fun z => reachP ops f z m) && trP ops f (pre ++ p) t
  | _, .two _ _ _ _ _ _ _ _ => false
def calmP (ops : Array Oper) (f : Nat) (pre : List (Nat × Bool)) (t : Tr) : Bool :=
  Region.noSelect ops && acB ops && (List.range ops.size).all (fun j => (pre.map (·.1) ++ trIdx t).contains j) && (pre.map (·.1) ++ trIdx t).all (fun j => decide (j < ops.size)) &&
  pairsB (fun i j => i != j) (pre.map (·.1) ++ trIdx t) && pairsB (fun i j => apB ops i j || reachP ops f j i) (pre.map (·.1)) && trP ops f pre t
theorem pairsB_mono {R R' : Nat → Nat → Bool} (hR : ∀ i j, R i j = true → R' i j = true) : ∀ {l : List Nat}, pairsB R l = true → pairsB R' l = true
  | [], _ => rfl
  | x :: l, h => by
    simp only [pairsB, Bool.and_eq_true, List.all_eq_true] at h ⊢
    exact ⟨fun y hy => hR _ _ (h.1 y hy), pairsB_mono hR h.2⟩
theorem brP_brB {ops : Array Oper} {f : Nat} {pre : List (Nat × Bool)} {m : Nat} {b : Bool} {p : List (Nat × Bool)} {idx : List Nat} (h : brP ops f pre m b p idx = true) : brB ops f pre m b p idx = true := by
  unfold brP at h
  unfold brB
  rw [Bool.and_eq_true, Bool.and_eq_true, Bool.and_eq_true] at h ⊢
  obtain ⟨⟨⟨h1, h2⟩, h3⟩, h4⟩ := h
  refine ⟨⟨⟨?_, h2⟩, pairsB_mono (fun i j hij => ?_) h3⟩, h4⟩
  · rw [List.all_eq_true] at h1 ⊢
    intro x hx
    have := h1 x hx
    rw [Bool.or_eq_true] at this ⊢
    exact this.imp_right (reachP_reachB _ _ _ _)
  · rw [Bool.or_eq_true] at hij ⊢
    exact hij.imp_right (reachP_reachB _ _ _ _)
theorem trP_trB {ops : Array Oper} {f : Nat} : ∀ {t : Tr} {pre : List (Nat × Bool)}, trP ops f pre t = true → trB ops f pre t = true
  | .done, _, _ => rfl
  | .one m b p t, pre, h => by
    rw [trP, Bool.and_eq_true, Bool.and_eq_true] at h
    rw [trB, Bool.and_eq_true, Bool.and_eq_true]
    refine ⟨⟨brP_brB h.1.1, ?_⟩, trP_trB h.2⟩
    have h2 := h.1.2
    rw [List.all_eq_true] at h2 ⊢
    exact fun z hz => reachP_reachB _ _ _ _ (h2 z hz)
  | .two .., _, h => by cases h
theorem calmP_calmE {ops : Array Oper} {f : Nat} {pre : List (Nat × Bool)} {t : Tr} (h : calmP ops f pre t = true) : calmE ops f pre t = true := by
  unfold calmP at h
  unfold calmE
  rw [Bool.and_eq_true, Bool.and_eq_true] at h ⊢
  obtain ⟨⟨h1, h2⟩, h3⟩ := h
  refine ⟨⟨h1, pairsB_mono (fun i j hij => ?_) h2⟩, trP_trB h3⟩
  rw [Bool.or_eq_true] at hij ⊢
  exact hij.imp_right (reachP_reachB _ _ _ _)
section
variable {P : Program} {ops : Array Oper} {Q : Exit → Act → World → Prop}
theorem wp_region_calmP {rid : Nat} {a : Act} {w : World} (f : Nat) (C : World → Prop) (pre : List (Nat × Bool)) (t : Tr) (hm : P.follows .mixedOrders = true) (hB : calmP ops f pre t = true) (hC : C w.drew)
    (h : wpPre P ops C pre (fun a => wpTr P ops Q C t a w.drew) a) : (Code.region rid ops true).wp P Q a w :=
  wp_region_calmE f C pre t hm (calmP_calmE hB) hC h
end
end Go.Proofs.Ytbeibhmbaofjhaa
