import Derived.Test.YtgnamngnmbaeeaaDoorPack8
import Derived.Test.YtgnamngnmbaeeaaDoorLnY
namespace Go.Proofs.YtgnamngnmbaeeaaDoor
open Go.RowKit
set_option maxRecDepth 8000

def PstG (P : Program) (ops : Array Oper) (C : World → Prop) (b : Bool) (p : List (Nat × Bool)) (K : (World → Prop) → Act → World → Prop) (a : Act) (w : World) : Prop :=
  ∃ C' : World → Prop, C' w ∧ (b = true → ∀ v, C' v → C v) ∧ wpPre P ops C' p (fun a => K C' a w) a
def wpTg (P : Program) (ops : Array Oper) (Q : Exit → Act → World → Prop) : Tr → (World → Prop) → Act → World → Prop
  | .done, _, a, w => Q .normal a w
  | .one m b p t, C, a, w => wpOp P ops (Qn Q) m (PstG P ops C b p (wpTg P ops Q t)) a w
  | .two m b p t m2 b2 p2 t2, C, a, w => wpOp P ops (Qn Q) m (PstG P ops C b p (wpTg P ops Q t)) a w ∧ wpOp P ops (Qn Q) m2 (PstG P ops C b2 p2 (wpTg P ops Q t2)) a w
/-- what is asked of one branch -/
def brG (ops : Array Oper) (f : Nat) (pre : List (Nat × Bool)) (m : Nat) (b : Bool) (p : List (Nat × Bool)) (idx : List Nat) : Bool :=
  pre.all (fun x => (apB ops x.1 m && (x.2 || b)) || reachB ops f m x.1) && pairsB (fun i j => apB ops i j || reachB ops f j i) ((pre ++ p).map (·.1)) && pairsB (fun i j => i != j) (m :: ((pre ++ p).map (·.1) ++ idx))
def trG (ops : Array Oper) (f : Nat) : List (Nat × Bool) → Tr → Bool
  | _, .done => true
  | pre, .one m b p t => brG ops f pre m b p (trIdx t) && (p.map (·.1) ++ trIdx t).all (fun z => reachB ops f z m) && trG ops f (pre ++ p) t
  | pre, .two m b p t m2 b2 p2 t2 => brG ops f pre m b p (trIdx t) && brG ops f pre m2 b2 p2 (trIdx t2) && (p.map (·.1) ++ trIdx t).all (fun z => z == m2 || (reachB ops f z m || reachB ops f z m2)) && sameB (m :: (p.map (·.1) ++ trIdx t)) (m2 :: (p2.map (·.1) ++ trIdx t2)) && trG ops f (pre ++ p) t && trG ops f (pre ++ p2) t2
def calmG (ops : Array Oper) (f : Nat) (pre : List (Nat × Bool)) (t : Tr) : Bool :=
  Region.noSelect ops && acB ops && (List.range ops.size).all (fun j => (pre.map (·.1) ++ trIdx t).contains j) && (pre.map (·.1) ++ trIdx t).all (fun j => decide (j < ops.size)) &&
  pairsB (fun i j => i != j) (pre.map (·.1) ++ trIdx t) && pairsB (fun i j => apB ops i j || reachB ops f j i) (pre.map (·.1)) && trG ops f pre t

section
variable {P : Program} {ops : Array Oper} {Q : Exit → Act → World → Prop} {C : World → Prop}
structure CalmG (P : Program) (ops : Array Oper) (Q : Exit → Act → World → Prop) (C : World → Prop) (f : Nat) (D : Nat → Prop) (a : Act) (w : World) (pre' : List (Nat × Bool)) (t : Tr) (P' : List (Nat × Bool)) : Prop where
  sp : pre'.Sublist P'
  pp : (P'.map (·.1)).Pairwise (fun i j => (apB ops i j || reachB ops f j i) = true)
  nd : (P'.map (·.1) ++ trIdx t).Pairwise (fun i j => (i != j) = true)
  sb : trG ops f P' t = true
  mem : ∀ j, (j ∈ pre'.map (·.1) ∨ j ∈ trIdx t) ↔ (j < ops.size ∧ ¬ D j)
  wc : C w ∨ ∀ x ∈ pre', x.2 = true
  cl : ∀ (j : Nat) (o : Oper), ops[j]? = some o → D j → ∀ e ∈ o.after, Region.binds .any e = true → D e.on
  wp : wpPre P ops C pre' (fun a => wpTg P ops Q t C a w) a

theorem wpPre_mono {K K' : Act → Prop} (hm : ∀ a, K a → K' a) : ∀ (p : List (Nat × Bool)) (a : Act), wpPre P ops C p K a → wpPre P ops C p K' a
  | [], a, h => hm a h
  | _ :: p, _, ⟨o, v, ho, hy, h⟩ => ⟨o, v, ho, hy, wpPre_mono hm p _ h⟩
theorem wpPre_ex {X : (World → Prop) → Act → Prop} {A : (World → Prop) → Prop} : ∀ (p : List (Nat × Bool)) (a : Act), wpPre P ops C p (fun a => ∃ C', A C' ∧ X C' a) a → ∃ C', A C' ∧ wpPre P ops C p (X C') a
  | [], _, h => h
  | _ :: p, _, ⟨o, v, ho, hy, h⟩ => by
    obtain ⟨C', h1, h2⟩ := wpPre_ex p _ h
    exact ⟨C', h1, o, v, ho, hy, h2⟩
theorem wpPre_cls {C' : World → Prop} {K : Act → Prop} : ∀ (p : List (Nat × Bool)) (a : Act), ((∀ x ∈ p, x.2 = true) ∨ ∀ v, C' v → C v) → wpPre P ops C p K a → wpPre P ops C' p K a
  | [], _, _, h => h
  | (i, b) :: p, a, hc, ⟨o, v, ho, hy, h⟩ => by
    refine ⟨o, v, ho, ?_, wpPre_cls p _ (hc.imp (fun h x hx => h x (List.mem_cons_of_mem _ hx)) id) h⟩
    refine hy.imp (fun h => ⟨h.1, fun w hw => h.2 w ?_⟩) id
    rcases hc with hc | hc
    · exact .inl (hc (i, b) (by simp))
    · exact hw.imp id (hc w)
theorem branch_stepG {f : Nat} {D : Nat → Prop} {a : Act} {w : World} {p : List (Nat × Bool)} {t : Tr} {P' : List (Nat × Bool)} {i : Nat} {o : Oper} {b : Bool} {q : List (Nat × Bool)} {t' : Tr} (hsel : Region.noSelect ops = true)
    (hk : CalmG P ops Q C f D a w p t P') (ho : ops[i]? = some o) (hnot : ∀ x, (x ∈ p.map (·.1) ∨ x ∈ trIdx t) → reachB ops f i x = true → False)
    (hcl' : ∀ (j : Nat) (o : Oper), ops[j]? = some o → (D j ∨ j = i) → ∀ e ∈ o.after, Region.binds .any e = true → (D e.on ∨ e.on = i))
    (hbr : brG ops f P' i b q (trIdx t') = true) (hidx : ∀ j, j ∈ trIdx t ↔ j ∈ i :: (q.map (·.1) ++ trIdx t')) (hsb : trG ops f (P' ++ q) t' = true)
    (hwp : wpPre P ops C p (fun a => wpOp P ops (Qn Q) i (PstG P ops C b q (wpTg P ops Q t')) a w) a) :
    wpOp P ops Q i (fun a w => ∃ C pre' t P', CalmG P ops Q C f (fun j => D j ∨ j = i) a w pre' t P') a w := by
  simp only [brG, Bool.and_eq_true, List.all_eq_true] at hbr
  obtain ⟨⟨hb1, hb5⟩, hb6⟩ := hbr
  have hb5 := pairsB_spec hb5
  have hb6 := pairsB_spec hb6
  have hboth : ∀ x ∈ p, apB ops x.1 i = true ∧ (x.2 = true ∨ b = true) := by
    intro x hx
    have h1 := hb1 x (hk.sp.subset hx)
    simp only [Bool.or_eq_true, Bool.and_eq_true] at h1
    rcases h1 with h1 | h1
    · exact h1
    · exact (hnot x.1 (.inl (List.mem_map_of_mem hx)) h1).elim
  have h1 := wpOp_Qn (wpPre_past (w := w) (Q := Q) hsel ho _ p a (fun x hx => (hboth x hx).1) hwp)
  refine wpOp_mono (fun a' w' h2 => ?_) h1
  obtain ⟨C', h3, h4⟩ := wpPre_ex (A := fun C' => C' w' ∧ (b = true → ∀ v, C' v → C v)) (X := fun C' a => wpPre P ops C' q (fun a => wpTg P ops Q t' C' a w') a) p a' (by
    refine wpPre_mono (fun a h => ?_) p a' h2
    obtain ⟨C', g1, g2, g3⟩ := h
    exact ⟨C', ⟨g1, g2⟩, g3⟩)
  have h4 := wpPre_cls (C' := C') p a' (by
    by_cases hb : b = true
    · exact .inr (h3.2 hb)
    · exact .inl fun x hx => (hboth x hx).2.resolve_right hb) h4
  rw [List.pairwise_cons] at hb6
  have hni : ∀ j, j ∈ (p ++ q).map (·.1) ∨ j ∈ trIdx t' → j ≠ i := by
    intro j hj
    have h5 : j ∈ (P' ++ q).map (·.1) ++ trIdx t' := by
      rcases hj with hj | hj
      · exact List.mem_append.2 (.inl (((hk.sp.append (.refl q)).map _).subset hj))
      · exact List.mem_append.2 (.inr hj)
    have := hb6.1 j h5
    exact fun e => by subst e; simp at this
  refine ⟨C', p ++ q, t', P' ++ q, hk.sp.append (.refl _), hb5, hb6.2, hsb, fun j => ?_, .inl h3.1, hcl', wpPre_app _ p q a' h4⟩
  · constructor
    · intro hj
      have h5 := (hk.mem j).1 (by
        rw [hidx]
        rw [List.map_append, List.mem_append] at hj
        rcases hj with (hj | hj) | hj
        · exact .inl hj
        · exact .inr (List.mem_cons_of_mem _ (List.mem_append.2 (.inl hj)))
        · exact .inr (List.mem_cons_of_mem _ (List.mem_append.2 (.inr hj))))
      exact ⟨h5.1, fun h6 => h6.elim h5.2 (hni j hj)⟩
    · rintro ⟨h5, h6⟩
      have h7 := (hk.mem j).2 ⟨h5, fun h8 => h6 (.inl h8)⟩
      rw [hidx] at h7
      rw [List.map_append, List.mem_append]
      rcases h7 with h7 | h7
      · exact .inl (.inl h7)
      · rcases List.mem_cons.1 h7 with h7 | h7
        · exact absurd (.inr h7) h6
        · rcases List.mem_append.1 h7 with h7 | h7
          · exact .inl (.inr h7)
          · exact .inr h7
theorem wpPre_leftG {A B : Act → Prop} : ∀ (p : List (Nat × Bool)) (a : Act), wpPre P ops C p (fun a => A a ∧ B a) a → wpPre P ops C p A a ∧ wpPre P ops C p B a
  | [], _, h => h
  | _ :: p, _, ⟨o, v, ho, hy, h⟩ => ⟨⟨o, v, ho, hy, (wpPre_leftG p _ h).1⟩, o, v, ho, hy, (wpPre_leftG p _ h).2⟩

theorem wp_region_calmG {rid : Nat} {a : Act} {w : World} (f : Nat) (C : World → Prop) (pre : List (Nat × Bool)) (t : Tr) (hm : P.follows .mixedOrders = true) (hB : calmG ops f pre t = true) (hC : C w.drew)
    (h : wpPre P ops C pre (fun a => wpTg P ops Q t C a w.drew) a) : (Code.region rid ops true).wp P Q a w := by
  simp only [calmG, Bool.and_eq_true] at hB
  obtain ⟨⟨⟨⟨⟨⟨hsel, hac⟩, hcov⟩, hlt⟩, hnd⟩, hpp⟩, hsb⟩ := hB
  have hnd := pairsB_spec hnd
  have hpp := pairsB_spec hpp
  simp only [List.all_eq_true] at hcov hlt
  refine wp_region_inv hm (fun D a w => ∃ C pre' t P', CalmG P ops Q C f D a w pre' t P') ?_ hac ?_ ?_ ?_
  · rintro D D' a w hD ⟨C, p, s, r, hk⟩
    have e : D = D' := funext fun j => propext (hD j)
    subst e
    exact ⟨C, p, s, r, hk⟩
  · intro D hD
    refine ⟨C, pre, t, pre, .refl _, hpp, hnd, hsb, fun j => ⟨fun hj => ⟨?_, hD j⟩, fun hj => ?_⟩, .inl hC, fun j o _ hj => absurd hj (hD j), h⟩
    · exact of_decide_eq_true (hlt j (List.mem_append.2 hj))
    · exact List.mem_append.1 (List.contains_iff_mem.1 (hcov j (List.mem_range.2 hj.1)))
  · rintro D a w ⟨C, p, s, P', hk⟩ i o ho hnD hdep
    have hil : i < ops.size := (Array.getElem?_eq_some_iff.1 ho).1
    have hnot : ∀ x, (x ∈ p.map (·.1) ∨ x ∈ trIdx s) → reachB ops f i x = true → False := fun x hx hr =>
      ((hk.mem x).1 hx).2 (reach_done hk.cl f i x hr (fun o' ho' => by obtain rfl := Option.some.inj (ho.symm.trans ho'); exact hdep))
    have hcl' : ∀ (j : Nat) (o : Oper), ops[j]? = some o → (D j ∨ j = i) → ∀ e ∈ o.after, Region.binds .any e = true → (D e.on ∨ e.on = i) := by
      intro j o' ho' hj e he hb
      rcases hj with hj | rfl
      · exact .inl (hk.cl j o' ho' hj e he hb)
      · obtain rfl := Option.some.inj (ho.symm.trans ho')
        exact .inl (hdep e he hb)
    rcases (hk.mem i).2 ⟨hil, hnD⟩ with hi | hi
    · obtain ⟨⟨i0, b⟩, hx, hx0⟩ := List.mem_map.1 hi
      obtain rfl : i0 = i := hx0
      obtain ⟨l1, l2, rfl⟩ := List.append_of_mem hx
      have hap : ∀ x ∈ l1, apB ops x.1 i0 = true := by
        intro x hx
        have h1 := hk.pp.sublist (hk.sp.map (·.1))
        rw [List.map_append, List.map_cons, List.pairwise_append] at h1
        have h2 := h1.2.2 x.1 (List.mem_map_of_mem hx) i0 (by simp)
        simp only [Bool.or_eq_true] at h2
        rcases h2 with h2 | h2
        · exact h2
        · exact (hnot x.1 (.inl (by rw [List.map_append, List.mem_append]; exact .inl (List.mem_map_of_mem hx))) h2).elim
      obtain ⟨oi, v, hoi, hy, h'⟩ := wpPre_move hsel i0 b l2 _ l1 a hap hk.wp
      obtain rfl := Option.some.inj (ho.symm.trans hoi)
      have hcw : cls C b w := by
        rcases hk.wc with h1 | h1
        · exact .inr h1
        · exact .inl (h1 (i0, b) (by simp))
      have hsub : (l1 ++ l2).Sublist (l1 ++ (i0, b) :: l2) := List.Sublist.append_left (List.sublist_cons_self _ _) l1
      have hni : ∀ j, j ∈ (l1 ++ l2).map (·.1) ∨ j ∈ trIdx s → j ≠ i0 := by
        intro j hj
        have hnd' := hk.nd.sublist ((hk.sp.map (·.1)).append (.refl (trIdx s)))
        rw [List.map_append, List.map_cons, List.append_assoc, List.pairwise_append] at hnd'
        obtain ⟨-, h2, h3⟩ := hnd'
        rw [List.cons_append, List.pairwise_cons] at h2
        rw [List.map_append, List.mem_append] at hj
        rcases hj with (hj | hj) | hj
        · have := h3 j hj i0 (by simp); simpa using this
        · have := h2.1 j (List.mem_append.2 (.inl hj)); exact fun e => by subst e; simp at this
        · have := h2.1 j (List.mem_append.2 (.inr hj)); exact fun e => by subst e; simp at this
      have hnew : CalmG P ops Q C f (fun j => D j ∨ j = i0) (a.put o.dst v) w (l1 ++ l2) s P' := by
        refine ⟨hsub.trans hk.sp, hk.pp, hk.nd, hk.sb, fun j => ?_, hk.wc.imp id (fun h1 x hx => h1 x (hsub.subset hx)), hcl', h'⟩
        constructor
        · intro hj
          have h1 := (hk.mem j).1 (by rcases hj with hj | hj
                                      · left; exact (hsub.map _).subset hj
                                      · exact .inr hj)
          exact ⟨h1.1, fun h2 => h2.elim h1.2 (hni j hj)⟩
        · rintro ⟨h1, h2⟩
          have h3 := (hk.mem j).2 ⟨h1, fun h4 => h2 (.inl h4)⟩
          rcases h3 with h3 | h3
          · left
            rw [List.map_append, List.mem_append] at h3 ⊢
            rw [List.map_cons, List.mem_cons] at h3
            rcases h3 with h3 | h3 | h3
            · exact .inl h3
            · exact absurd (.inr h3) h2
            · exact .inr h3
          · exact .inr h3
      unfold wpOp
      simp only [ho]
      rcases hy with ⟨hw, hv⟩ | ⟨hw, rfl⟩
      · rw [if_pos hw]
        left
        unfold Oper.wp
        rw [hv w hcw]
        exact ⟨_, _, _, _, hnew⟩
      · rw [if_neg (by rw [hw]; simp)]
        exact ⟨_, _, _, _, hnew⟩
    · cases s with
      | done => cases hi
      | one m b q r =>
        have hsb' := hk.sb
        simp only [trG, Bool.and_eq_true, List.all_eq_true] at hsb'
        obtain ⟨⟨hb1, hb2⟩, hb3⟩ := hsb'
        have him : i = m := by
          rcases List.mem_cons.1 hi with h1 | h1
          · exact h1
          · exact (hnot m (.inr (by simp [trIdx])) (hb2 i h1)).elim
        subst him
        exact branch_stepG hsel hk ho hnot hcl' hb1 (fun j => Iff.rfl) hb3 hk.wp
      | two m b q r m2 b2 q2 r2 =>
        have hsb' := hk.sb
        simp only [trG, Bool.and_eq_true, List.all_eq_true] at hsb'
        obtain ⟨⟨⟨⟨⟨hb1, hb2⟩, hb3⟩, hb4⟩, hb5⟩, hb6⟩ := hsb'
        have hm2 : m2 ∈ trIdx (.two m b q r m2 b2 q2 r2) := (sameB_spec hb4 m2).2 (by simp)
        have hwp := wpPre_leftG p a hk.wp
        have him : i = m ∨ i = m2 := by
          rcases List.mem_cons.1 hi with h1 | h1
          · exact .inl h1
          · have h2 := hb3 i h1
            simp only [Bool.or_eq_true, beq_iff_eq] at h2
            rcases h2 with h2 | h2 | h2
            · exact .inr h2
            · exact (hnot m (.inr (by simp [trIdx])) h2).elim
            · exact (hnot m2 (.inr hm2) h2).elim
        rcases him with him | him
        · subst him
          exact branch_stepG hsel hk ho hnot hcl' hb1 (fun j => Iff.rfl) hb5 hwp.1
        · subst him
          exact branch_stepG hsel hk ho hnot hcl' hb2 (fun j => sameB_spec hb4 j) hb6 hwp.2
  · rintro D a w ⟨C, p, s, P', hk⟩ hall
    have hp : p = [] := by
      cases p with
      | nil => rfl
      | cons x p => have h1 := (hk.mem x.1).1 (.inl (by simp)); exact absurd (hall _ h1.1) h1.2
    have hs : s = .done := by
      cases s with
      | done => rfl
      | one m b q r => have h1 := (hk.mem m).1 (.inr (by simp [trIdx])); exact absurd (hall _ h1.1) h1.2
      | two m b q r _ _ _ _ => have h1 := (hk.mem m).1 (.inr (by simp [trIdx])); exact absurd (hall _ h1.1) h1.2
    subst hp
    subst hs
    exact hk.wp
theorem wpTg_done {a : Act} {w : World} (h : Q .normal a w) : wpTg P ops Q .done C a w := h
theorem wpTg_op {m : Nat} {b : Bool} {p : List (Nat × Bool)} {t : Tr} {a : Act} {w : World} {o : Oper} (ho : ops[m]? = some o)
    (h : ∀ K' : Act → World → Prop, (∀ a w (C' : World → Prop), C' w → (b = true → ∀ v, C' v → C v) → wpPre P ops C' p (fun a => wpTg P ops Q t C' a w) a → K' a w) → if Region.wanted o (yielded ops a.tmps) = true then Oper.wp P o a w K' (Qn Q) else K' (a.put o.dst undef) w) : wpOp P ops (Qn Q) m (PstG P ops C b p (wpTg P ops Q t)) a w := by
  have h1 := h (PstG P ops C b p (wpTg P ops Q t)) (fun _ _ C' h1 h2 h3 => ⟨C', h1, h2, h3⟩)
  unfold wpOp
  simp only [ho]
  split
  · rename_i hw
    rw [if_pos hw] at h1
    exact .inl h1
  · rename_i hw
    rw [if_neg hw] at h1
    exact h1
theorem wpTg_e {m : Nat} {b : Bool} {p : List (Nat × Bool)} {t : Tr} {a : Act} {w : World} {o : Oper} (ho : ops[m]? = some o)
    (h : ∀ K' : Act → World → Prop, (∀ a w (C' : World → Prop), C' w → (b = true → ∀ v, C' v → C v) → wpPre P ops C' p (fun a => wpTg P ops Q t C' a w) a → K' a w) → if Region.wanted o (yielded ops a.tmps) = true then Oper.wp P o a w K' (Qn Q) else K' (a.put o.dst undef) w) : wpTg P ops Q (.one m b p t) C a w := wpTg_op ho h
end
end Go.Proofs.YtgnamngnmbaeeaaDoor

namespace Go.Proofs.YtgnamngnmbaeeaaDoor
open Go.RowKit
set_option maxRecDepth 8000
/-- bytes that are written out in a text -/
theorem bs_lit (w : World) (zs : List Int) (hb : ∀ z ∈ zs, 0 ≤ z ∧ z < 256) (hl : zs.length ≤ 100) : BS.In (w.alloc (.cells (zs.map (Value.int .u8)).toArray 5)) (fun k => w.heap.size ≤ k) ⟨some ⟨w.heap.size, 0, none⟩, zs.length, zs⟩ := by
  have hX : Box (w.alloc (.cells (zs.map (Value.int .u8)).toArray 5)) w.heap.size (zs.map (Value.int .u8)).toArray 5 := Box.new _ _ _
  refine ⟨fun _ => ⟨w.heap.size, 0, rfl, Nat.le_refl _, hX.lt, fun j hj => ?_⟩, Nat.le_refl _, by show zs.length ≤ _; omega, by show zs.length ≤ maxLen; unfold maxLen; omega, fun j hj => ?_, fun h => by cases h⟩
  · have hj' : j < zs.length := hj
    rw [hX.cell, Nat.zero_add, List.getElem?_toArray, List.getElem?_map, List.getElem?_eq_getElem hj', List.getD_eq_getElem?_getD, List.getElem?_eq_getElem hj']; rfl
  · have hj' : j < zs.length := hj
    rw [List.getD_eq_getElem?_getD, List.getElem?_eq_getElem hj', Option.getD_some]
    exact hb _ (List.getElem_mem hj')
/-- one more list in what was put -/
theorem LX.putrow {w w1 V w2 : World} {C C1 : Nat → Nat} {c lb sb rb : Nat} {dv nv bv pv wv v' : Value} {D N P : List BS} {S : LS} (h : LX w C c lb sb rb dv nv bv pv wv D N P S w1 C1) {y : BS} (hb : Below w1.heap.size w1 V) (hy : y.In V (fun k => w1.heap.size ≤ k))
    (hr : RowQ w2 v' (P.map BS.val ++ [y.val])) (hg : V.grownBy w2 pv.ownBlock) (hn : Near V pv v') :
    (∃ p c', v' = .slice p (P.length + 1) c') ∧ w2.frozen? ⟨lb, 5, none⟩ = false ∧ w2.cell? ⟨lb, 5, none⟩ = some pv ∧ lb < w2.heap.size ∧
      LX w C c lb sb rb dv nv bv v' wv D N (P ++ [y]) { S with P := S.P ++ [y.zs] } (w2.setCell ⟨lb, 5, none⟩ v') (upC w1 C1 (c + 5)) := by
  have hm := h.m
  have hRow := hm.p.below hb fun _ _ h => h
  have hs := hb.size
  have hpush := hRow.push (x := y) hr hg hn (hy.mono fun k hk hl => by
    have hk' : w1.heap.size ≤ k := hk
    exact ⟨fun e => by have := e.1; omega, fun e => by have := (hm.p.row.lt e).1; omega⟩) (fun k hk => by have := hk.1; omega)
  obtain ⟨p4, c4, hv4⟩ := hpush.slice
  rw [List.length_append] at hv4
  have hX4 := (hm.bx.below hb).but (But.grow hg) (fun e => hm.p.z lb e ⟨hm.bx.lt, by rw [hm.cl]; omega⟩)
  have hbt : But (fun k => k = lb) w2 (w2.setCell ⟨lb, 5, none⟩ v') := (But.one _ _).setAt _ _
  have hX5 := hX4.set 5 v'
  have hR5 : Rw (w2.setCell ⟨lb, 5, none⟩ v') (Zc w1 C1 (c + 5)) v' (P ++ [y]) :=
    hpush.but (hbt.mono fun k _ e => by rw [show k = lb from e]; exact ⟨hm.bx.lt, by rw [hm.cl]; omega⟩) fun _ _ h => h
  obtain ⟨p1, p2, p3, p4'⟩ := hm.pts (l' := S.P ++ [y.zs]) hX5 hR5 (by rw [List.map_append, hm.hp]; rfl)
    (((But.ofBelow hb).trans ((But.grow hg).mono fun k _ e => .inr (hm.p.z k e))).trans (hbt.mono fun k _ e => .inl e))
  exact ⟨⟨p4, c4, hv4⟩, hX4.frozen 5, by rw [hX4.cell]; rfl, hX4.lt, h.on p1 p2 p3 p4'⟩
/-- a message is put, pure -/
def putS (S : LS) (z : List Int) : LS := { S with A := { S.A with q := S.A.q ++ [z] }, P := S.P ++ [z] }
theorem Inv.puts {S : LS} (h : Inv S) {z : List Int} (hz : z.length ≤ 4096) (hb : ∀ u ∈ z, 0 ≤ u ∧ u < 256) : Inv (putS S z) := h.put hz hb
end Go.Proofs.YtgnamngnmbaeeaaDoor
