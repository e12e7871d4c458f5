import Derived.Test.YtbkikbhodgjijaaRgE
import Derived.RangeFuncCalls
import Derived.OwnWalkIn
import Derived.OrdersIn
namespace Go.Proofs.Ytbkikbhodgjijaa
open Go.RowKit
set_option maxRecDepth 8000
theorem any_region_inv {P : Program} {ops : Array Oper} {Q : Exit → Act → World → Prop} {a : Act} {w : World} (I : (Nat → Prop) → Act → World → Prop)
    (hext : ∀ D D' a w, (∀ j, D j ↔ D' j) → I D a w → I D' a w)
    (hac : acB ops = true)
    (h0 : ∀ D, (∀ j, ¬ D j) → I D a w.drew)
    (hstep : ∀ D a w, I D a w → ∀ (i : Nat) (o : Oper), ops[i]? = some o → ¬ D i → (∀ e ∈ o.after, Region.binds .any e = true → D e.on) → wpOp P ops Q i (I fun j => D j ∨ j = i) a w)
    (hend : ∀ D a w, I D a w → (∀ i, i < ops.size → D i) → Q .normal a w) : wpAny P .any ops Q ops.size (Array.replicate ops.size false) a w.drew := by
  refine wpAny_inv I hext (acB_spec hac) hstep hend ops.size _ a _ (by simp) ?_ (h0 _ ?_)
  · rw [Array.toList_replicate, unl_replicate]
    exact Nat.le_refl _
  · intro j h
    rw [Array.getElem?_replicate] at h
    split at h <;> simp at h
section
variable {P : Program} {ops : Array Oper} {Q : Exit → Act → World → Prop} {C : World → Prop}
theorem any_region_calmE {a : Act} {w : World} (f : Nat) (C : World → Prop) (pre : List (Nat × Bool)) (t : Tr) (hB : calmE ops f pre t = true) (hC : C w.drew)
    (h : wpPre P ops C pre (fun a => wpTr P ops Q C t a w.drew) a) : wpAny P .any ops Q ops.size (Array.replicate ops.size false) a w.drew := by
  simp only [calmE, Bool.and_eq_true] at hB
  obtain ⟨⟨⟨⟨⟨⟨hsel, hac⟩, hcov⟩, hlt⟩, hnd⟩, hpp⟩, hsb⟩ := hB
  have hnd := pairsB_spec hnd
  have hpp := pairsB_spec hpp
  simp only [List.all_eq_true] at hcov hlt
  refine any_region_inv (fun D a w => ∃ pre' t P', CalmE P ops Q C f D a w pre' t P') ?_ hac ?_ ?_ ?_
  · rintro D D' a w hD ⟨p, s, r, hk⟩
    have e : D = D' := funext fun j => propext (hD j)
    subst e
    exact ⟨p, s, r, hk⟩
  · intro D hD
    refine ⟨pre, t, pre, .refl _, hpp, hnd, hsb, fun j => ⟨fun hj => ⟨?_, hD j⟩, fun hj => ?_⟩, .inl hC, fun j o _ hj => absurd hj (hD j), h⟩
    · exact of_decide_eq_true (hlt j (List.mem_append.2 hj))
    · exact List.mem_append.1 (List.contains_iff_mem.1 (hcov j (List.mem_range.2 hj.1)))
  · rintro D a w ⟨p, s, P', hk⟩ i o ho hnD hdep
    have hil : i < ops.size := (Array.getElem?_eq_some_iff.1 ho).1
    have hnot : ∀ x, (x ∈ p.map (·.1) ∨ x ∈ trIdx s) → reachB ops f i x = true → False := fun x hx hr =>
      ((hk.mem x).1 hx).2 (reach_done hk.cl f i x hr (fun o' ho' => by obtain rfl := Option.some.inj (ho.symm.trans ho'); exact hdep))
    have hcl' : ∀ (j : Nat) (o : Oper), ops[j]? = some o → (D j ∨ j = i) → ∀ e ∈ o.after, Region.binds .any e = true → (D e.on ∨ e.on = i) := by
      intro j o' ho' hj e he hb
      rcases hj with hj | rfl
      · exact .inl (hk.cl j o' ho' hj e he hb)
      · obtain rfl := Option.some.inj (ho.symm.trans ho')
        exact .inl (hdep e he hb)
    rcases (hk.mem i).2 ⟨hil, hnD⟩ with hi | hi
    · obtain ⟨⟨i0, b⟩, hx, hx0⟩ := List.mem_map.1 hi
      obtain rfl : i0 = i := hx0
      obtain ⟨l1, l2, rfl⟩ := List.append_of_mem hx
      have hap : ∀ x ∈ l1, apB ops x.1 i0 = true := by
        intro x hx
        have h1 := hk.pp.sublist (hk.sp.map (·.1))
        rw [List.map_append, List.map_cons, List.pairwise_append] at h1
        have h2 := h1.2.2 x.1 (List.mem_map_of_mem hx) i0 (by simp)
        simp only [Bool.or_eq_true] at h2
        rcases h2 with h2 | h2
        · exact h2
        · exact (hnot x.1 (.inl (by rw [List.map_append, List.mem_append]; exact .inl (List.mem_map_of_mem hx))) h2).elim
      obtain ⟨oi, v, hoi, hy, h'⟩ := wpPre_move hsel i0 b l2 _ l1 a hap hk.wp
      obtain rfl := Option.some.inj (ho.symm.trans hoi)
      have hcw : cls C b w := by
        rcases hk.wc with h1 | h1
        · exact .inr h1
        · exact .inl (h1 (i0, b) (by simp))
      have hsub : (l1 ++ l2).Sublist (l1 ++ (i0, b) :: l2) := List.Sublist.append_left (List.sublist_cons_self _ _) l1
      have hni : ∀ j, j ∈ (l1 ++ l2).map (·.1) ∨ j ∈ trIdx s → j ≠ i0 := by
        intro j hj
        have hnd' := hk.nd.sublist ((hk.sp.map (·.1)).append (.refl (trIdx s)))
        rw [List.map_append, List.map_cons, List.append_assoc, List.pairwise_append] at hnd'
        obtain ⟨-, h2, h3⟩ := hnd'
        rw [List.cons_append, List.pairwise_cons] at h2
        rw [List.map_append, List.mem_append] at hj
        rcases hj with (hj | hj) | hj
        · have := h3 j hj i0 (by simp); simpa using this
        · have := h2.1 j (List.mem_append.2 (.inl hj)); exact fun e => by subst e; simp at this
        · have := h2.1 j (List.mem_append.2 (.inr hj)); exact fun e => by subst e; simp at this
      have hnew : CalmE P ops Q C f (fun j => D j ∨ j = i0) (a.put o.dst v) w (l1 ++ l2) s P' := by
        refine ⟨hsub.trans hk.sp, hk.pp, hk.nd, hk.sb, fun j => ?_, hk.wc.imp id (fun h1 x hx => h1 x (hsub.subset hx)), hcl', h'⟩
        constructor
        · intro hj
          have h1 := (hk.mem j).1 (by rcases hj with hj | hj
                                      · left; exact (hsub.map _).subset hj
                                      · exact .inr hj)
          exact ⟨h1.1, fun h2 => h2.elim h1.2 (hni j hj)⟩
        · rintro ⟨h1, h2⟩
          have h3 := (hk.mem j).2 ⟨h1, fun h4 => h2 (.inl h4)⟩
          rcases h3 with h3 | h3
          · left
            rw [List.map_append, List.mem_append] at h3 ⊢
            rw [List.map_cons, List.mem_cons] at h3
            rcases h3 with h3 | h3 | h3
            · exact .inl h3
            · exact absurd (.inr h3) h2
            · exact .inr h3
          · exact .inr h3
      unfold wpOp
      simp only [ho]
      rcases hy with ⟨hw, hv⟩ | ⟨hw, rfl⟩
      · rw [if_pos hw]
        left
        unfold Oper.wp
        rw [hv w hcw]
        exact ⟨_, _, _, hnew⟩
      · rw [if_neg (by rw [hw]; simp)]
        exact ⟨_, _, _, hnew⟩
    · cases s with
      | done => cases hi
      | one m b q r =>
        have hsb' := hk.sb
        simp only [trB, Bool.and_eq_true, List.all_eq_true] at hsb'
        obtain ⟨⟨hb1, hb2⟩, hb3⟩ := hsb'
        have him : i = m := by
          rcases List.mem_cons.1 hi with h1 | h1
          · exact h1
          · exact (hnot m (.inr (by simp [trIdx])) (hb2 i h1)).elim
        subst him
        exact branch_step hsel hk ho hnot hcl' hb1 (fun j => Iff.rfl) hb3 hk.wp
      | two m b q r m2 b2 q2 r2 =>
        have hsb' := hk.sb
        simp only [trB, Bool.and_eq_true, List.all_eq_true] at hsb'
        obtain ⟨⟨⟨⟨⟨hb1, hb2⟩, hb3⟩, hb4⟩, hb5⟩, hb6⟩ := hsb'
        have hm2 : m2 ∈ trIdx (.two m b q r m2 b2 q2 r2) := (sameB_spec hb4 m2).2 (by simp)
        have hwp := wpPre_left p a hk.wp
        have him : i = m ∨ i = m2 := by
          rcases List.mem_cons.1 hi with h1 | h1
          · exact .inl h1
          · have h2 := hb3 i h1
            simp only [Bool.or_eq_true, beq_iff_eq] at h2
            rcases h2 with h2 | h2 | h2
            · exact .inr h2
            · exact (hnot m (.inr (by simp [trIdx])) h2).elim
            · exact (hnot m2 (.inr hm2) h2).elim
        rcases him with him | him
        · subst him
          exact branch_step hsel hk ho hnot hcl' hb1 (fun j => Iff.rfl) hb5 hwp.1
        · subst him
          exact branch_step hsel hk ho hnot hcl' hb2 (fun j => sameB_spec hb4 j) hb6 hwp.2
  · rintro D a w ⟨p, s, P', hk⟩ hall
    have hp : p = [] := by
      cases p with
      | nil => rfl
      | cons x p => have h1 := (hk.mem x.1).1 (.inl (by simp)); exact absurd (hall _ h1.1) h1.2
    have hs : s = .done := by
      cases s with
      | done => rfl
      | one m b q r => have h1 := (hk.mem m).1 (.inr (by simp [trIdx])); exact absurd (hall _ h1.1) h1.2
      | two m b q r _ _ _ _ => have h1 := (hk.mem m).1 (.inr (by simp [trIdx])); exact absurd (hall _ h1.1) h1.2
    subst hp
    subst hs
    exact hk.wp
/-- no operation defers -/
def noDef (ops : Array Oper) : Bool := ops.all fun o => match o.op with | .defer _ => false | _ => true
theorem wpOp_in (l n : Nat) {i : Nat} {K K' : Act → World → Prop} {a : Act} {w : World} (hd : noDef ops = true) (h : wpOp P ops (Qn Q) i K a w) (hK : ∀ a w, K a w → K' a w) : wpOpIn (Fence.wide.inRound l) n P ops Q i K' a w := by
  unfold wpOp at h
  unfold wpOpIn
  split
  · rename_i ho
    simp only [ho] at h
    exact hK _ _ h
  · rename_i o ho
    simp only [ho] at h
    have hnd : ∀ c, o.op ≠ .defer c := by
      intro c hc
      unfold noDef at hd
      rw [Array.all_eq_true] at hd
      obtain ⟨hi, hio⟩ := Array.getElem?_eq_some_iff.1 ho
      have := hd i hi
      rw [hio, hc] at this
      cases this
    split
    · rename_i hw
      rw [if_pos hw] at h
      rcases h with h | ⟨_, h⟩
      · unfold Oper.wp at h
        unfold Oper.wpIn
        refine ⟨fun _ _ => trivial, ?_⟩
        rw [Oper.semAt_plain _ _ _ hnd]
        generalize (execOp a.eval o).run P w = r at h
        cases r with
        | ok x w' =>
          cases x with
          | value v => exact hK _ _ h
          | skip => exact hK _ _ h
          | defer d => exact hK _ _ h
          | enter f args =>
            refine ⟨fun h => (by cases h), CallsIn.inRound l (callsIn_wide.2 (Calls.mono h ?_))⟩
            intro e w'' he
            cases e with
            | returned v => exact hK _ _ he
            | panicked c => exact (by cases he.1)
            | outgrown => exact absurd he Qn_out
          | row r args =>
            refine ⟨fun h => (by cases h), fun c cs _ => ?_⟩
            obtain ⟨v, w2, h1, h2⟩ := h c cs
            exact ⟨v, w2, hK _ _ h1, stepsIn_wide.2 h2⟩
          | _ => exact h.elim
        | halt x w' =>
          cases x with
          | panic v => exact (by cases h.1)
          | _ => exact h.elim
      · exact absurd h Qn_out
    · rename_i hw
      rw [if_neg hw] at h
      exact ⟨fun _ _ => trivial, hK _ _ h⟩
theorem wpAny_in (l n : Nat) (hd : noDef ops = true) : ∀ (fuel : Nat) (listed : Array Bool) (a : Act) (w : World), wpAny P .any ops (Qn Q) fuel listed a w → wpAnyIn (Fence.wide.inRound l) n P .any ops Q fuel listed a w := by
  intro fuel
  induction fuel with
  | zero => intro listed a w h; exact ⟨h.1, h.2.2⟩
  | succ fuel ih =>
    intro listed a w h
    exact ⟨fun e => (h.1 e).2, fun i hi => wpOp_in l n hd (h.2 i hi) fun a w hk => ih _ a w hk⟩
/-- a region that draws, in a round -/
theorem wpIn_region_calmE {rid : Nat} {a : Act} {w : World} (l n : Nat) (f : Nat) (C : World → Prop) (pre : List (Nat × Bool)) (t : Tr) (hm : P.follows .mixedOrders = true) (hd : noDef ops = true) (hB : calmE ops f pre t = true) (hC : C w.drew)
    (h : wpPre P ops C pre (fun a => wpTr P ops (Qn Q) C t a w.drew) a) : (Code.region rid ops true).wpIn (Fence.wide.inRound l) n P Q a w :=
  wpIn_region_any hm (wpAny_in l n hd _ _ _ _ (any_region_calmE f C pre t hB hC h))
end
end Go.Proofs.Ytbkikbhodgjijaa
