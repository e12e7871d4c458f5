import Derived.Test.YtikfpoabaaiegaaPack20
import Derived.Test.YtikfpoabaaiegaaPack3
import Derived.Test.YtikfpoabaaiegaaPack1
import Derived.Test.YtikfpoabaaiegaaDecP
import Derived.Test.YtikfpoabaaiegaaPack0
namespace Go.Proofs.Ytikfpoabaaiegaa
open Go.RowKit
set_option maxRecDepth 8000

inductive Tr where
  | done : Tr
  | one (m : Nat) (b : Bool) (p : List (Nat × Bool)) (t : Tr) : Tr
  | two (m1 : Nat) (b1 : Bool) (p1 : List (Nat × Bool)) (t1 : Tr) (m2 : Nat) (b2 : Bool) (p2 : List (Nat × Bool)) (t2 : Tr) : Tr
def trIdx : Tr → List Nat
  | .done => []
  | .one m _ p t => m :: (p.map (·.1) ++ trIdx t)
  | .two m _ p t _ _ _ _ => m :: (p.map (·.1) ++ trIdx t)
def wpTr (P : Program) (ops : Array Oper) (Q : Exit → Act → World → Prop) (C : World → Prop) : Tr → Act → World → Prop
  | .done, a, w => Q .normal a w
  | .one m b p t, a, w => wpOp P ops (Qn Q) m (fun a w => (b = true → C w) ∧ wpPre P ops C p (fun a => wpTr P ops Q C t a w) a) a w
  | .two m b p t m2 b2 p2 t2, a, w => wpOp P ops (Qn Q) m (fun a w => (b = true → C w) ∧ wpPre P ops C p (fun a => wpTr P ops Q C t a w) a) a w ∧ wpOp P ops (Qn Q) m2 (fun a w => (b2 = true → C w) ∧ wpPre P ops C p2 (fun a => wpTr P ops Q C t2 a w) a) a w
def brB (ops : Array Oper) (f : Nat) (pre : List (Nat × Bool)) (m : Nat) (b : Bool) (p : List (Nat × Bool)) (idx : List Nat) : Bool :=
  pre.all (fun x => (apB ops x.1 m && (x.2 || b)) || reachB ops f m x.1) && p.all (fun x => x.2 || b) && pairsB (fun i j => apB ops i j || reachB ops f j i) ((pre ++ p).map (·.1)) && pairsB (fun i j => i != j) (m :: ((pre ++ p).map (·.1) ++ idx))
def sameB (l k : List Nat) : Bool := l.all (fun x => k.contains x) && k.all (fun x => l.contains x)
def trB (ops : Array Oper) (f : Nat) : List (Nat × Bool) → Tr → Bool
  | _, .done => true
  | pre, .one m b p t => brB ops f pre m b p (trIdx t) && (p.map (·.1) ++ trIdx t).all (fun z => reachB ops f z m) && trB ops f (pre ++ p) t
  | pre, .two m b p t m2 b2 p2 t2 => brB ops f pre m b p (trIdx t) && brB ops f pre m2 b2 p2 (trIdx t2) && (p.map (·.1) ++ trIdx t).all (fun z => z == m2 || (reachB ops f z m || reachB ops f z m2)) && sameB (m :: (p.map (·.1) ++ trIdx t)) (m2 :: (p2.map (·.1) ++ trIdx t2)) && trB ops f (pre ++ p) t && trB ops f (pre ++ p2) t2
def calmE (ops : Array Oper) (f : Nat) (pre : List (Nat × Bool)) (t : Tr) : Bool :=
  Region.noSelect ops && acB ops && (List.range ops.size).all (fun j => (pre.map (·.1) ++ trIdx t).contains j) && (pre.map (·.1) ++ trIdx t).all (fun j => decide (j < ops.size)) &&
  pairsB (fun i j => i != j) (pre.map (·.1) ++ trIdx t) && pairsB (fun i j => apB ops i j || reachB ops f j i) (pre.map (·.1)) && trB ops f pre t

section
variable {P : Program} {ops : Array Oper} {Q : Exit → Act → World → Prop} {C : World → Prop}
structure CalmE (P : Program) (ops : Array Oper) (Q : Exit → Act → World → Prop) (C : World → Prop) (f : Nat) (D : Nat → Prop) (a : Act) (w : World) (pre' : List (Nat × Bool)) (t : Tr) (P' : List (Nat × Bool)) : Prop where
  sp : pre'.Sublist P'
  pp : (P'.map (·.1)).Pairwise (fun i j => (apB ops i j || reachB ops f j i) = true)
  nd : (P'.map (·.1) ++ trIdx t).Pairwise (fun i j => (i != j) = true)
  sb : trB ops f P' t = true
  mem : ∀ j, (j ∈ pre'.map (·.1) ∨ j ∈ trIdx t) ↔ (j < ops.size ∧ ¬ D j)
  wc : C w ∨ ∀ x ∈ pre', x.2 = true
  cl : ∀ (j : Nat) (o : Oper), ops[j]? = some o → D j → ∀ e ∈ o.after, Region.binds .any e = true → D e.on
  wp : wpPre P ops C pre' (fun a => wpTr P ops Q C t a w) a

theorem sameB_spec {l k : List Nat} (h : sameB l k = true) (x : Nat) : x ∈ l ↔ x ∈ k := by
  simp only [sameB, Bool.and_eq_true, List.all_eq_true, List.contains_iff_mem] at h
  exact ⟨h.1 x, h.2 x⟩

theorem branch_step {f : Nat} {D : Nat → Prop} {a : Act} {w : World} {p : List (Nat × Bool)} {t : Tr} {P' : List (Nat × Bool)} {i : Nat} {o : Oper} {b : Bool} {q : List (Nat × Bool)} {t' : Tr} (hsel : Region.noSelect ops = true)
    (hk : CalmE P ops Q C f D a w p t P') (ho : ops[i]? = some o) (hnot : ∀ x, (x ∈ p.map (·.1) ∨ x ∈ trIdx t) → reachB ops f i x = true → False)
    (hcl' : ∀ (j : Nat) (o : Oper), ops[j]? = some o → (D j ∨ j = i) → ∀ e ∈ o.after, Region.binds .any e = true → (D e.on ∨ e.on = i))
    (hbr : brB ops f P' i b q (trIdx t') = true) (hidx : ∀ j, j ∈ trIdx t ↔ j ∈ i :: (q.map (·.1) ++ trIdx t')) (hsb : trB ops f (P' ++ q) t' = true)
    (hwp : wpPre P ops C p (fun a => wpOp P ops (Qn Q) i (fun a w => (b = true → C w) ∧ wpPre P ops C q (fun a => wpTr P ops Q C t' a w) a) a w) a) :
    wpOp P ops Q i (fun a w => ∃ pre' t P', CalmE P ops Q C f (fun j => D j ∨ j = i) a w pre' t P') a w := by
  simp only [brB, Bool.and_eq_true, List.all_eq_true] at hbr
  obtain ⟨⟨⟨hb1, hb4⟩, hb5⟩, hb6⟩ := hbr
  have hb5 := pairsB_spec hb5
  have hb6 := pairsB_spec hb6
  have hboth : ∀ x ∈ p, apB ops x.1 i = true ∧ (x.2 = true ∨ b = true) := by
    intro x hx
    have h1 := hb1 x (hk.sp.subset hx)
    simp only [Bool.or_eq_true, Bool.and_eq_true] at h1
    rcases h1 with h1 | h1
    · exact h1
    · exact (hnot x.1 (.inl (List.mem_map_of_mem hx)) h1).elim
  have h1 := wpOp_Qn (wpPre_past (w := w) (Q := Q) hsel ho _ p a (fun x hx => (hboth x hx).1) hwp)
  refine wpOp_mono (fun a' w' h2 => ?_) h1
  obtain ⟨h3, h4⟩ := wpPre_and _ p a' h2
  rw [List.pairwise_cons] at hb6
  have hni : ∀ j, j ∈ (p ++ q).map (·.1) ∨ j ∈ trIdx t' → j ≠ i := by
    intro j hj
    have h5 : j ∈ (P' ++ q).map (·.1) ++ trIdx t' := by
      rcases hj with hj | hj
      · exact List.mem_append.2 (.inl (((hk.sp.append (.refl q)).map _).subset hj))
      · exact List.mem_append.2 (.inr hj)
    have := hb6.1 j h5
    exact fun e => by subst e; simp at this
  refine ⟨p ++ q, t', P' ++ q, hk.sp.append (.refl _), hb5, hb6.2, hsb, fun j => ?_, ?_, hcl', wpPre_app _ p q a' h4⟩
  · constructor
    · intro hj
      have h5 := (hk.mem j).1 (by
        rw [hidx]
        rw [List.map_append, List.mem_append] at hj
        rcases hj with (hj | hj) | hj
        · exact .inl hj
        · exact .inr (List.mem_cons_of_mem _ (List.mem_append.2 (.inl hj)))
        · exact .inr (List.mem_cons_of_mem _ (List.mem_append.2 (.inr hj))))
      exact ⟨h5.1, fun h6 => h6.elim h5.2 (hni j hj)⟩
    · rintro ⟨h5, h6⟩
      have h7 := (hk.mem j).2 ⟨h5, fun h8 => h6 (.inl h8)⟩
      rw [hidx] at h7
      rw [List.map_append, List.mem_append]
      rcases h7 with h7 | h7
      · exact .inl (.inl h7)
      · rcases List.mem_cons.1 h7 with h7 | h7
        · exact absurd (.inr h7) h6
        · rcases List.mem_append.1 h7 with h7 | h7
          · exact .inl (.inr h7)
          · exact .inr h7
  · by_cases hb : b = true
    · exact .inl (h3 hb)
    · right
      intro x hx
      rcases List.mem_append.1 hx with hx | hx
      · exact (hboth x hx).2.resolve_right hb
      · have h9 := hb4 x hx
        simp only [Bool.or_eq_true] at h9
        exact h9.resolve_right hb

theorem wpPre_left {A B : Act → Prop} : ∀ (p : List (Nat × Bool)) (a : Act), wpPre P ops C p (fun a => A a ∧ B a) a → wpPre P ops C p A a ∧ wpPre P ops C p B a
  | [], _, h => h
  | _ :: p, _, ⟨o, v, ho, hy, h⟩ => ⟨⟨o, v, ho, hy, (wpPre_left p _ h).1⟩, o, v, ho, hy, (wpPre_left p _ h).2⟩

theorem wp_region_calmE {rid : Nat} {a : Act} {w : World} (f : Nat) (C : World → Prop) (pre : List (Nat × Bool)) (t : Tr) (hm : P.follows .mixedOrders = true) (hB : calmE ops f pre t = true) (hC : C w.drew)
    (h : wpPre P ops C pre (fun a => wpTr P ops Q C t a w.drew) a) : (Code.region rid ops true).wp P Q a w := by
  simp only [calmE, Bool.and_eq_true] at hB
  obtain ⟨⟨⟨⟨⟨⟨hsel, hac⟩, hcov⟩, hlt⟩, hnd⟩, hpp⟩, hsb⟩ := hB
  have hnd := pairsB_spec hnd
  have hpp := pairsB_spec hpp
  simp only [List.all_eq_true] at hcov hlt
  refine wp_region_inv hm (fun D a w => ∃ pre' t P', CalmE P ops Q C f D a w pre' t P') ?_ hac ?_ ?_ ?_
  · rintro D D' a w hD ⟨p, s, r, hk⟩
    have e : D = D' := funext fun j => propext (hD j)
    subst e
    exact ⟨p, s, r, hk⟩
  · intro D hD
    refine ⟨pre, t, pre, .refl _, hpp, hnd, hsb, fun j => ⟨fun hj => ⟨?_, hD j⟩, fun hj => ?_⟩, .inl hC, fun j o _ hj => absurd hj (hD j), h⟩
    · exact of_decide_eq_true (hlt j (List.mem_append.2 hj))
    · exact List.mem_append.1 (List.contains_iff_mem.1 (hcov j (List.mem_range.2 hj.1)))
  · rintro D a w ⟨p, s, P', hk⟩ i o ho hnD hdep
    have hil : i < ops.size := (Array.getElem?_eq_some_iff.1 ho).1
    have hnot : ∀ x, (x ∈ p.map (·.1) ∨ x ∈ trIdx s) → reachB ops f i x = true → False := fun x hx hr =>
      ((hk.mem x).1 hx).2 (reach_done hk.cl f i x hr (fun o' ho' => by obtain rfl := Option.some.inj (ho.symm.trans ho'); exact hdep))
    have hcl' : ∀ (j : Nat) (o : Oper), ops[j]? = some o → (D j ∨ j = i) → ∀ e ∈ o.after, Region.binds .any e = true → (D e.on ∨ e.on = i) := by
      intro j o' ho' hj e he hb
      rcases hj with hj | rfl
      · exact .inl (hk.cl j o' ho' hj e he hb)
      · obtain rfl := Option.some.inj (ho.symm.trans ho')
        exact .inl (hdep e he hb)
    rcases (hk.mem i).2 ⟨hil, hnD⟩ with hi | hi
    · obtain ⟨⟨i0, b⟩, hx, hx0⟩ := List.mem_map.1 hi
      obtain rfl : i0 = i := hx0
      obtain ⟨l1, l2, rfl⟩ := List.append_of_mem hx
      have hap : ∀ x ∈ l1, apB ops x.1 i0 = true := by
        intro x hx
        have h1 := hk.pp.sublist (hk.sp.map (·.1))
        rw [List.map_append, List.map_cons, List.pairwise_append] at h1
        have h2 := h1.2.2 x.1 (List.mem_map_of_mem hx) i0 (by simp)
        simp only [Bool.or_eq_true] at h2
        rcases h2 with h2 | h2
        · exact h2
        · exact (hnot x.1 (.inl (by rw [List.map_append, List.mem_append]; exact .inl (List.mem_map_of_mem hx))) h2).elim
      obtain ⟨oi, v, hoi, hy, h'⟩ := wpPre_move hsel i0 b l2 _ l1 a hap hk.wp
      obtain rfl := Option.some.inj (ho.symm.trans hoi)
      have hcw : cls C b w := by
        rcases hk.wc with h1 | h1
        · exact .inr h1
        · exact .inl (h1 (i0, b) (by simp))
      have hsub : (l1 ++ l2).Sublist (l1 ++ (i0, b) :: l2) := List.Sublist.append_left (List.sublist_cons_self _ _) l1
      have hni : ∀ j, j ∈ (l1 ++ l2).map (·.1) ∨ j ∈ trIdx s → j ≠ i0 := by
        intro j hj
        have hnd' := hk.nd.sublist ((hk.sp.map (·.1)).append (.refl (trIdx s)))
        rw [List.map_append, List.map_cons, List.append_assoc, List.pairwise_append] at hnd'
        obtain ⟨-, h2, h3⟩ := hnd'
        rw [List.cons_append, List.pairwise_cons] at h2
        rw [List.map_append, List.mem_append] at hj
        rcases hj with (hj | hj) | hj
        · have := h3 j hj i0 (by simp); simpa using this
        · have := h2.1 j (List.mem_append.2 (.inl hj)); exact fun e => by subst e; simp at this
        · have := h2.1 j (List.mem_append.2 (.inr hj)); exact fun e => by subst e; simp at this
      have hnew : CalmE P ops Q C f (fun j => D j ∨ j = i0) (a.put o.dst v) w (l1 ++ l2) s P' := by
        refine ⟨hsub.trans hk.sp, hk.pp, hk.nd, hk.sb, fun j => ?_, hk.wc.imp id (fun h1 x hx => h1 x (hsub.subset hx)), hcl', h'⟩
        constructor
        · intro hj
          have h1 := (hk.mem j).1 (by rcases hj with hj | hj
                                      · left; exact (hsub.map _).subset hj
                                      · exact .inr hj)
          exact ⟨h1.1, fun h2 => h2.elim h1.2 (hni j hj)⟩
        · rintro ⟨h1, h2⟩
          have h3 := (hk.mem j).2 ⟨h1, fun h4 => h2 (.inl h4)⟩
          rcases h3 with h3 | h3
          · left
            rw [List.map_append, List.mem_append] at h3 ⊢
            rw [List.map_cons, List.mem_cons] at h3
            rcases h3 with h3 | h3 | h3
            · exact .inl h3
            · exact absurd (.inr h3) h2
            · exact .inr h3
          · exact .inr h3
      unfold wpOp
      simp only [ho]
      rcases hy with ⟨hw, hv⟩ | ⟨hw, rfl⟩
      · rw [if_pos hw]
        left
        unfold Oper.wp
        rw [hv w hcw]
        exact ⟨_, _, _, hnew⟩
      · rw [if_neg (by rw [hw]; simp)]
        exact ⟨_, _, _, hnew⟩
    · cases s with
      | done => cases hi
      | one m b q r =>
        have hsb' := hk.sb
        simp only [trB, Bool.and_eq_true, List.all_eq_true] at hsb'
        obtain ⟨⟨hb1, hb2⟩, hb3⟩ := hsb'
        have him : i = m := by
          rcases List.mem_cons.1 hi with h1 | h1
          · exact h1
          · exact (hnot m (.inr (by simp [trIdx])) (hb2 i h1)).elim
        subst him
        exact branch_step hsel hk ho hnot hcl' hb1 (fun j => Iff.rfl) hb3 hk.wp
      | two m b q r m2 b2 q2 r2 =>
        have hsb' := hk.sb
        simp only [trB, Bool.and_eq_true, List.all_eq_true] at hsb'
        obtain ⟨⟨⟨⟨⟨hb1, hb2⟩, hb3⟩, hb4⟩, hb5⟩, hb6⟩ := hsb'
        have hm2 : m2 ∈ trIdx (.two m b q r m2 b2 q2 r2) := (sameB_spec hb4 m2).2 (by simp)
        have hwp := wpPre_left p a hk.wp
        have him : i = m ∨ i = m2 := by
          rcases List.mem_cons.1 hi with h1 | h1
          · exact .inl h1
          · have h2 := hb3 i h1
            simp only [Bool.or_eq_true, beq_iff_eq] at h2
            rcases h2 with h2 | h2 | h2
            · exact .inr h2
            · exact (hnot m (.inr (by simp [trIdx])) h2).elim
            · exact (hnot m2 (.inr hm2) h2).elim
        rcases him with him | him
        · subst him
          exact branch_step hsel hk ho hnot hcl' hb1 (fun j => Iff.rfl) hb5 hwp.1
        · subst him
          exact branch_step hsel hk ho hnot hcl' hb2 (fun j => sameB_spec hb4 j) hb6 hwp.2
  · rintro D a w ⟨p, s, P', hk⟩ hall
    have hp : p = [] := by
      cases p with
      | nil => rfl
      | cons x p => have h1 := (hk.mem x.1).1 (.inl (by simp)); exact absurd (hall _ h1.1) h1.2
    have hs : s = .done := by
      cases s with
      | done => rfl
      | one m b q r => have h1 := (hk.mem m).1 (.inr (by simp [trIdx])); exact absurd (hall _ h1.1) h1.2
      | two m b q r _ _ _ _ => have h1 := (hk.mem m).1 (.inr (by simp [trIdx])); exact absurd (hall _ h1.1) h1.2
    subst hp
    subst hs
    exact hk.wp
theorem wpTr_done {a : Act} {w : World} (h : Q .normal a w) : wpTr P ops Q C .done a w := h
theorem wpTr_op {m : Nat} {b : Bool} {p : List (Nat × Bool)} {t : Tr} {a : Act} {w : World} {o : Oper} (ho : ops[m]? = some o)
    (h : ∀ K' : Act → World → Prop, (∀ a w, (b = true → C w) → wpPre P ops C p (fun a => wpTr P ops Q C t a w) a → K' a w) → if Region.wanted o (yielded ops a.tmps) = true then Oper.wp P o a w K' (Qn Q) else K' (a.put o.dst undef) w) : wpOp P ops (Qn Q) m (fun a w => (b = true → C w) ∧ wpPre P ops C p (fun a => wpTr P ops Q C t a w) a) a w := by
  have h1 := h (fun a w => (b = true → C w) ∧ wpPre P ops C p (fun a => wpTr P ops Q C t a w) a) (fun _ _ h1 h2 => ⟨h1, h2⟩)
  unfold wpOp
  simp only [ho]
  split
  · rename_i hw
    rw [if_pos hw] at h1
    exact .inl h1
  · rename_i hw
    rw [if_neg hw] at h1
    exact h1
theorem wpTr_e {m : Nat} {b : Bool} {p : List (Nat × Bool)} {t : Tr} {a : Act} {w : World} {o : Oper} (ho : ops[m]? = some o)
    (h : ∀ K' : Act → World → Prop, (∀ a w, (b = true → C w) → wpPre P ops C p (fun a => wpTr P ops Q C t a w) a → K' a w) → if Region.wanted o (yielded ops a.tmps) = true then Oper.wp P o a w K' (Qn Q) else K' (a.put o.dst undef) w) : wpTr P ops Q C (.one m b p t) a w := wpTr_op ho h
end
end Go.Proofs.Ytikfpoabaaiegaa

namespace Go.Proofs.Ytikfpoabaaiegaa
open Go.RowKit
set_option maxRecDepth 8000
theorem int_odd {U : Nat} (h : U % 2 = 1) : (U : Int) % 2 = 1 := by omega
theorem int_even {U : Nat} (h : ¬ U % 2 = 1) : (U : Int) % 2 = 0 := by omega
theorem un_odd {U : Nat} (h : U % 2 = 1) : unfoldI U = -1 - (U : Int) / 2 := by unfold unfoldI; rw [if_pos h]; omega
theorem un_even {U : Nat} (h : ¬ U % 2 = 1) : unfoldI U = (U : Int) / 2 := by unfold unfoldI; rw [if_neg h]; omega
def RGPost (w : World) (a : Nat) (r : Option (Nat × Nat)) (x : Ending) (w' : World) : Prop :=
  w' = w ∧ (∀ u a', r = some (u, a') → x = .returned (.tuple #[.int .i64 (unfoldI u), .int .i64 ((a' : Int) - (a : Int)), .int .i64 0])) ∧ (r = none → x = .returned (.tuple #[.int .i64 0, .int .i64 0, .int .i64 28]))
set_option maxHeartbeats 2000000 in
theorem refGroups_any (p : Option Addr) (n c a : Nat) (w : World) (S : Nat → Prop) (f : Nat → Int) (hB : Byts w S p n c f) (ha : a ≤ n) :
    Calls Try.prog 163 #[.slice p n c, .int .i64 (a : Int)] w fun x w' => RGPost w a (grpS f n 10 a 0 0) x w' := by
  have HY := hid hB
  have hnn := hB.nn
  generalize hR : grpS f n 10 a 0 0 = R
  clear hB
  go_enter Try.func163, Try.ntmps163
  go_wp2_with fail
  go_loopw [7, 8] (fun y x wr => ∃ (i u : Nat), i ≤ 9 ∧ y = .int .u64 (u : Int) ∧ x = .int .i64 (i : Int) ∧ u < 2 ^ 64 ∧ a + i ≤ n ∧ grpS f n (10 - i) (a + i) i u = R ∧ wr = w) (fun _ x _ => 100 - (intOf x).toNat)
  case atStart => exact ⟨0, 0, by omega, rfl, rfl, by decide, ha, hR, rfl⟩
  case round =>
    obtain ⟨i, u, hi, rfl, rfl, hu, hai, hg, hwr⟩ := hrel
    subst wr
    have HG := hid hg
    clear hg
    have HE : Hid (10 - i = (9 - i) + 1) := by unfold Hid; omega
    by_cases h : a + i < n
    · have h' : (a : Int) + (i : Int) < (n : Int) := by omega
      obtain ⟨hf1, hf2⟩ := HY.out.fit (a + i) h
      obtain ⟨C, hC⟩ := Int.eq_ofNat_of_zero_le hf1
      obtain ⟨b, o, hp, hSb, hbl, hat⟩ := HY.out.at_ (by omega)
      have hc := hat (a + i) h
      rw [hC] at hc
      subst hp
      have hg2 := HG.out
      rw [HE.out, grpS, if_neg (by omega), hC] at hg2
      simp only [Int.toNat_natCast] at hg2
      have HG2 := hid hg2
      clear hg2
      have hC2 : C < 256 := by omega
      by_cases hbad : (0 < i ∧ C = 0) ∨ (i = 9 ∧ 1 < C)
      · have hr : R = none := by have h2 := HG2.out; rw [if_pos hbad] at h2; exact h2.symm
        have HRn := hid hr
        clear hr
        rcases (by omega : (0 < i ∧ C = 0) ∨ (i = 9 ∧ 1 < C)) with ⟨h1, rfl⟩ | ⟨rfl, h1⟩
        · have h1' : (0 : Int) < (i : Int) := by omega
          go_wp2
          refine bodyPost_ret (v := .tuple #[.int .i64 0, .int .i64 0, .int .i64 28]) (by simp [results, Try.results163, go_sem]) rfl ?_
          exact ⟨rfl, fun u2 a3 h2 => (by rw [HRn.out] at h2; cases h2), fun _ => rfl⟩
        · have h1' : (1 : Int) < (C : Int) := by omega
          have h2' : ¬ (C : Int) = 0 := by omega
          go_wp2
          refine bodyPost_ret (v := .tuple #[.int .i64 0, .int .i64 0, .int .i64 28]) (by simp [results, Try.results163, go_sem]) rfl ?_
          exact ⟨rfl, fun u2 a3 h2 => (by rw [HRn.out] at h2; cases h2), fun _ => rfl⟩
      · have hg3 := HG2.out
        rw [if_neg hbad] at hg3
        have HG3 := hid hg3
        have hfit := grp_fits (c := C) hi (fun h9 => by omega)
        obtain ⟨V, hV⟩ : ∃ V, V = C % 128 * 2 ^ (7 * i) := ⟨_, rfl⟩
        rw [← hV] at hfit
        have hor := bits_or_u64_nat u V (by omega) (by omega)
        have HV := hid hV
        clear hg3 hV
        have hlor := Nat.or_lt_two_pow hu hfit
        have hfit2 := hid hfit
        have HRs : C < 128 → R = some (u ||| V, a + i + 1) := fun h2 => by have h3 := HG3.out; rw [if_pos h2, ← HV.out] at h3; exact h3.symm
        have HRr : ¬ C < 128 → grpS f n (10 - (i + 1)) (a + (i + 1)) (i + 1) (u ||| V) = R := fun h2 => by have h3 := HG3.out; rw [if_neg h2, ← HV.out] at h3; rw [show 10 - (i + 1) = 9 - i by omega]; exact h3
        have HRs := hid HRs
        have HRr := hid HRr
        obtain ⟨U, hU⟩ : ∃ U, U = u ||| V := ⟨_, rfl⟩
        rw [← hU] at hor HRs HRr hlor
        have HU := hid hU
        clear HG HG2 HG3 hat hR hU
        by_cases hi0 : i = 0
        · subst hi0
          have e0 : (C : Int) % 128 = (V : Int) := by have := HV.out; omega
          simp only [Nat.add_zero] at hc
          by_cases hlt : C < 128
          · have hlt' : (C : Int) < 128 := by omega
            by_cases hodd : U % 2 = 1
            · have ho1 : (U : Int) % 2 = 1 := int_odd hodd
              have hun : unfoldI U = -1 - (U : Int) / 2 := un_odd hodd
              have HRs := hid (HRs.out hlt)
              have HUn := hid hun
              have HLo := hid hlor
              clear HRr hfit hun HV hbad hf1 hf2 hC hodd hfit2
              go_wp2
              refine bodyPost_ret (v := .tuple #[.int .i64 (-1 - (U : Int) / 2), .int .i64 (1), .int .i64 0]) (by simp [results, Try.results163, go_sem]) rfl ?_
              refine ⟨rfl, fun u2 a3 h2 => ?_, fun h2 => ?_⟩
              · first | (rw [HRs.out] at h2) | skip
                cases h2
                first | rw [← HU.out, HUn.out] | rw [HUn.out]
                refine congrArg (fun z => Ending.returned (.tuple #[.int .i64 (-1 - (U : Int) / 2), .int .i64 z, .int .i64 0])) ?_
                omega
              · first | (rw [HRs.out] at h2) | skip
                cases h2
            · have ho1 : (U : Int) % 2 = 0 := int_even hodd
              have hun : unfoldI U = (U : Int) / 2 := un_even hodd
              have HRs := hid (HRs.out hlt)
              have HUn := hid hun
              have HLo := hid hlor
              clear HRr hfit hun HV hbad hf1 hf2 hC hodd hfit2
              go_wp2
              refine bodyPost_ret (v := .tuple #[.int .i64 ((U : Int) / 2), .int .i64 (1), .int .i64 0]) (by simp [results, Try.results163, go_sem]) rfl ?_
              refine ⟨rfl, fun u2 a3 h2 => ?_, fun h2 => ?_⟩
              · first | (rw [HRs.out] at h2) | skip
                cases h2
                first | rw [← HU.out, HUn.out] | rw [HUn.out]
                refine congrArg (fun z => Ending.returned (.tuple #[.int .i64 ((U : Int) / 2), .int .i64 z, .int .i64 0])) ?_
                omega
              · first | (rw [HRs.out] at h2) | skip
                cases h2
          · have hlt' : ¬ (C : Int) < 128 := by omega
            have HRr := hid (HRr.out hlt)
            have HLo := hid hlor
            clear HRs hfit HV hbad hf1 hf2 hC hlor hfit2
            go_wp2
            go_roundw
            case rel => exact ⟨0 + 1, U, by omega, by go_num, by go_num, HLo.out, by omega, HRr.out, by first | trivial | rfl⟩
            case measure => simp [intOf]
        · have h1' : (0 : Int) < (i : Int) := by omega
          have h2' : ¬ (C : Int) = 0 := by omega
          have h2b : ((C : Int) == 0) = false := by simpa using h2'
          by_cases hi9 : i = 9
          · subst hi9
            have h3' : ¬ (1 : Int) < (C : Int) := by omega
            have e0 : (C : Int) % 128 * 9223372036854775808 = (V : Int) := by
              have := HV.out
              rw [this]
              omega
            by_cases hlt : C < 128
            · have hlt' : (C : Int) < 128 := by omega
              by_cases hodd : U % 2 = 1
              · have ho1 : (U : Int) % 2 = 1 := int_odd hodd
                have hun : unfoldI U = -1 - (U : Int) / 2 := un_odd hodd
                have HRs := hid (HRs.out hlt)
                have HUn := hid hun
                have HLo := hid hlor
                clear HRr hfit hun HV hbad hf1 hf2 hC hodd hfit2
                go_wp2
                refine bodyPost_ret (v := .tuple #[.int .i64 (-1 - (U : Int) / 2), .int .i64 (10), .int .i64 0]) (by simp [results, Try.results163, go_sem]) rfl ?_
                refine ⟨rfl, fun u2 a3 h2 => ?_, fun h2 => ?_⟩
                · first | (rw [HRs.out] at h2) | skip
                  cases h2
                  first | rw [← HU.out, HUn.out] | rw [HUn.out]
                  refine congrArg (fun z => Ending.returned (.tuple #[.int .i64 (-1 - (U : Int) / 2), .int .i64 z, .int .i64 0])) ?_
                  omega
                · first | (rw [HRs.out] at h2) | skip
                  cases h2
              · have ho1 : (U : Int) % 2 = 0 := int_even hodd
                have hun : unfoldI U = (U : Int) / 2 := un_even hodd
                have HRs := hid (HRs.out hlt)
                have HUn := hid hun
                have HLo := hid hlor
                clear HRr hfit hun HV hbad hf1 hf2 hC hodd hfit2
                go_wp2
                refine bodyPost_ret (v := .tuple #[.int .i64 ((U : Int) / 2), .int .i64 (10), .int .i64 0]) (by simp [results, Try.results163, go_sem]) rfl ?_
                refine ⟨rfl, fun u2 a3 h2 => ?_, fun h2 => ?_⟩
                · first | (rw [HRs.out] at h2) | skip
                  cases h2
                  first | rw [← HU.out, HUn.out] | rw [HUn.out]
                  refine congrArg (fun z => Ending.returned (.tuple #[.int .i64 ((U : Int) / 2), .int .i64 z, .int .i64 0])) ?_
                  omega
                · first | (rw [HRs.out] at h2) | skip
                  cases h2
            · exact absurd hlt (by omega)
          · have h3' : ¬ (i : Int) = 9 := by omega
            have e0 : IntKind.u64.wrap ((C : Int) % 128 * 2 ^ (7 * i)) = (V : Int) := by
              have h2 : (C : Int) % 128 * 2 ^ (7 * i) = (V : Int) := by rw [HV.out]; simp
              rw [h2, wrap_u64]; omega
            by_cases hlt : C < 128
            · have hlt' : (C : Int) < 128 := by omega
              by_cases hodd : U % 2 = 1
              · have ho1 : (U : Int) % 2 = 1 := int_odd hodd
                have hun : unfoldI U = -1 - (U : Int) / 2 := un_odd hodd
                have HRs := hid (HRs.out hlt)
                have HUn := hid hun
                have HLo := hid hlor
                clear HRr hfit hun HV hbad hf1 hf2 hC hodd hfit2
                go_wp2
                refine bodyPost_ret (v := .tuple #[.int .i64 (-1 - (U : Int) / 2), .int .i64 ((i : Int) + 1), .int .i64 0]) (by simp [results, Try.results163, go_sem]) rfl ?_
                refine ⟨rfl, fun u2 a3 h2 => ?_, fun h2 => ?_⟩
                · first | (rw [HRs.out] at h2) | skip
                  cases h2
                  first | rw [← HU.out, HUn.out] | rw [HUn.out]
                  refine congrArg (fun z => Ending.returned (.tuple #[.int .i64 (-1 - (U : Int) / 2), .int .i64 z, .int .i64 0])) ?_
                  omega
                · first | (rw [HRs.out] at h2) | skip
                  cases h2
              · have ho1 : (U : Int) % 2 = 0 := int_even hodd
                have hun : unfoldI U = (U : Int) / 2 := un_even hodd
                have HRs := hid (HRs.out hlt)
                have HUn := hid hun
                have HLo := hid hlor
                clear HRr hfit hun HV hbad hf1 hf2 hC hodd hfit2
                go_wp2
                refine bodyPost_ret (v := .tuple #[.int .i64 ((U : Int) / 2), .int .i64 ((i : Int) + 1), .int .i64 0]) (by simp [results, Try.results163, go_sem]) rfl ?_
                refine ⟨rfl, fun u2 a3 h2 => ?_, fun h2 => ?_⟩
                · first | (rw [HRs.out] at h2) | skip
                  cases h2
                  first | rw [← HU.out, HUn.out] | rw [HUn.out]
                  refine congrArg (fun z => Ending.returned (.tuple #[.int .i64 ((U : Int) / 2), .int .i64 z, .int .i64 0])) ?_
                  omega
                · first | (rw [HRs.out] at h2) | skip
                  cases h2
            · have hlt' : ¬ (C : Int) < 128 := by omega
              have HRr := hid (HRr.out hlt)
              have HLo := hid hlor
              clear HRs hfit HV hbad hf1 hf2 hC hlor hfit2
              go_wp2
              go_roundw
              case rel => exact ⟨i + 1, U, by omega, by go_num, by go_num, HLo.out, by omega, HRr.out, by first | trivial | rfl⟩
              case measure => simp [intOf]; omega
    · have h' : ¬ (a : Int) + (i : Int) < (n : Int) := by omega
      have hr : R = none := by have h2 := HG.out; rw [HE.out, grpS, if_pos (by omega)] at h2; exact h2.symm
      have HRn := hid hr
      clear hr
      go_wp2
      refine bodyPost_ret (v := .tuple #[.int .i64 0, .int .i64 0, .int .i64 28]) (by simp [results, Try.results163, go_sem]) rfl ?_
      exact ⟨rfl, fun u2 a3 h2 => (by rw [HRn.out] at h2; cases h2), fun _ => rfl⟩
end Go.Proofs.Ytikfpoabaaiegaa

namespace Go.Proofs.Ytikfpoabaaiegaa
open Go.RowKit
set_option maxRecDepth 8000
def rpS (f : Nat → Int) (n d a : Nat) : Except Nat (PT × Nat) :=
  if 3 < (f a).toNat then .error 28 else if (f a).toNat = 3 ∧ d = 3 then .error 23
  else if (f a).toNat = 0 then .ok (⟨0, 0, ⟨#[]⟩, 0⟩, a + 1)
  else if (f a).toNat = 1 then (match grpS f n 10 (a + 1) 0 0 with | none => .error 28 | some (u, a') => .ok (⟨1, unfoldI u, ⟨#[]⟩, 0⟩, a'))
  else if n ≤ a + 1 then .error 28
  else if (f a).toNat = 2 then (if 24 < (f (a + 1)).toNat then .error 21 else if n < a + 2 + (f (a + 1)).toNat then .error 28 else .ok (⟨2, 0, strOf (bytesAt f (a + 2) (f (a + 1)).toNat), 0⟩, a + 2 + (f (a + 1)).toNat))
  else if 6 < (f (a + 1)).toNat then .error 22
  else .ok (⟨3, 0, ⟨#[]⟩, (f (a + 1)).toNat⟩, a + 2)
def RPPost (w : World) (a : Nat) (r : Except Nat (PT × Nat)) (x : Ending) (w' : World) : Prop :=
  Below w.heap.size w w' ∧ (∀ q a', r = .ok (q, a') → x = .returned (.tuple #[.agg #[.int .i64 q.kind, .int .i64 q.int, .string q.text, .int .i64 q.n], .int .i64 ((a' : Int) - (a : Int)), .int .i64 0])) ∧
    (∀ e : Nat, r = .error e → ∃ (k i : Int) (s : ByteArray) (m z : Int), x = .returned (.tuple #[.agg #[.int .i64 k, .int .i64 i, .string s, .int .i64 m], .int .i64 z, .int .i64 (e : Int)]))
set_option maxHeartbeats 4000000 in
theorem refPart_any (p : Option Addr) (n c a d : Nat) (w : World) (S : Nat → Prop) (f : Nat → Int) (hB : Byts w S p n c f) (hS : ∀ b, S b → b < w.heap.size) (ha : a < n) (hd : d ≤ 3) :
    Calls Try.prog 154 #[.slice p n c, .int .i64 (a : Int), .int .i64 (d : Int)] w fun x w' => RPPost w a (rpS f n d a) x w' := by
  have HY := hid hB
  have hnn := hB.nn
  have ha' : (a : Int) < (n : Int) := by omega
  obtain ⟨hf1, hf2⟩ := hB.fit a ha
  obtain ⟨K, hK⟩ := Int.eq_ofNat_of_zero_le hf1
  obtain ⟨b, o, hp, hSb, hbl, hat⟩ := hB.at_ (by omega)
  subst hp
  have hc := hat a ha
  rw [hK] at hc
  obtain ⟨R, hR⟩ : ∃ R, R = rpS f n d a := ⟨_, rfl⟩
  rw [← hR]
  unfold rpS at hR
  rw [hK] at hR
  simp only [Int.toNat_natCast] at hR
  have HR := hid hR
  have hbn : b ≠ w.heap.size := by omega
  have hbn1 : b ≠ w.heap.size + 1 := by omega
  clear hR hB
  have hK2 : K < 256 := by omega
  by_cases h3 : 3 < K
  · have h3' : (3 : Int) < (K : Int) := by omega
    have hr : R = .error 28 := by have h2 := HR.out; rw [if_pos h3] at h2; exact h2
    have HRe := hid hr
    clear hr HR
    go_enter Try.func154, Try.ntmps154
    go_wp2
    refine bodyPost_ret (v := .tuple #[.agg #[.int .i64 (K), .int .i64 (0), .string ⟨#[]⟩, .int .i64 (0)], .int .i64 (0), .int .i64 28]) (by simp [results, Try.results154, go_sem]) rfl ?_
    exact ⟨((Below.refl _ _).alloc (Nat.le_refl _) _).alloc (by simp) _, fun q a3 h2 => (by rw [HRe.out] at h2; cases h2), fun e2 h2 => (by rw [HRe.out] at h2; cases h2; exact ⟨_, _, _, _, _, rfl⟩)⟩
  · have h3' : ¬ (3 : Int) < (K : Int) := by omega
    have h2 := HR.out
    rw [if_neg h3] at h2
    have HR := hid h2
    clear h2
    rcases (by omega : K = 0 ∨ K = 1 ∨ K = 2 ∨ K = 3) with rfl | rfl | rfl | rfl
    · have hr : R = .ok (⟨0, 0, ⟨#[]⟩, 0⟩, a + 1) := by have h2 := HR.out; simp at h2; exact h2
      have HRe := hid hr
      clear hr HR
      go_enter Try.func154, Try.ntmps154
      go_wp2
      refine bodyPost_ret (v := .tuple #[.agg #[.int .i64 (0), .int .i64 (0), .string ⟨#[]⟩, .int .i64 (0)], .int .i64 (1), .int .i64 0]) (by simp [results, Try.results154, go_sem]) rfl ?_
      refine ⟨((Below.refl _ _).alloc (Nat.le_refl _) _).alloc (by simp) _, fun q a3 h2 => ?_, fun e2 h2 => (by rw [HRe.out] at h2; cases h2)⟩
      rw [HRe.out] at h2
      cases h2
      refine congrArg (fun z => Ending.returned (.tuple #[.agg #[.int .i64 (0), .int .i64 (0), .string ⟨#[]⟩, .int .i64 (0)], .int .i64 z, .int .i64 0])) ?_
      omega
    · have h4 := HR.out
      simp at h4
      have HR1 := hid h4
      have HGr : Hid (∀ W : World, Below w.heap.size w W → Calls Try.prog 163 #[.slice (some ⟨b, o, none⟩) n c, .int .i64 ((a : Int) + 1)] W fun x w' => RGPost W (a + 1) (grpS f n 10 (a + 1) 0 0) x w') := by
        intro W hW
        have h5 := refGroups_any (some ⟨b, o, none⟩) n c (a + 1) W S f (HY.out.kept hW.size fun b2 hb2 _ => hW.block b2 (hS b2 hb2)) (by omega)
        rw [show ((a + 1 : Nat) : Int) = (a : Int) + 1 by omega] at h5
        exact h5
      clear h4 HR
      go_enter Try.func154, Try.ntmps154
      go_wp2_with fail
      refine (HGr.out _ (((Below.refl _ _).alloc (Nat.le_refl _) _).alloc (by simp) _)).mono ?_
      intro x5 w5 hP5
      cases hgr : grpS f n 10 (a + 1) 0 0 with
      | none =>
        rw [hgr] at hP5
        have hr : R = .error 28 := by have h2 := HR1.out; rw [hgr] at h2; exact h2
        have HRe := hid hr
        obtain ⟨rfl, _, h7⟩ := hP5
        obtain rfl := h7 rfl
        clear hr HR1
        go_wp2
        refine bodyPost_ret (v := .tuple #[.agg #[.int .i64 1, .int .i64 0, .string ⟨#[]⟩, .int .i64 0], .int .i64 1, .int .i64 28]) (by simp [results, Try.results154, go_sem]) rfl ?_
        exact ⟨((Below.refl _ _).alloc (Nat.le_refl _) _).alloc (by simp) _, fun q a3 h2 => (by rw [HRe.out] at h2; cases h2), fun e2 h2 => (by rw [HRe.out] at h2; cases h2; exact ⟨_, _, _, _, _, rfl⟩)⟩
      | some ua =>
        obtain ⟨u, a'⟩ := ua
        rw [hgr] at hP5
        have hr : R = .ok (⟨1, unfoldI u, ⟨#[]⟩, 0⟩, a') := by have h2 := HR1.out; rw [hgr] at h2; exact h2
        have HRe := hid hr
        have hgl := (grpS_le _ _ _ _ _ _ _ hgr).1
        obtain ⟨rfl, h7, _⟩ := hP5
        obtain rfl := h7 u a' rfl
        clear hr HR1
        go_wp2
        refine bodyPost_ret (v := .tuple #[.agg #[.int .i64 1, .int .i64 (unfoldI u), .string ⟨#[]⟩, .int .i64 0], .int .i64 ((a' : Int) - ((a : Int) + 1) + 1), .int .i64 0]) (by simp [results, Try.results154, go_sem]) rfl ?_
        refine ⟨((Below.refl _ _).alloc (Nat.le_refl _) _).alloc (by simp) _, fun q a3 h2 => ?_, fun e2 h2 => (by rw [HRe.out] at h2; cases h2)⟩
        rw [HRe.out] at h2
        cases h2
        refine congrArg (fun z => Ending.returned (.tuple #[.agg #[.int .i64 1, .int .i64 (unfoldI u), .string ⟨#[]⟩, .int .i64 0], .int .i64 z, .int .i64 0])) ?_
        omega
    · by_cases hn1 : n ≤ a + 1
      · have hn1' : (n : Int) ≤ (a : Int) + 1 := by omega
        have hr : R = .error 28 := by have h2 := HR.out; simp [hn1] at h2; exact h2
        have HRe := hid hr
        clear hr HR
        go_enter Try.func154, Try.ntmps154
        go_wp2
        refine bodyPost_ret (v := .tuple #[.agg #[.int .i64 (2), .int .i64 0, .string ⟨#[]⟩, .int .i64 (0)], .int .i64 0, .int .i64 28]) (by simp [results, Try.results154, go_sem]) rfl ?_
        exact ⟨((Below.refl _ _).alloc (Nat.le_refl _) _).alloc (by simp) _, fun q a3 h2 => (by rw [HRe.out] at h2; cases h2), fun e2 h2 => (by rw [HRe.out] at h2; cases h2; exact ⟨_, _, _, _, _, rfl⟩)⟩
      · have hn1' : ¬ (n : Int) ≤ (a : Int) + 1 := by omega
        obtain ⟨hg1, hg2⟩ := HY.out.fit (a + 1) (by omega)
        obtain ⟨M, hM⟩ := Int.eq_ofNat_of_zero_le hg1
        have hc1 := hat (a + 1) (by omega)
        rw [hM] at hc1
        have hM2 : M < 256 := by omega
        by_cases hM6 : 24 < M
        · have hM6' : (24 : Int) < (M : Int) := by omega
          have hr : R = .error 21 := by have h2 := HR.out; simp [hn1, hM, hM6] at h2; exact h2
          have HRe := hid hr
          clear hr HR
          go_enter Try.func154, Try.ntmps154
          go_wp2
          refine bodyPost_ret (v := .tuple #[.agg #[.int .i64 (2), .int .i64 0, .string ⟨#[]⟩, .int .i64 (0)], .int .i64 0, .int .i64 21]) (by simp [results, Try.results154, go_sem]) rfl ?_
          exact ⟨((Below.refl _ _).alloc (Nat.le_refl _) _).alloc (by simp) _, fun q a3 h2 => (by rw [HRe.out] at h2; cases h2), fun e2 h2 => (by rw [HRe.out] at h2; cases h2; exact ⟨_, _, _, _, _, rfl⟩)⟩
        · have hM6' : ¬ (24 : Int) < (M : Int) := by omega
          by_cases hn2 : n < a + 2 + M
          · have hn2' : (n : Int) < (a : Int) + 2 + (M : Int) := by omega
            have hr : R = .error 28 := by have h2 := HR.out; simp [hn1, hM, hM6, hn2] at h2; exact h2
            have HRe := hid hr
            clear hr HR
            go_enter Try.func154, Try.ntmps154
            go_wp2
            refine bodyPost_ret (v := .tuple #[.agg #[.int .i64 (2), .int .i64 0, .string ⟨#[]⟩, .int .i64 (0)], .int .i64 0, .int .i64 28]) (by simp [results, Try.results154, go_sem]) rfl ?_
            exact ⟨((Below.refl _ _).alloc (Nat.le_refl _) _).alloc (by simp) _, fun q a3 h2 => (by rw [HRe.out] at h2; cases h2), fun e2 h2 => (by rw [HRe.out] at h2; cases h2; exact ⟨_, _, _, _, _, rfl⟩)⟩
          · have hn2' : ¬ (n : Int) < (a : Int) + 2 + (M : Int) := by omega
            have hr : R = .ok (⟨2, 0, strOf (bytesAt f (a + 2) M), 0⟩, a + 2 + M) := by have h2 := HR.out; simp [hn1, hM, hM6, hn2] at h2; exact h2
            have HRe := hid hr
            clear hr HR
            have hncc := HY.out.nc
            have hW : Below w.heap.size w ((w.alloc (.cells #[.int .i64 0, .int .i64 0, .string ⟨#[]⟩, .int .i64 0] 204)).alloc (.cells #[.int .i64 2, .int .i64 0, .string ⟨#[]⟩, .int .i64 0] 204)) := ((Below.refl _ _).alloc (Nat.le_refl _) _).alloc (by simp) _
            obtain ⟨T, hT⟩ : ∃ T, T = strOf (bytesAt f (a + 2) M) := ⟨_, rfl⟩
            have hl : (bytesAt f (a + 2) M).length = M := by simp [bytesAt]
            by_cases hc0 : c - (a + 2) = 0
            · have hM0 : M = 0 := by omega
              subst hM0
              have hcv : (convert 47 9 (.slice (some ⟨b, o, none⟩) 0 0)).run Try.prog ((w.alloc (.cells #[.int .i64 0, .int .i64 0, .string ⟨#[]⟩, .int .i64 0] 204)).alloc (.cells #[.int .i64 2, .int .i64 0, .string ⟨#[]⟩, .int .i64 0] 204)) = .ok (.string T) ((w.alloc (.cells #[.int .i64 0, .int .i64 0, .string ⟨#[]⟩, .int .i64 0] 204)).alloc (.cells #[.int .i64 2, .int .i64 0, .string ⟨#[]⟩, .int .i64 0] 204)) := by
                rw [hT]; exact conv_at (zs := []) (fun j u hu => by simp at hu)
              rw [← hT] at HRe
              obtain rfl : c = a + 2 := by omega
              clear hT hl hW hM hc0
              go_enter Try.func154, Try.ntmps154
              go_wp2
              refine bodyPost_ret (v := .tuple #[.agg #[.int .i64 2, .int .i64 0, .string T, .int .i64 0], .int .i64 (2), .int .i64 0]) (by simp [results, Try.results154, go_sem]) rfl ?_
              refine ⟨((Below.refl _ _).alloc (Nat.le_refl _) _).alloc (by simp) _, fun q a3 h2 => ?_, fun e2 h2 => (by rw [HRe.out] at h2; cases h2)⟩
              rw [HRe.out] at h2
              cases h2
              refine congrArg (fun z => Ending.returned (.tuple #[.agg #[.int .i64 2, .int .i64 0, .string T, .int .i64 0], .int .i64 z, .int .i64 0])) ?_
              omega
            · have hcv : (convert 47 9 (.slice (some ⟨b, o + (a + 2), none⟩) M (c - (a + 2)))).run Try.prog ((w.alloc (.cells #[.int .i64 0, .int .i64 0, .string ⟨#[]⟩, .int .i64 0] 204)).alloc (.cells #[.int .i64 2, .int .i64 0, .string ⟨#[]⟩, .int .i64 0] 204)) = .ok (.string T) ((w.alloc (.cells #[.int .i64 0, .int .i64 0, .string ⟨#[]⟩, .int .i64 0] 204)).alloc (.cells #[.int .i64 2, .int .i64 0, .string ⟨#[]⟩, .int .i64 0] 204)) := by
                have h5 := conv_at (w := ((w.alloc (.cells #[.int .i64 0, .int .i64 0, .string ⟨#[]⟩, .int .i64 0] 204)).alloc (.cells #[.int .i64 2, .int .i64 0, .string ⟨#[]⟩, .int .i64 0] 204))) (ad := ⟨b, o + (a + 2), none⟩) (c := c - (a + 2)) (zs := bytesAt f (a + 2) M) (fun j u hu => by
                  by_cases hj : j < M
                  · simp only [bytesAt, List.map_map, List.getElem?_map, List.getElem?_range hj, Option.map_some, Function.comp_apply, Option.some.injEq] at hu
                    rw [← hu, Go.WideShapes.add_plain, Nat.add_assoc]
                    exact (World.cell?_of_block (a := ⟨b, o + (a + 2 + j), none⟩) (hW.block b hbl)).trans (hat _ (by omega))
                  · rw [List.getElem?_eq_none (by simp [bytesAt]; omega)] at hu; cases hu)
                rw [hl] at h5
                rw [hT]
                exact h5
              rw [← hT] at HRe
              clear hT hl hW
              go_enter Try.func154, Try.ntmps154
              go_wp2
              refine bodyPost_ret (v := .tuple #[.agg #[.int .i64 2, .int .i64 0, .string T, .int .i64 0], .int .i64 (2 + (M : Int)), .int .i64 0]) (by simp [results, Try.results154, go_sem]) rfl ?_
              refine ⟨((Below.refl _ _).alloc (Nat.le_refl _) _).alloc (by simp) _, fun q a3 h2 => ?_, fun e2 h2 => (by rw [HRe.out] at h2; cases h2)⟩
              rw [HRe.out] at h2
              cases h2
              refine congrArg (fun z => Ending.returned (.tuple #[.agg #[.int .i64 2, .int .i64 0, .string T, .int .i64 0], .int .i64 z, .int .i64 0])) ?_
              omega
    · by_cases hd3 : d = 3
      · subst hd3
        have hr : R = .error 23 := by have h2 := HR.out; simp at h2; exact h2
        have HRe := hid hr
        clear hr HR
        go_enter Try.func154, Try.ntmps154
        go_wp2
        refine bodyPost_ret (v := .tuple #[.agg #[.int .i64 (3), .int .i64 (0), .string ⟨#[]⟩, .int .i64 (0)], .int .i64 (0), .int .i64 23]) (by simp [results, Try.results154, go_sem]) rfl ?_
        exact ⟨((Below.refl _ _).alloc (Nat.le_refl _) _).alloc (by simp) _, fun q a3 h2 => (by rw [HRe.out] at h2; cases h2), fun e2 h2 => (by rw [HRe.out] at h2; cases h2; exact ⟨_, _, _, _, _, rfl⟩)⟩
      · have hd3' : ¬ (d : Int) = 3 := by omega
        by_cases hn1 : n ≤ a + 1
        · have hn1' : (n : Int) ≤ (a : Int) + 1 := by omega
          have hr : R = .error 28 := by have h2 := HR.out; simp [hd3, hn1] at h2; exact h2
          have HRe := hid hr
          clear hr HR
          go_enter Try.func154, Try.ntmps154
          go_wp2
          refine bodyPost_ret (v := .tuple #[.agg #[.int .i64 (3), .int .i64 (0), .string ⟨#[]⟩, .int .i64 (0)], .int .i64 (0), .int .i64 28]) (by simp [results, Try.results154, go_sem]) rfl ?_
          exact ⟨((Below.refl _ _).alloc (Nat.le_refl _) _).alloc (by simp) _, fun q a3 h2 => (by rw [HRe.out] at h2; cases h2), fun e2 h2 => (by rw [HRe.out] at h2; cases h2; exact ⟨_, _, _, _, _, rfl⟩)⟩
        · have hn1' : ¬ (n : Int) ≤ (a : Int) + 1 := by omega
          obtain ⟨hg1, hg2⟩ := HY.out.fit (a + 1) (by omega)
          obtain ⟨M, hM⟩ := Int.eq_ofNat_of_zero_le hg1
          have hc1 := hat (a + 1) (by omega)
          rw [hM] at hc1
          have hM2 : M < 256 := by omega
          by_cases hM6 : 6 < M
          · have hM6' : (6 : Int) < (M : Int) := by omega
            have hr : R = .error 22 := by have h2 := HR.out; simp [hd3, hn1, hM, hM6] at h2; exact h2
            have HRe := hid hr
            clear hr HR
            go_enter Try.func154, Try.ntmps154
            go_wp2
            refine bodyPost_ret (v := .tuple #[.agg #[.int .i64 (3), .int .i64 (0), .string ⟨#[]⟩, .int .i64 (M)], .int .i64 (0), .int .i64 22]) (by simp [results, Try.results154, go_sem]) rfl ?_
            exact ⟨((Below.refl _ _).alloc (Nat.le_refl _) _).alloc (by simp) _, fun q a3 h2 => (by rw [HRe.out] at h2; cases h2), fun e2 h2 => (by rw [HRe.out] at h2; cases h2; exact ⟨_, _, _, _, _, rfl⟩)⟩
          · have hM6' : ¬ (6 : Int) < (M : Int) := by omega
            have hr : R = .ok (⟨3, 0, ⟨#[]⟩, M⟩, a + 2) := by have h2 := HR.out; simp [hd3, hn1, hM, hM6] at h2; exact h2
            have HRe := hid hr
            clear hr HR
            go_enter Try.func154, Try.ntmps154
            go_wp2
            refine bodyPost_ret (v := .tuple #[.agg #[.int .i64 (3), .int .i64 (0), .string ⟨#[]⟩, .int .i64 (M)], .int .i64 (2), .int .i64 0]) (by simp [results, Try.results154, go_sem]) rfl ?_
            refine ⟨((Below.refl _ _).alloc (Nat.le_refl _) _).alloc (by simp) _, fun q a3 h2 => ?_, fun e2 h2 => (by rw [HRe.out] at h2; cases h2)⟩
            rw [HRe.out] at h2
            cases h2
            refine congrArg (fun z => Ending.returned (.tuple #[.agg #[.int .i64 (3), .int .i64 (0), .string ⟨#[]⟩, .int .i64 (M)], .int .i64 z, .int .i64 0])) ?_
            omega
end Go.Proofs.Ytikfpoabaaiegaa

namespace Go.Proofs.Ytikfpoabaaiegaa
open Go.RowKit
set_option maxRecDepth 8000

theorem map_getD (l : List VT) : (List.range l.length).map (fun j => l.getD j .nil) = l := by
  apply List.ext_getElem
  · simp
  · intro i h1 h2
    simp [List.getD_eq_getElem?_getD, List.getElem?_eq_getElem h2]
theorem flatP_mkL (l : List VT) : flatP (mkL l) = ⟨3, 0, ⟨#[]⟩, l.length⟩ :: l.flatMap flatP := by
  unfold mkL
  rw [flatP_eq]
  congr 1
  have h := congrArg (List.flatMap flatP) (map_getD l)
  rw [List.flatMap_map] at h
  exact h
abbrev PR := Except Nat (List PT × Nat × Nat)
def ahead (ps : List PT) : PR → PR
  | .error e => .error e
  | .ok (l, a, q) => .ok (ps ++ l, a, q)
theorem ahead_ahead (x y : List PT) (r : PR) : ahead x (ahead y r) = ahead (x ++ y) r := by
  cases r with
  | error e => rfl
  | ok t => obtain ⟨l, a, q⟩ := t; simp [ahead]
theorem ahead_nil (r : PR) : ahead [] r = r := by
  cases r with
  | error e => rfl
  | ok t => rfl
def remU (f : Nat → Int) (n : Nat) : List Nat → Nat → Nat → PR
  | [], a, q => .ok ([], a, q)
  | c :: st, a, q =>
    match itemsS (decS f n (2 - st.length) (st.length + 1)) (c - 1) a q with
    | .error e => .error e
    | .ok (l, a', q') => ahead (l.flatMap flatP) (remU f n st a' q')
def headS (f : Nat → Int) (n : Nat) (st : List Nat) (a q : Nat) : PR :=
  match decS f n (3 - st.length) st.length a q with
  | .error e => .error e
  | .ok (v, a', q') => ahead (flatP v) (remU f n st a' q')
theorem itemsS_cons (g : Nat → Nat → DR) : ∀ m a q, itemsS g (m + 1) a q = match g a q with
    | .error e => .error e
    | .ok (v, a1, q1) => match itemsS g m a1 q1 with
      | .error e => .error e
      | .ok (l, a2, q2) => .ok (v :: l, a2, q2) := by
  intro m
  induction m with
  | zero =>
    intro a q
    simp only [itemsS]
    cases g a q with
    | error e => rfl
    | ok t => rfl
  | succ m ih =>
    intro a q
    rw [itemsS, ih]
    cases g a q with
    | error e => rfl
    | ok t =>
      obtain ⟨v, a1, q1⟩ := t
      simp only [itemsS]
      cases itemsS g m a1 q1 with
      | error e => rfl
      | ok t2 =>
        obtain ⟨l, a2, q2⟩ := t2
        simp only
        cases g a2 q2 with
        | error e => rfl
        | ok t3 => rfl
theorem remU_one (f : Nat → Int) (n : Nat) (st : List Nat) (a q : Nat) : remU f n (1 :: st) a q = remU f n st a q := by
  rw [remU]
  simp only [Nat.sub_self, itemsS, List.flatMap_nil]
  exact ahead_nil _
theorem remU_more (f : Nat → Int) (n : Nat) (c : Nat) (st : List Nat) (a q : Nat) : remU f n ((c + 2) :: st) a q = headS f n ((c + 1) :: st) a q := by
  rw [remU, headS]
  rw [show c + 2 - 1 = c + 1 by omega, itemsS_cons]
  rw [show 3 - ((c + 1) :: st).length = 2 - st.length by simp, show ((c + 1) :: st).length = st.length + 1 by simp]
  cases decS f n (2 - st.length) (st.length + 1) a q with
  | error e => rfl
  | ok t =>
    obtain ⟨v, a1, q1⟩ := t
    simp only
    rw [remU, Nat.add_sub_cancel]
    cases itemsS (decS f n (2 - st.length) (st.length + 1)) c a1 q1 with
    | error e => rfl
    | ok t2 =>
      obtain ⟨l, a2, q2⟩ := t2
      simp only [List.flatMap_cons]
      rw [ahead_ahead]
structure RPOk (n d a : Nat) (q : PT) (a1 : Nat) : Prop where
  k : q.kind = 0 ∨ q.kind = 1 ∨ q.kind = 2 ∨ q.kind = 3
  leaf : q.kind ≠ 3 → q.n = 0
  list : q.kind = 3 → q.int = 0 ∧ q.text = ⟨#[]⟩ ∧ d ≠ 3
  i0 : -9223372036854775808 ≤ q.int
  i1 : q.int ≤ 9223372036854775807
  s : q.text.size ≤ 24
  m : q.n ≤ 6
  lt : a < a1
  le : a1 ≤ n
theorem grpS_gt (f : Nat → Int) (n : Nat) : ∀ k a i u r, grpS f n k a i u = some r → a < r.2 := by
  intro k
  induction k with
  | zero => intro a i u r h; cases h
  | succ k ih =>
    intro a i u r h
    rw [grpS] at h
    split at h
    · cases h
    · split at h
      · cases h
      · split at h
        · cases h
          exact Nat.lt_succ_self a
        · have := ih _ _ _ _ h
          omega
theorem rpS_ok {f : Nat → Int} {n d a : Nat} {q : PT} {a1 : Nat} (h : rpS f n d a = .ok (q, a1)) (ha : a < n) : RPOk n d a q a1 := by
  unfold rpS at h
  split at h
  · cases h
  split at h
  · cases h
  rename_i h3 hd
  split at h
  · simp only [Except.ok.injEq, Prod.mk.injEq] at h
    obtain ⟨rfl, rfl⟩ := h
    exact ⟨by simp, fun _ => rfl, fun h => (by simp at h), by simp, by simp, Nat.zero_le _, by simp, by omega, by omega⟩
  split at h
  · split at h
    · cases h
    · rename_i u a2 h2
      simp only [Except.ok.injEq, Prod.mk.injEq] at h
      obtain ⟨rfl, rfl⟩ := h
      have h4 := grpS_le _ _ _ _ _ _ _ h2
      have h5 := grpS_gt _ _ _ _ _ _ _ h2
      have h6 := h4.2 (by omega) (by omega) (by omega)
      have h7 := h4.1
      simp only at h5 h6 h7
      refine ⟨by simp, fun _ => rfl, fun h => (by simp at h), ?_, ?_, Nat.zero_le _, by simp, by omega, h7⟩
      · simp only [unfoldI]; split <;> omega
      · simp only [unfoldI]; split <;> omega
  split at h
  · cases h
  split at h
  · split at h
    · cases h
    split at h
    · cases h
    · simp only [Except.ok.injEq, Prod.mk.injEq] at h
      obtain ⟨rfl, rfl⟩ := h
      refine ⟨by simp, fun _ => rfl, fun h => (by simp at h), by simp, by simp, ?_, by simp, by omega, by omega⟩
      simp only [strOf_size, bytesAt, List.length_map, List.length_range]
      omega
  split at h
  · cases h
  · simp only [Except.ok.injEq, Prod.mk.injEq] at h
    obtain ⟨rfl, rfl⟩ := h
    refine ⟨by simp, fun h => (by simp at h), fun _ => ⟨rfl, rfl, ?_⟩, by simp, by simp, Nat.zero_le _, by simp only; omega, by omega, by omega⟩
    intro hd3
    exact hd ⟨by omega, hd3⟩
theorem rpS_errs {f : Nat → Int} {n d a e : Nat} (h : rpS f n d a = .error e) : 0 < e ∧ e < 64 := by
  unfold rpS at h
  split at h
  · cases h; omega
  split at h
  · cases h; omega
  split at h
  · cases h
  split at h
  · split at h
    · cases h; omega
    · cases h
  split at h
  · cases h; omega
  split at h
  · split at h
    · cases h; omega
    split at h
    · cases h; omega
    · cases h
  split at h
  · cases h; omega
  · cases h
def leafV (q : PT) : VT := .mk q.kind q.int q.text 0 none 0 (fun _ => .nil)
theorem partS_rp {f : Nat → Int} {n : Nat} (g : Nat → Nat → DR) {d a q : Nat} (ha : a < n) (hq : q < 12) (hd : d ≤ 3) : partS f n g d a q = match rpS f n d a with
    | .error e => .error e
    | .ok (t, a1) => if t.kind = 3 then (match itemsS g t.n a1 (q + 1) with | .error e => .error e | .ok (l, a', q') => .ok (mkL l, a', q')) else .ok (leafV t, a1, q + 1) := by
  unfold partS rpS
  rw [if_neg (by omega), if_neg (by omega)]
  by_cases h3 : 3 < (f a).toNat
  · rw [if_pos h3, if_pos h3]
  rw [if_neg h3, if_neg h3]
  by_cases hdd : (f a).toNat = 3 ∧ 3 ≤ d
  · rw [if_pos hdd, if_pos (show (f a).toNat = 3 ∧ d = 3 from ⟨hdd.1, by omega⟩)]
  rw [if_neg hdd, if_neg (show ¬ ((f a).toNat = 3 ∧ d = 3) from fun h => hdd ⟨h.1, by omega⟩)]
  by_cases h0 : (f a).toNat = 0
  · rw [if_pos h0, if_pos h0]; rfl
  rw [if_neg h0, if_neg h0]
  by_cases h1 : (f a).toNat = 1
  · rw [if_pos h1, if_pos h1]
    cases grpS f n 10 (a + 1) 0 0 with
    | none => rfl
    | some t => rfl
  rw [if_neg h1, if_neg h1]
  by_cases hn : n ≤ a + 1
  · rw [if_pos hn, if_pos hn]
  rw [if_neg hn, if_neg hn]
  by_cases h2 : (f a).toNat = 2
  · rw [if_pos h2, if_pos h2]
    by_cases h24 : 24 < (f (a + 1)).toNat
    · rw [if_pos h24, if_pos h24]
    rw [if_neg h24, if_neg h24]
    by_cases hs : n < a + 2 + (f (a + 1)).toNat
    · rw [if_pos hs, if_pos hs]
    rw [if_neg hs, if_neg hs]
    rfl
  rw [if_neg h2, if_neg h2]
  by_cases h6 : 6 < (f (a + 1)).toNat
  · rw [if_pos h6, if_pos h6]
  rw [if_neg h6, if_neg h6]
  simp only [if_true]
  cases itemsS g (f (a + 1)).toNat (a + 2) (q + 1) with
  | error e => rfl
  | ok t => rfl
theorem headS_end (f : Nat → Int) (n : Nat) (st : List Nat) (a q : Nat) (h : n ≤ a) : headS f n st a q = .error 28 := by
  have key : decS f n (3 - st.length) st.length a q = .error 28 := by
    cases (3 - st.length) with
    | zero => rw [decS, partS, if_pos h]
    | succ k => rw [decS, partS, if_pos h]
  rw [headS, key]
theorem headS_full (f : Nat → Int) (n : Nat) (st : List Nat) (a q : Nat) (h : a < n) (hq : 12 ≤ q) : headS f n st a q = .error 22 := by
  have key : decS f n (3 - st.length) st.length a q = .error 22 := by
    cases (3 - st.length) with
    | zero => rw [decS, partS, if_neg (by omega), if_pos (by omega)]
    | succ k => rw [decS, partS, if_neg (by omega), if_pos (by omega)]
  rw [headS, key]
theorem headS_err {f : Nat → Int} {n : Nat} {st : List Nat} {a q e : Nat} (h : a < n) (hq : q < 12) (hst : st.length ≤ 3) (hr : rpS f n st.length a = .error e) : headS f n st a q = .error e := by
  have key : decS f n (3 - st.length) st.length a q = .error e := by
    cases (3 - st.length) with
    | zero => rw [decS, partS_rp _ h hq hst, hr]
    | succ k => rw [decS, partS_rp _ h hq hst, hr]
  rw [headS, key]
theorem flatP_leaf (q : PT) (h : q.n = 0) : flatP (leafV q) = [q] := by
  obtain ⟨k, i, s, m⟩ := q
  simp only at h
  subst h
  rfl
theorem headS_leaf {f : Nat → Int} {n : Nat} {st : List Nat} {a q a1 : Nat} {t : PT} (h : a < n) (hq : q < 12) (hst : st.length ≤ 3) (hr : rpS f n st.length a = .ok (t, a1)) (h0 : t.n = 0) :
    headS f n st a q = ahead [t] (remU f n st a1 (q + 1)) := by
  have hok := rpS_ok hr h
  have key : ∀ g, partS f n g st.length a q = .ok (if t.kind = 3 then mkL [] else leafV t, a1, q + 1) := by
    intro g
    rw [partS_rp g h hq hst, hr]
    by_cases h3 : t.kind = 3
    · simp only [if_pos h3, h0, itemsS]
    · simp only [if_neg h3]
  have key2 : decS f n (3 - st.length) st.length a q = .ok (if t.kind = 3 then mkL [] else leafV t, a1, q + 1) := by
    cases (3 - st.length) with
    | zero => exact key _
    | succ k => exact key _
  have key3 : flatP (if t.kind = 3 then mkL [] else leafV t) = [t] := by
    by_cases h3 : t.kind = 3
    · rw [if_pos h3, flatP_mkL]
      obtain ⟨h4, h5, _⟩ := hok.list h3
      obtain ⟨k, i, s, m⟩ := t
      simp only at h0 h3 h4 h5
      subst h0 h3 h4 h5
      rfl
    · rw [if_neg h3]; exact flatP_leaf t h0
  rw [headS, key2]
  simp only [key3]
theorem headS_push {f : Nat → Int} {n : Nat} {st : List Nat} {a q a1 : Nat} {t : PT} (h : a < n) (hq : q < 12) (hst : st.length ≤ 3) (hr : rpS f n st.length a = .ok (t, a1)) (h0 : 0 < t.n) :
    headS f n st a q = ahead [t] (headS f n (t.n :: st) a1 (q + 1)) ∧ st.length ≤ 2 := by
  have hok := rpS_ok hr h
  have h3 : t.kind = 3 := Classical.byContradiction fun hne => by have := hok.leaf hne; omega
  obtain ⟨h4, h5, h6⟩ := hok.list h3
  have h7 : st.length ≤ 2 := by omega
  refine ⟨?_, h7⟩
  obtain ⟨m, hm⟩ : ∃ m, t.n = m + 1 := ⟨t.n - 1, by omega⟩
  rw [headS, headS]
  rw [show 3 - st.length = (2 - st.length) + 1 by omega, decS, partS_rp _ h hq hst, hr]
  simp only [if_pos h3, hm, List.length_cons, itemsS_cons]
  rw [show 3 - (st.length + 1) = 2 - st.length by omega]
  have ht : t = ⟨3, 0, ⟨#[]⟩, m + 1⟩ := by
    obtain ⟨k, i, s, m'⟩ := t
    simp only at hm h3 h4 h5
    subst hm h3 h4 h5
    rfl
  cases hde : decS f n (2 - st.length) (st.length + 1) a1 (q + 1) with
  | error e => rfl
  | ok x =>
    obtain ⟨v, a2, q2⟩ := x
    simp only [remU, Nat.add_sub_cancel]
    cases hit : itemsS (decS f n (2 - st.length) (st.length + 1)) m a2 q2 with
    | error e => rfl
    | ok y =>
      obtain ⟨l, a3, q3⟩ := y
      have hl : l.length = m := (itemsS_le (n := n) (fun a q v a' q' h _ => decS_le _ _ _ _ _ _ _ h) _ _ _ _ _ _ hit (decS_le _ _ _ _ _ _ _ hde)).2
      simp only [flatP_mkL, ahead_ahead, List.length_cons, hl, ht, List.flatMap_cons, List.cons_append, List.nil_append]
end Go.Proofs.Ytikfpoabaaiegaa

namespace Go.Proofs.Ytikfpoabaaiegaa
open Go.RowKit
set_option maxRecDepth 8000

end Go.Proofs.Ytikfpoabaaiegaa
