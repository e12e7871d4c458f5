import Derived.Test.YtgnamngnmbaeeaaDoorPack7
import Derived.Still
namespace Go.Proofs.YtgnamngnmbaeeaaDoor
open Go.RowKit
set_option maxRecDepth 8000

/-- the class of an operation that only reads: true: any world -/
def cls (C : World → Prop) (b : Bool) : World → Prop := fun w => b = true ∨ C w
/-- it yields v, in every world of the class, and leaves the world -/
def Yld (P : Program) (ops : Array Oper) (C : World → Prop) (o : Oper) (v : Value) (a : Act) : Prop :=
  (Region.wanted o (yielded ops a.tmps) = true ∧ ∀ w, C w → (execOp a.eval o).run P w = .ok (.value v) w) ∨ (Region.wanted o (yielded ops a.tmps) = false ∧ v = undef)
def wpPre (P : Program) (ops : Array Oper) (C : World → Prop) : List (Nat × Bool) → (Act → Prop) → Act → Prop
  | [], K, a => K a
  | (i, b) :: r, K, a => ∃ o v, ops[i]? = some o ∧ Yld P ops (cls C b) o v a ∧ wpPre P ops C r K (a.put o.dst v)
/-- no way out but the plain one -/
def Qn (Q : Exit → Act → World → Prop) : Exit → Act → World → Prop := fun e a w => e = .normal ∧ Q .normal a w
def wpSeq (P : Program) (ops : Array Oper) (Q : Exit → Act → World → Prop) (C : World → Prop) : List (Nat × Bool) → Act → World → Prop
  | [], a, w => Q .normal a w
  | (m, b) :: r, a, w => wpOp P ops (Qn Q) m (fun a w => (b = true → C w) ∧ wpSeq P ops Q C r a w) a w

section
variable {P : Program} {ops : Array Oper} {Q : Exit → Act → World → Prop} {C : World → Prop}
theorem Qn_out : ¬ LetsOut (Qn Q) := fun ⟨_, _, h, _⟩ => by cases h
theorem Yld.put {oi : Oper} {dj : Option Tmp} {v : Value} {a : Act} {C : World → Prop} (hs : ∀ cs b, oi.op ≠ .select cs b) (h3 : ∀ d, dj = some d → d ∉ oi.looksAt ops) (hy : Yld P ops C oi v a) (u : Value) : Yld P ops C oi v (a.put dj u) := by
  unfold Yld at *
  rw [execOp_put oi hs a dj u h3, wanted_put oi a dj u h3]
  exact hy
theorem Yld.unput {oi : Oper} {dj : Option Tmp} {v u : Value} {a : Act} {C : World → Prop} (hs : ∀ cs b, oi.op ≠ .select cs b) (h3 : ∀ d, dj = some d → d ∉ oi.looksAt ops) (hy : Yld P ops C oi v (a.put dj u)) : Yld P ops C oi v a := by
  unfold Yld at *
  rw [execOp_put oi hs a dj u h3, wanted_put oi a dj u h3] at hy
  exact hy

def apB (ops : Array Oper) (i j : Nat) : Bool := match ops[i]?, ops[j]? with
  | some a, some b => a.apart ops b
  | _, _ => false
theorem apB_spec {i j : Nat} {a b : Oper} (h : apB ops i j = true) (ha : ops[i]? = some a) (hb : ops[j]? = some b) : a.apart ops b = true := by
  unfold apB at h
  rw [ha, hb] at h
  exact h

theorem wpPre_move (hsel : Region.noSelect ops = true) (i : Nat) (b : Bool) (l2 : List (Nat × Bool)) (K : Act → Prop) : ∀ (l1 : List (Nat × Bool)) (a : Act), (∀ x ∈ l1, apB ops x.1 i = true) →
    wpPre P ops C (l1 ++ (i, b) :: l2) K a → wpPre P ops C ((i, b) :: (l1 ++ l2)) K a
  | [], _, _, h => h
  | x :: l1, a, hap, h => by
    obtain ⟨ox, u, hox, hyx, h⟩ := h
    obtain ⟨oi, v, hoi, hyi, h'⟩ := wpPre_move hsel i b l2 K l1 _ (fun y hy => hap y (by simp [hy])) h
    obtain ⟨h1, h2, h3⟩ := Oper.apart_spec (apB_spec (hap x (by simp)) hox hoi)
    refine ⟨oi, v, hoi, hyi.unput (fun cs b => Region.noSelect_spec hsel i oi cs b hoi) h1, ox, u, hox, hyx.put (fun cs b => Region.noSelect_spec hsel _ ox cs b hox) h3 v, ?_⟩
    rw [← Act.put_comm a u v h2]
    exact h'

theorem wpOp_put {x i : Nat} {ox oi : Oper} {u : Value} {a : Act} {w : World} {C : World → Prop} (hsel : Region.noSelect ops = true) (hox : ops[x]? = some ox) (hoi : ops[i]? = some oi) (hap : ox.apart ops oi = true) {K : Act → World → Prop}
    (hy : Yld P ops C ox u a) (h : wpOp P ops (Qn Q) i K (a.put ox.dst u) w) : wpOp P ops (Qn Q) i (fun a' w' => Yld P ops C ox u a' ∧ K (a'.put ox.dst u) w') a w := by
  obtain ⟨h1, h2, h3⟩ := Oper.apart_spec hap
  have hsi := fun cs b => Region.noSelect_spec hsel i oi cs b hoi
  have keep : ∀ a0, Yld P ops C ox u a0 → ∀ v, Yld P ops C ox u (a0.put oi.dst v) := fun a0 h0 v => h0.put (fun cs b => Region.noSelect_spec hsel _ ox cs b hox) h3 v
  unfold wpOp at *
  simp only [hoi] at *
  rw [wanted_put oi a ox.dst u h1] at h
  split
  · rename_i hw
    simp only [hw, if_true] at h
    rcases h with h | ⟨_, hl⟩
    · left
      unfold Oper.wp at *
      rw [execOp_put oi hsi a ox.dst u h1] at h
      generalize (execOp a.eval oi).run P w = r at *
      cases r with
      | ok n w' =>
        cases n <;> simp only [Oper.upon] at h ⊢
        case value v => exact ⟨keep a hy v, by rw [← Act.put_comm a u v h2]; exact h⟩
        case skip => exact ⟨keep a hy _, by rw [← Act.put_comm a u undef h2]; exact h⟩
        case defer d =>
          refine ⟨keep { a with defers := d :: a.defers } hy _, ?_⟩
          rw [← Act.put_comm { a with defers := d :: a.defers } u undef h2]
          have e : ({ a with defers := d :: a.defers } : Act).put ox.dst u = { a.put ox.dst u with defers := d :: (a.put ox.dst u).defers } := by cases ox.dst <;> rfl
          rw [e]
          exact h
        case enter f args =>
          refine Calls.mono h fun e w'' he => ?_
          cases e with
          | returned v => exact ⟨keep a hy v, by rw [← Act.put_comm a u v h2]; exact he⟩
          | panicked c => exact absurd he.1 (by simp)
          | outgrown => exact absurd he Qn_out
        case row row args => exact Rows.mono h fun v w'' he => ⟨keep a hy v, by rw [← Act.put_comm a u v h2]; exact he⟩
      | halt x w' =>
        cases x <;> simp only [Oper.upon] at h ⊢
        exact absurd h.1 (by simp)
    · exact absurd hl Qn_out
  · rename_i hw
    simp only [hw] at h
    exact ⟨keep a hy _, by rw [← Act.put_comm a u undef h2]; exact h⟩

theorem wpPre_past {w : World} {i : Nat} {oi : Oper} (hsel : Region.noSelect ops = true) (hoi : ops[i]? = some oi) (K : Act → World → Prop) : ∀ (pre : List (Nat × Bool)) (a : Act), (∀ x ∈ pre, apB ops x.1 i = true) →
    wpPre P ops C pre (fun a => wpOp P ops (Qn Q) i K a w) a → wpOp P ops (Qn Q) i (fun a' w' => wpPre P ops C pre (fun a => K a w') a') a w
  | [], _, _, h => h
  | x :: r, a, hap, h => by
    obtain ⟨ox, u, hox, hyx, h⟩ := h
    have h1 := wpPre_past hsel hoi K r _ (fun y hy => hap y (by simp [hy])) h
    exact wpOp_mono (fun a' w' h2 => ⟨ox, u, hox, h2.1, h2.2⟩) (wpOp_put hsel hox hoi (apB_spec (hap x (by simp)) hox hoi) hyx h1)

theorem wpOp_Qn {i : Nat} {K : Act → World → Prop} {a : Act} {w : World} (h : wpOp P ops (Qn Q) i K a w) : wpOp P ops Q i K a w := by
  unfold wpOp at *
  split
  · rename_i ho
    rw [ho] at h
    exact h
  · rename_i o ho
    simp only [ho] at h
    split
    · rename_i hw
      simp only [hw, if_true] at h
      rcases h with h | ⟨_, hl⟩
      · left
        unfold Oper.wp at *
        generalize (execOp a.eval o).run P w = r at *
        cases r with
        | ok n w' =>
          cases n <;> simp only [Oper.upon] at h ⊢
          case enter f args =>
            refine Calls.mono h fun e w'' he => ?_
            cases e with
            | returned v => exact he
            | panicked c => exact absurd he.1 (by simp)
            | outgrown => exact absurd he Qn_out
          all_goals exact h
        | halt x w' =>
          cases x <;> simp only [Oper.upon] at h ⊢
          exact absurd h.1 (by simp)
      · exact absurd hl Qn_out
    · rename_i hw
      simp only [hw] at h
      exact h

/-- j waits for i, by some way -/
def reachB (ops : Array Oper) : Nat → Nat → Nat → Bool
  | 0, _, _ => false
  | f + 1, j, i => match ops[j]? with
    | none => false
    | some o => o.after.any fun e => Region.binds .any e && (e.on == i || reachB ops f e.on i)
theorem reach_done {D : Nat → Prop} (hcl : ∀ (j : Nat) (o : Oper), ops[j]? = some o → D j → ∀ e ∈ o.after, Region.binds .any e = true → D e.on) :
    ∀ (f j i : Nat), reachB ops f j i = true → (∀ o, ops[j]? = some o → ∀ e ∈ o.after, Region.binds .any e = true → D e.on) → D i
  | 0, _, _, h, _ => by cases h
  | f + 1, j, i, h, hd => by
    unfold reachB at h
    split at h
    · cases h
    · rename_i o ho
      obtain ⟨e, he, hb⟩ := Array.any_eq_true'.1 h
      simp only [Bool.and_eq_true, Bool.or_eq_true, beq_iff_eq] at hb
      have hon := hd o ho e he hb.1
      rcases hb.2 with h1 | h1
      · rw [← h1]; exact hon
      · exact reach_done hcl f e.on i h1 (fun o' ho' => hcl e.on o' ho' hon)

def pairsB (R : Nat → Nat → Bool) : List Nat → Bool
  | [] => true
  | x :: l => l.all (R x) && pairsB R l
theorem pairsB_spec {R : Nat → Nat → Bool} : ∀ {l : List Nat}, pairsB R l = true → l.Pairwise (fun x y => R x y = true)
  | [], _ => .nil
  | x :: l, h => by
    simp only [pairsB, Bool.and_eq_true, List.all_eq_true] at h
    exact .cons h.1 (pairsB_spec h.2)

def calmB (ops : Array Oper) (f : Nat) (pre sq : List (Nat × Bool)) : Bool :=
  Region.noSelect ops && acB ops && pairsB (fun i j => i != j) (pre.map (·.1) ++ sq.map (·.1)) &&
  (List.range ops.size).all (fun j => (pre.map (·.1) ++ sq.map (·.1)).contains j) && (pre.map (·.1) ++ sq.map (·.1)).all (fun j => decide (j < ops.size)) &&
  pairsB (fun i j => apB ops i j || reachB ops f j i) (pre.map (·.1)) &&
  pre.all (fun x => sq.all fun y => (apB ops x.1 y.1 && (x.2 || y.2)) || reachB ops f y.1 x.1) &&
  pairsB (fun i j => reachB ops f j i) (sq.map (·.1))

/-- what holds while the region is gone through -/
structure Calm (P : Program) (ops : Array Oper) (Q : Exit → Act → World → Prop) (C : World → Prop) (pre sq : List (Nat × Bool)) (D : Nat → Prop) (a : Act) (w : World) (pre' sq' : List (Nat × Bool)) : Prop where
  sp : pre'.Sublist pre
  ss : sq'.Sublist sq
  mem : ∀ j, (j ∈ pre'.map (·.1) ∨ j ∈ sq'.map (·.1)) ↔ (j < ops.size ∧ ¬ D j)
  wc : C w ∨ ∀ x ∈ pre', x.2 = true
  cl : ∀ (j : Nat) (o : Oper), ops[j]? = some o → D j → ∀ e ∈ o.after, Region.binds .any e = true → D e.on
  wp : wpPre P ops C pre' (fun a => wpSeq P ops Q C sq' a w) a

theorem wp_region_calm {rid : Nat} {a : Act} {w : World} (f : Nat) (C : World → Prop) (pre sq : List (Nat × Bool)) (hm : P.follows .mixedOrders = true) (hB : calmB ops f pre sq = true) (hC : C w.drew)
    (h : wpPre P ops C pre (fun a => wpSeq P ops Q C sq a w.drew) a) : (Code.region rid ops true).wp P Q a w := by
  simp only [calmB, Bool.and_eq_true] at hB
  obtain ⟨⟨⟨⟨⟨⟨⟨hsel, hac⟩, hnd⟩, hcov⟩, hlt⟩, hpp⟩, hps⟩, hss⟩ := hB
  have hnd := pairsB_spec hnd
  have hpp := pairsB_spec hpp
  have hss := pairsB_spec hss
  simp only [List.all_eq_true] at hcov hlt hps
  refine wp_region_inv hm (fun D a w => ∃ pre' sq', Calm P ops Q C pre sq D a w pre' sq') ?_ hac ?_ ?_ ?_
  · rintro D D' a w hD ⟨p, s, hk⟩
    have e : D = D' := funext fun j => propext (hD j)
    subst e
    exact ⟨p, s, hk⟩
  · intro D hD
    refine ⟨pre, sq, .refl _, .refl _, fun j => ⟨fun hj => ⟨?_, hD j⟩, fun hj => ?_⟩, .inl hC, fun j o _ hj => absurd hj (hD j), h⟩
    · exact of_decide_eq_true (hlt j (List.mem_append.2 hj))
    · exact List.mem_append.1 (List.contains_iff_mem.1 (hcov j (List.mem_range.2 hj.1)))
  · rintro D a w ⟨p, s, hk⟩ i o ho hnD hdep
    have hil : i < ops.size := (Array.getElem?_eq_some_iff.1 ho).1
    have hnot : ∀ x, (x ∈ p.map (·.1) ∨ x ∈ s.map (·.1)) → reachB ops f i x = true → False := fun x hx hr =>
      ((hk.mem x).1 hx).2 (reach_done hk.cl f i x hr (fun o' ho' => by obtain rfl := Option.some.inj (ho.symm.trans ho'); exact hdep))
    have hcl' : ∀ (j : Nat) (o : Oper), ops[j]? = some o → (D j ∨ j = i) → ∀ e ∈ o.after, Region.binds .any e = true → (D e.on ∨ e.on = i) := by
      intro j o' ho' hj e he hb
      rcases hj with hj | rfl
      · exact .inl (hk.cl j o' ho' hj e he hb)
      · obtain rfl := Option.some.inj (ho.symm.trans ho')
        exact .inl (hdep e he hb)
    have hnd' : (p.map (·.1) ++ s.map (·.1)).Pairwise (fun i j => (i != j) = true) := hnd.sublist ((hk.sp.map _).append (hk.ss.map _))
    rcases (hk.mem i).2 ⟨hil, hnD⟩ with hi | hi
    · obtain ⟨⟨i0, b⟩, hx, hx0⟩ := List.mem_map.1 hi
      obtain rfl : i0 = i := hx0
      obtain ⟨l1, l2, rfl⟩ := List.append_of_mem hx
      have hap : ∀ x ∈ l1, apB ops x.1 i0 = true := by
        intro x hx
        have h1 := hpp.sublist (hk.sp.map (·.1))
        rw [List.map_append, List.map_cons, List.pairwise_append] at h1
        have h2 := h1.2.2 x.1 (List.mem_map_of_mem hx) i0 (by simp)
        simp only [Bool.or_eq_true] at h2
        rcases h2 with h2 | h2
        · exact h2
        · exact (hnot x.1 (.inl (by rw [List.map_append, List.mem_append]; exact .inl (List.mem_map_of_mem hx))) h2).elim
      obtain ⟨oi, v, hoi, hy, h'⟩ := wpPre_move hsel i0 b l2 _ l1 a hap hk.wp
      obtain rfl := Option.some.inj (ho.symm.trans hoi)
      have hcw : cls C b w := by
        rcases hk.wc with h1 | h1
        · exact .inr h1
        · exact .inl (h1 (i0, b) (by simp))
      have hni : ∀ j, j ∈ (l1 ++ l2).map (·.1) ∨ j ∈ s.map (·.1) → j ≠ i0 := by
        intro j hj
        rw [List.map_append, List.map_cons, List.append_assoc, List.pairwise_append] at hnd'
        obtain ⟨-, h2, h3⟩ := hnd'
        rw [List.cons_append, List.pairwise_cons] at h2
        rw [List.map_append, List.mem_append] at hj
        rcases hj with (hj | hj) | hj
        · have := h3 j hj i0 (by simp); simpa using this
        · have := h2.1 j (by simp; exact .inl (by simpa using hj)); exact fun e => by subst e; simp at this
        · have := h2.1 j (by simp; exact .inr (by simpa using hj)); exact fun e => by subst e; simp at this
      have hnew : Calm P ops Q C pre sq (fun j => D j ∨ j = i0) (a.put o.dst v) w (l1 ++ l2) s := by
        refine ⟨(List.Sublist.append_left (List.sublist_cons_self _ _) l1).trans hk.sp, hk.ss, fun j => ?_, hk.wc.imp id (fun h1 x hx => h1 x (by simp at hx ⊢; rcases hx with hx | hx; exact .inl hx; exact .inr (.inr hx))), hcl', h'⟩
        constructor
        · intro hj
          have h1 := (hk.mem j).1 (by rcases hj with hj | hj; · left; rw [List.map_append, List.mem_append] at hj ⊢; rw [List.map_cons]; exact hj.imp id (List.mem_cons_of_mem _)
                                      · exact .inr hj)
          exact ⟨h1.1, fun h2 => h2.elim h1.2 (hni j hj)⟩
        · rintro ⟨h1, h2⟩
          have h3 := (hk.mem j).2 ⟨h1, fun h4 => h2 (.inl h4)⟩
          rcases h3 with h3 | h3
          · left
            rw [List.map_append, List.mem_append] at h3 ⊢
            rw [List.map_cons, List.mem_cons] at h3
            rcases h3 with h3 | h3 | h3
            · exact .inl h3
            · exact absurd (.inr h3) h2
            · exact .inr h3
          · exact .inr h3
      unfold wpOp
      simp only [ho]
      rcases hy with ⟨hw, hv⟩ | ⟨hw, rfl⟩
      · rw [if_pos hw]
        left
        unfold Oper.wp
        rw [hv w hcw]
        exact ⟨_, _, hnew⟩
      · rw [if_neg (by rw [hw]; simp)]
        exact ⟨_, _, hnew⟩
    · obtain ⟨⟨i0, b⟩, hx, hx0⟩ := List.mem_map.1 hi
      obtain rfl : i0 = i := hx0
      cases s with
      | nil => cases hx
      | cons y r =>
        have hyi : y = (i0, b) := by
          rcases List.mem_cons.1 hx with h1 | h1
          · exact h1.symm
          · exfalso
            have h2 := hss.sublist (hk.ss.map (·.1))
            rw [List.map_cons, List.pairwise_cons] at h2
            exact hnot y.1 (.inr (by simp)) (h2.1 i0 (List.mem_map.2 ⟨_, h1, rfl⟩))
        subst hyi
        have hboth : ∀ x ∈ p, apB ops x.1 i0 = true ∧ (x.2 = true ∨ b = true) := by
          intro x hx
          have h1 := hps x (hk.sp.subset hx) (i0, b) (hk.ss.subset (by simp))
          simp only [Bool.or_eq_true, Bool.and_eq_true] at h1
          rcases h1 with h1 | h1
          · exact h1
          · exact (hnot x.1 (.inl (List.mem_map_of_mem hx)) h1).elim
        have h1 := wpOp_Qn (wpPre_past (w := w) (Q := Q) hsel ho _ p a (fun x hx => (hboth x hx).1) hk.wp)
        refine wpOp_mono (fun a' w' h2 => ?_) h1
        have hni : ∀ j, j ∈ p.map (·.1) ∨ j ∈ r.map (·.1) → j ≠ i0 := by
          intro j hj
          rw [List.map_cons, List.pairwise_append] at hnd'
          obtain ⟨-, h2, h3⟩ := hnd'
          rw [List.pairwise_cons] at h2
          rcases hj with hj | hj
          · have := h3 j hj i0 (by simp); simpa using this
          · have := h2.1 j hj; exact fun e => by subst e; simp at this
        have hsplit : (∀ x ∈ p, x.2 = true) ∨ (b = true) := by
          by_cases hb : b = true
          · exact .inr hb
          · exact .inl fun x hx => (hboth x hx).2.elim id (fun h => absurd h hb)
        -- the class at the new world
        have hcw : (C w' ∨ ∀ x ∈ p, x.2 = true) ∧ wpPre P ops C p (fun a => wpSeq P ops Q C r a w') a' := by
          constructor
          · rcases hsplit with h3 | h3
            · exact .inr h3
            · have : ∀ (p : List (Nat × Bool)) (a : Act), wpPre P ops C p (fun a => (b = true → C w') ∧ wpSeq P ops Q C r a w') a → C w' := by
                intro p
                induction p with
                | nil => intro a h4; exact h4.1 h3
                | cons x p ih => rintro a ⟨_, _, _, _, h4⟩; exact ih _ h4
              exact .inl (this p a' h2)
          · have : ∀ (p : List (Nat × Bool)) (a : Act), wpPre P ops C p (fun a => (b = true → C w') ∧ wpSeq P ops Q C r a w') a → wpPre P ops C p (fun a => wpSeq P ops Q C r a w') a := by
              intro p
              induction p with
              | nil => intro a h4; exact h4.2
              | cons x p ih => rintro a ⟨o1, v1, ho1, hy1, h4⟩; exact ⟨o1, v1, ho1, hy1, ih _ h4⟩
            exact this p a' h2
        refine ⟨p, r, hk.sp, (List.sublist_cons_self _ _).trans hk.ss, fun j => ?_, hcw.1, hcl', hcw.2⟩
        constructor
        · intro hj
          have h3 := (hk.mem j).1 (hj.imp id (fun h => by simp; exact .inr (by simpa using h)))
          exact ⟨h3.1, fun h4 => h4.elim h3.2 (hni j hj)⟩
        · rintro ⟨h3, h4⟩
          have h5 := (hk.mem j).2 ⟨h3, fun h6 => h4 (.inl h6)⟩
          rcases h5 with h5 | h5
          · exact .inl h5
          · rw [List.map_cons, List.mem_cons] at h5
            rcases h5 with h5 | h5
            · exact absurd (.inr h5) h4
            · exact .inr h5
  · rintro D a w ⟨p, s, hk⟩ hall
    have hp : p = [] := by
      cases p with
      | nil => rfl
      | cons x p => have h1 := (hk.mem x.1).1 (.inl (by simp)); exact absurd (hall _ h1.1) h1.2
    have hs : s = [] := by
      cases s with
      | nil => rfl
      | cons x s => have h1 := (hk.mem x.1).1 (.inr (by simp)); exact absurd (hall _ h1.1) h1.2
    subst hp
    subst hs
    exact hk.wp

theorem wpPre_step {i : Nat} {b : Bool} {r : List (Nat × Bool)} {K : Act → Prop} {a : Act} (o : Oper) (v : Value) (ho : ops[i]? = some o) (hg : o.guard = none) (hy : ∀ w, cls C b w → (execOp a.eval o).run P w = .ok (.value v) w) (h : wpPre P ops C r K (a.put o.dst v)) : wpPre P ops C ((i, b) :: r) K a :=
  ⟨o, v, ho, .inl ⟨by simp [Region.wanted, hg], hy⟩, h⟩

/-- one that reads: its value is found by the walk -/
theorem wpPre_e {i : Nat} {b : Bool} {r : List (Nat × Bool)} {K : Act → Prop} {a : Act} {o : Oper} (ho : ops[i]? = some o) (hg : o.guard = none)
    (h : ∀ K' : Act → Prop, (∀ a, wpPre P ops C r K a → K' a) → ∃ v, (∀ w, cls C b w → (execOp a.eval o).run P w = .ok (.value v) w) ∧ K' (a.put o.dst v)) : wpPre P ops C ((i, b) :: r) K a := by
  obtain ⟨v, hy, hk⟩ := h _ (fun _ h => h)
  exact ⟨o, v, ho, .inl ⟨by simp [Region.wanted, hg], hy⟩, hk⟩
theorem wpPre_nil {K : Act → Prop} {a : Act} (h : K a) : wpPre P ops C [] K a := h
theorem wpSeq_nil {a : Act} {w : World} (h : Q .normal a w) : wpSeq P ops Q C [] a w := h
theorem wpSeq_e {m : Nat} {b : Bool} {r : List (Nat × Bool)} {a : Act} {w : World} {o : Oper} (ho : ops[m]? = some o)
    (h : ∀ K' : Act → World → Prop, (∀ a w, (b = true → C w) → wpSeq P ops Q C r a w → K' a w) → if Region.wanted o (yielded ops a.tmps) = true then Oper.wp P o a w K' (Qn Q) else K' (a.put o.dst undef) w) : wpSeq P ops Q C ((m, b) :: r) a w := by
  have h1 := h (fun a w => (b = true → C w) ∧ wpSeq P ops Q C r a w) (fun _ _ h1 h2 => ⟨h1, h2⟩)
  show wpOp P ops (Qn Q) m _ a w
  unfold wpOp
  simp only [ho]
  split
  · rename_i hw
    rw [if_pos hw] at h1
    exact .inl h1
  · rename_i hw
    rw [if_neg hw] at h1
    exact h1
theorem below_fact {w w' : World} {b : Bool} {a : Addr} {v : Value} (h : cls (fun x => Below w.heap.size w x) b w') (hb : b = false) (hc : w.cell? a = some v) : w'.cell? a = some v := by
  have h1 : Below w.heap.size w w' := h.resolve_left (by simp [hb])
  rw [h1.cell (block_lt_of_cell hc)]
  exact hc
end
end Go.Proofs.YtgnamngnmbaeeaaDoor

namespace Go.Proofs.YtgnamngnmbaeeaaDoor
open Go.RowKit
set_option maxRecDepth 8000

/-- a stage: an operation that changes the world, whether it keeps the class, and those behind it that only read -/
abbrev Stg := Nat × Bool × List (Nat × Bool)
def stIdx (st : List Stg) : List Nat := st.flatMap fun s => s.1 :: s.2.2.map (·.1)
def stPre (st : List Stg) : List (Nat × Bool) := st.flatMap fun s => s.2.2
def wpStg (P : Program) (ops : Array Oper) (Q : Exit → Act → World → Prop) (C : World → Prop) : List Stg → Act → World → Prop
  | [], a, w => Q .normal a w
  | (m, b, p) :: r, a, w => wpOp P ops (Qn Q) m (fun a w => (b = true → C w) ∧ wpPre P ops C p (fun a => wpStg P ops Q C r a w) a) a w
def stB (ops : Array Oper) (f : Nat) : List (Nat × Bool) → List Stg → Bool
  | _, [] => true
  | pre, (m, b, p) :: r => pre.all (fun x => (apB ops x.1 m && (x.2 || b)) || reachB ops f m x.1) && (p.map (·.1) ++ stIdx r).all (fun z => reachB ops f z m) && p.all (fun x => x.2 || b) && stB ops f (pre ++ p) r
def calmD (ops : Array Oper) (f : Nat) (pre : List (Nat × Bool)) (st : List Stg) : Bool :=
  Region.noSelect ops && acB ops && pairsB (fun i j => i != j) (pre.map (·.1) ++ stIdx st) &&
  (List.range ops.size).all (fun j => (pre.map (·.1) ++ stIdx st).contains j) && (pre.map (·.1) ++ stIdx st).all (fun j => decide (j < ops.size)) &&
  pairsB (fun i j => apB ops i j || reachB ops f j i) ((pre ++ stPre st).map (·.1)) && stB ops f pre st

section
variable {P : Program} {ops : Array Oper} {Q : Exit → Act → World → Prop} {C : World → Prop}
theorem wpPre_app (K : Act → Prop) : ∀ (p q : List (Nat × Bool)) (a : Act), wpPre P ops C p (fun a => wpPre P ops C q K a) a → wpPre P ops C (p ++ q) K a
  | [], _, _, h => h
  | _ :: p, q, _, ⟨o, v, ho, hy, h⟩ => ⟨o, v, ho, hy, wpPre_app K p q _ h⟩
theorem wpPre_and {A : Prop} (K : Act → Prop) : ∀ (p : List (Nat × Bool)) (a : Act), wpPre P ops C p (fun a => A ∧ K a) a → A ∧ wpPre P ops C p K a
  | [], _, h => h
  | _ :: p, _, ⟨o, v, ho, hy, h⟩ => ⟨(wpPre_and K p _ h).1, o, v, ho, hy, (wpPre_and K p _ h).2⟩

structure CalmD (P : Program) (ops : Array Oper) (Q : Exit → Act → World → Prop) (C : World → Prop) (f : Nat) (T : List (Nat × Bool)) (D : Nat → Prop) (a : Act) (w : World) (pre' : List (Nat × Bool)) (st' : List Stg) (P' : List (Nat × Bool)) : Prop where
  tot : P' ++ stPre st' = T
  sp : pre'.Sublist P'
  sb : stB ops f P' st' = true
  nd : (pre'.map (·.1) ++ stIdx st').Pairwise (fun i j => (i != j) = true)
  mem : ∀ j, (j ∈ pre'.map (·.1) ∨ j ∈ stIdx st') ↔ (j < ops.size ∧ ¬ D j)
  wc : C w ∨ ∀ x ∈ pre', x.2 = true
  cl : ∀ (j : Nat) (o : Oper), ops[j]? = some o → D j → ∀ e ∈ o.after, Region.binds .any e = true → D e.on
  wp : wpPre P ops C pre' (fun a => wpStg P ops Q C st' a w) a

theorem wp_region_calmD {rid : Nat} {a : Act} {w : World} (f : Nat) (C : World → Prop) (pre : List (Nat × Bool)) (st : List Stg) (hm : P.follows .mixedOrders = true) (hB : calmD ops f pre st = true) (hC : C w.drew)
    (h : wpPre P ops C pre (fun a => wpStg P ops Q C st a w.drew) a) : (Code.region rid ops true).wp P Q a w := by
  simp only [calmD, Bool.and_eq_true] at hB
  obtain ⟨⟨⟨⟨⟨⟨hsel, hac⟩, hnd⟩, hcov⟩, hlt⟩, hpp⟩, hsb⟩ := hB
  have hnd := pairsB_spec hnd
  have hpp := pairsB_spec hpp
  simp only [List.all_eq_true] at hcov hlt
  refine wp_region_inv hm (fun D a w => ∃ pre' st' P', CalmD P ops Q C f (pre ++ stPre st) D a w pre' st' P') ?_ hac ?_ ?_ ?_
  · rintro D D' a w hD ⟨p, s, r, hk⟩
    have e : D = D' := funext fun j => propext (hD j)
    subst e
    exact ⟨p, s, r, hk⟩
  · intro D hD
    refine ⟨pre, st, pre, rfl, .refl _, hsb, hnd, fun j => ⟨fun hj => ⟨?_, hD j⟩, fun hj => ?_⟩, .inl hC, fun j o _ hj => absurd hj (hD j), h⟩
    · exact of_decide_eq_true (hlt j (List.mem_append.2 hj))
    · exact List.mem_append.1 (List.contains_iff_mem.1 (hcov j (List.mem_range.2 hj.1)))
  · rintro D a w ⟨p, s, P', hk⟩ i o ho hnD hdep
    have hil : i < ops.size := (Array.getElem?_eq_some_iff.1 ho).1
    have hnot : ∀ x, (x ∈ p.map (·.1) ∨ x ∈ stIdx s) → reachB ops f i x = true → False := fun x hx hr =>
      ((hk.mem x).1 hx).2 (reach_done hk.cl f i x hr (fun o' ho' => by obtain rfl := Option.some.inj (ho.symm.trans ho'); exact hdep))
    have hcl' : ∀ (j : Nat) (o : Oper), ops[j]? = some o → (D j ∨ j = i) → ∀ e ∈ o.after, Region.binds .any e = true → (D e.on ∨ e.on = i) := by
      intro j o' ho' hj e he hb
      rcases hj with hj | rfl
      · exact .inl (hk.cl j o' ho' hj e he hb)
      · obtain rfl := Option.some.inj (ho.symm.trans ho')
        exact .inl (hdep e he hb)
    rcases (hk.mem i).2 ⟨hil, hnD⟩ with hi | hi
    · obtain ⟨⟨i0, b⟩, hx, hx0⟩ := List.mem_map.1 hi
      obtain rfl : i0 = i := hx0
      obtain ⟨l1, l2, rfl⟩ := List.append_of_mem hx
      have hap : ∀ x ∈ l1, apB ops x.1 i0 = true := by
        intro x hx
        have hT : (l1 ++ (i0, b) :: l2).Sublist (pre ++ stPre st) := by rw [← hk.tot]; exact hk.sp.trans (List.sublist_append_left _ _)
        have h1 := hpp.sublist (hT.map (·.1))
        rw [List.map_append, List.map_cons, List.pairwise_append] at h1
        have h2 := h1.2.2 x.1 (List.mem_map_of_mem hx) i0 (by simp)
        simp only [Bool.or_eq_true] at h2
        rcases h2 with h2 | h2
        · exact h2
        · exact (hnot x.1 (.inl (by rw [List.map_append, List.mem_append]; exact .inl (List.mem_map_of_mem hx))) h2).elim
      obtain ⟨oi, v, hoi, hy, h'⟩ := wpPre_move hsel i0 b l2 _ l1 a hap hk.wp
      obtain rfl := Option.some.inj (ho.symm.trans hoi)
      have hcw : cls C b w := by
        rcases hk.wc with h1 | h1
        · exact .inr h1
        · exact .inl (h1 (i0, b) (by simp))
      have hsub : (l1 ++ l2).Sublist (l1 ++ (i0, b) :: l2) := List.Sublist.append_left (List.sublist_cons_self _ _) l1
      have hni : ∀ j, j ∈ (l1 ++ l2).map (·.1) ∨ j ∈ stIdx s → j ≠ i0 := by
        intro j hj
        have hnd' := hk.nd
        rw [List.map_append, List.map_cons, List.append_assoc, List.pairwise_append] at hnd'
        obtain ⟨-, h2, h3⟩ := hnd'
        rw [List.cons_append, List.pairwise_cons] at h2
        rw [List.map_append, List.mem_append] at hj
        rcases hj with (hj | hj) | hj
        · have := h3 j hj i0 (by simp); simpa using this
        · have := h2.1 j (List.mem_append.2 (.inl hj)); exact fun e => by subst e; simp at this
        · have := h2.1 j (List.mem_append.2 (.inr hj)); exact fun e => by subst e; simp at this
      have hnew : CalmD P ops Q C f (pre ++ stPre st) (fun j => D j ∨ j = i0) (a.put o.dst v) w (l1 ++ l2) s P' := by
        refine ⟨hk.tot, hsub.trans hk.sp, hk.sb, hk.nd.sublist ((hsub.map _).append (.refl _)), fun j => ?_, hk.wc.imp id (fun h1 x hx => h1 x (hsub.subset hx)), hcl', h'⟩
        constructor
        · intro hj
          have h1 := (hk.mem j).1 (by rcases hj with hj | hj
                                      · left; exact (hsub.map _).subset hj
                                      · exact .inr hj)
          exact ⟨h1.1, fun h2 => h2.elim h1.2 (hni j hj)⟩
        · rintro ⟨h1, h2⟩
          have h3 := (hk.mem j).2 ⟨h1, fun h4 => h2 (.inl h4)⟩
          rcases h3 with h3 | h3
          · left
            rw [List.map_append, List.mem_append] at h3 ⊢
            rw [List.map_cons, List.mem_cons] at h3
            rcases h3 with h3 | h3 | h3
            · exact .inl h3
            · exact absurd (.inr h3) h2
            · exact .inr h3
          · exact .inr h3
      unfold wpOp
      simp only [ho]
      rcases hy with ⟨hw, hv⟩ | ⟨hw, rfl⟩
      · rw [if_pos hw]
        left
        unfold Oper.wp
        rw [hv w hcw]
        exact ⟨_, _, _, hnew⟩
      · rw [if_neg (by rw [hw]; simp)]
        exact ⟨_, _, _, hnew⟩
    · cases s with
      | nil => cases hi
      | cons y r =>
        obtain ⟨m, b, q⟩ := y
        have hsb' := hk.sb
        simp only [stB, Bool.and_eq_true, List.all_eq_true] at hsb'
        obtain ⟨⟨⟨hb1, hb2⟩, hb4⟩, hb3⟩ := hsb'
        have hmem : stIdx ((m, b, q) :: r) = m :: (q.map (·.1) ++ stIdx r) := by simp [stIdx]
        rw [hmem, List.mem_cons] at hi
        have him : i = m := by
          rcases hi with h1 | h1
          · exact h1
          · exact (hnot m (.inr (by rw [hmem]; simp)) (hb2 i h1)).elim
        subst him
        have hboth : ∀ x ∈ p, apB ops x.1 i = true ∧ (x.2 = true ∨ b = true) := by
          intro x hx
          have h1 := hb1 x (hk.sp.subset hx)
          simp only [Bool.or_eq_true, Bool.and_eq_true] at h1
          rcases h1 with h1 | h1
          · exact h1
          · exact (hnot x.1 (.inl (List.mem_map_of_mem hx)) h1).elim
        have h1 := wpOp_Qn (wpPre_past (w := w) (Q := Q) hsel ho _ p a (fun x hx => (hboth x hx).1) hk.wp)
        refine wpOp_mono (fun a' w' h2 => ?_) h1
        obtain ⟨h3, h4⟩ := wpPre_and _ p a' h2
        have hnd' := hk.nd
        rw [hmem] at hnd'
        have hni : ∀ j, j ∈ (p ++ q).map (·.1) ∨ j ∈ stIdx r → j ≠ i := by
          intro j hj
          rw [List.pairwise_append] at hnd'
          obtain ⟨-, h5, h6⟩ := hnd'
          rw [List.pairwise_cons] at h5
          rw [List.map_append, List.mem_append] at hj
          rcases hj with (hj | hj) | hj
          · have := h6 j hj i (by simp); simpa using this
          · have := h5.1 j (List.mem_append.2 (.inl hj)); exact fun e => by subst e; simp at this
          · have := h5.1 j (List.mem_append.2 (.inr hj)); exact fun e => by subst e; simp at this
        refine ⟨p ++ q, r, P' ++ q, ?_, hk.sp.append (.refl _), hb3, ?_, fun j => ?_, ?_, hcl', wpPre_app _ p q a' h4⟩
        · rw [← hk.tot]; simp [stPre]
        · rw [List.map_append, List.append_assoc]
          exact hnd'.sublist ((List.Sublist.refl _).append (List.sublist_cons_self _ _))
        · constructor
          · intro hj
            have h5 := (hk.mem j).1 (by
              rw [hmem]
              rw [List.map_append, List.mem_append] at hj
              rcases hj with (hj | hj) | hj
              · exact .inl hj
              · exact .inr (List.mem_cons_of_mem _ (List.mem_append.2 (.inl hj)))
              · exact .inr (List.mem_cons_of_mem _ (List.mem_append.2 (.inr hj))))
            exact ⟨h5.1, fun h6 => h6.elim h5.2 (hni j hj)⟩
          · rintro ⟨h5, h6⟩
            have h7 := (hk.mem j).2 ⟨h5, fun h8 => h6 (.inl h8)⟩
            rw [hmem] at h7
            rw [List.map_append, List.mem_append]
            rcases h7 with h7 | h7
            · exact .inl (.inl h7)
            · rcases List.mem_cons.1 h7 with h7 | h7
              · exact absurd (.inr h7) h6
              · rcases List.mem_append.1 h7 with h7 | h7
                · exact .inl (.inr h7)
                · exact .inr h7
        · by_cases hb : b = true
          · exact .inl (h3 hb)
          · right
            intro x hx
            rcases List.mem_append.1 hx with hx | hx
            · exact (hboth x hx).2.resolve_right hb
            · have h9 := hb4 x hx
              simp only [Bool.or_eq_true] at h9
              exact h9.resolve_right hb
  · rintro D a w ⟨p, s, P', hk⟩ hall
    have hp : p = [] := by
      cases p with
      | nil => rfl
      | cons x p => have h1 := (hk.mem x.1).1 (.inl (by simp)); exact absurd (hall _ h1.1) h1.2
    have hs : s = [] := by
      cases s with
      | nil => rfl
      | cons x s => have h1 := (hk.mem x.1).1 (.inr (by simp [stIdx])); exact absurd (hall _ h1.1) h1.2
    subst hp
    subst hs
    exact hk.wp
/-- one that reads, guarded or not -/
theorem wpPre_i {i : Nat} {b : Bool} {r : List (Nat × Bool)} {K : Act → Prop} {a : Act} {o : Oper} (ho : ops[i]? = some o)
    (h : ∀ K' : Act → Prop, (∀ a, wpPre P ops C r K a → K' a) → if Region.wanted o (yielded ops a.tmps) = true then ∃ v, (∀ w, cls C b w → (execOp a.eval o).run P w = .ok (.value v) w) ∧ K' (a.put o.dst v) else K' (a.put o.dst undef)) : wpPre P ops C ((i, b) :: r) K a := by
  have h1 := h _ (fun _ h => h)
  by_cases hw : Region.wanted o (yielded ops a.tmps) = true
  · rw [if_pos hw] at h1
    obtain ⟨v, hy, hk⟩ := h1
    exact ⟨o, v, ho, .inl ⟨hw, hy⟩, hk⟩
  · rw [if_neg hw] at h1
    exact ⟨o, undef, ho, .inr ⟨by simpa using hw, rfl⟩, h1⟩
theorem wpStg_nil {a : Act} {w : World} (h : Q .normal a w) : wpStg P ops Q C [] a w := h
theorem wpStg_e {m : Nat} {b : Bool} {p : List (Nat × Bool)} {r : List Stg} {a : Act} {w : World} {o : Oper} (ho : ops[m]? = some o)
    (h : ∀ K' : Act → World → Prop, (∀ a w, (b = true → C w) → wpPre P ops C p (fun a => wpStg P ops Q C r a w) a → K' a w) → if Region.wanted o (yielded ops a.tmps) = true then Oper.wp P o a w K' (Qn Q) else K' (a.put o.dst undef) w) : wpStg P ops Q C ((m, b, p) :: r) a w := by
  have h1 := h (fun a w => (b = true → C w) ∧ wpPre P ops C p (fun a => wpStg P ops Q C r a w) a) (fun _ _ h1 h2 => ⟨h1, h2⟩)
  show wpOp P ops (Qn Q) m _ a w
  unfold wpOp
  simp only [ho]
  split
  · rename_i hw
    rw [if_pos hw] at h1
    exact .inl h1
  · rename_i hw
    rw [if_neg hw] at h1
    exact h1
end
end Go.Proofs.YtgnamngnmbaeeaaDoor

namespace Go.Proofs.YtgnamngnmbaeeaaDoor
open Go.RowKit
set_option maxRecDepth 8000

/-- what changes the world, in its order; where two may come in either order: both ways -/
inductive Tr where
  | done : Tr
  | one (m : Nat) (b : Bool) (p : List (Nat × Bool)) (t : Tr) : Tr
  | two (m1 : Nat) (b1 : Bool) (p1 : List (Nat × Bool)) (t1 : Tr) (m2 : Nat) (b2 : Bool) (p2 : List (Nat × Bool)) (t2 : Tr) : Tr
def trIdx : Tr → List Nat
  | .done => []
  | .one m _ p t => m :: (p.map (·.1) ++ trIdx t)
  | .two m _ p t _ _ _ _ => m :: (p.map (·.1) ++ trIdx t)
def wpTr (P : Program) (ops : Array Oper) (Q : Exit → Act → World → Prop) (C : World → Prop) : Tr → Act → World → Prop
  | .done, a, w => Q .normal a w
  | .one m b p t, a, w => wpOp P ops (Qn Q) m (fun a w => (b = true → C w) ∧ wpPre P ops C p (fun a => wpTr P ops Q C t a w) a) a w
  | .two m b p t m2 b2 p2 t2, a, w => wpOp P ops (Qn Q) m (fun a w => (b = true → C w) ∧ wpPre P ops C p (fun a => wpTr P ops Q C t a w) a) a w ∧ wpOp P ops (Qn Q) m2 (fun a w => (b2 = true → C w) ∧ wpPre P ops C p2 (fun a => wpTr P ops Q C t2 a w) a) a w
/-- what is asked of one branch -/
def brB (ops : Array Oper) (f : Nat) (pre : List (Nat × Bool)) (m : Nat) (b : Bool) (p : List (Nat × Bool)) (idx : List Nat) : Bool :=
  pre.all (fun x => (apB ops x.1 m && (x.2 || b)) || reachB ops f m x.1) && p.all (fun x => x.2 || b) && pairsB (fun i j => apB ops i j || reachB ops f j i) ((pre ++ p).map (·.1)) && pairsB (fun i j => i != j) (m :: ((pre ++ p).map (·.1) ++ idx))
def sameB (l k : List Nat) : Bool := l.all (fun x => k.contains x) && k.all (fun x => l.contains x)
def trB (ops : Array Oper) (f : Nat) : List (Nat × Bool) → Tr → Bool
  | _, .done => true
  | pre, .one m b p t => brB ops f pre m b p (trIdx t) && (p.map (·.1) ++ trIdx t).all (fun z => reachB ops f z m) && trB ops f (pre ++ p) t
  | pre, .two m b p t m2 b2 p2 t2 => brB ops f pre m b p (trIdx t) && brB ops f pre m2 b2 p2 (trIdx t2) && (p.map (·.1) ++ trIdx t).all (fun z => z == m2 || (reachB ops f z m || reachB ops f z m2)) && sameB (m :: (p.map (·.1) ++ trIdx t)) (m2 :: (p2.map (·.1) ++ trIdx t2)) && trB ops f (pre ++ p) t && trB ops f (pre ++ p2) t2
def calmE (ops : Array Oper) (f : Nat) (pre : List (Nat × Bool)) (t : Tr) : Bool :=
  Region.noSelect ops && acB ops && (List.range ops.size).all (fun j => (pre.map (·.1) ++ trIdx t).contains j) && (pre.map (·.1) ++ trIdx t).all (fun j => decide (j < ops.size)) &&
  pairsB (fun i j => i != j) (pre.map (·.1) ++ trIdx t) && pairsB (fun i j => apB ops i j || reachB ops f j i) (pre.map (·.1)) && trB ops f pre t

section
variable {P : Program} {ops : Array Oper} {Q : Exit → Act → World → Prop} {C : World → Prop}
structure CalmE (P : Program) (ops : Array Oper) (Q : Exit → Act → World → Prop) (C : World → Prop) (f : Nat) (D : Nat → Prop) (a : Act) (w : World) (pre' : List (Nat × Bool)) (t : Tr) (P' : List (Nat × Bool)) : Prop where
  sp : pre'.Sublist P'
  pp : (P'.map (·.1)).Pairwise (fun i j => (apB ops i j || reachB ops f j i) = true)
  nd : (P'.map (·.1) ++ trIdx t).Pairwise (fun i j => (i != j) = true)
  sb : trB ops f P' t = true
  mem : ∀ j, (j ∈ pre'.map (·.1) ∨ j ∈ trIdx t) ↔ (j < ops.size ∧ ¬ D j)
  wc : C w ∨ ∀ x ∈ pre', x.2 = true
  cl : ∀ (j : Nat) (o : Oper), ops[j]? = some o → D j → ∀ e ∈ o.after, Region.binds .any e = true → D e.on
  wp : wpPre P ops C pre' (fun a => wpTr P ops Q C t a w) a

theorem sameB_spec {l k : List Nat} (h : sameB l k = true) (x : Nat) : x ∈ l ↔ x ∈ k := by
  simp only [sameB, Bool.and_eq_true, List.all_eq_true, List.contains_iff_mem] at h
  exact ⟨h.1 x, h.2 x⟩

theorem branch_step {f : Nat} {D : Nat → Prop} {a : Act} {w : World} {p : List (Nat × Bool)} {t : Tr} {P' : List (Nat × Bool)} {i : Nat} {o : Oper} {b : Bool} {q : List (Nat × Bool)} {t' : Tr} (hsel : Region.noSelect ops = true)
    (hk : CalmE P ops Q C f D a w p t P') (ho : ops[i]? = some o) (hnot : ∀ x, (x ∈ p.map (·.1) ∨ x ∈ trIdx t) → reachB ops f i x = true → False)
    (hcl' : ∀ (j : Nat) (o : Oper), ops[j]? = some o → (D j ∨ j = i) → ∀ e ∈ o.after, Region.binds .any e = true → (D e.on ∨ e.on = i))
    (hbr : brB ops f P' i b q (trIdx t') = true) (hidx : ∀ j, j ∈ trIdx t ↔ j ∈ i :: (q.map (·.1) ++ trIdx t')) (hsb : trB ops f (P' ++ q) t' = true)
    (hwp : wpPre P ops C p (fun a => wpOp P ops (Qn Q) i (fun a w => (b = true → C w) ∧ wpPre P ops C q (fun a => wpTr P ops Q C t' a w) a) a w) a) :
    wpOp P ops Q i (fun a w => ∃ pre' t P', CalmE P ops Q C f (fun j => D j ∨ j = i) a w pre' t P') a w := by
  simp only [brB, Bool.and_eq_true, List.all_eq_true] at hbr
  obtain ⟨⟨⟨hb1, hb4⟩, hb5⟩, hb6⟩ := hbr
  have hb5 := pairsB_spec hb5
  have hb6 := pairsB_spec hb6
  have hboth : ∀ x ∈ p, apB ops x.1 i = true ∧ (x.2 = true ∨ b = true) := by
    intro x hx
    have h1 := hb1 x (hk.sp.subset hx)
    simp only [Bool.or_eq_true, Bool.and_eq_true] at h1
    rcases h1 with h1 | h1
    · exact h1
    · exact (hnot x.1 (.inl (List.mem_map_of_mem hx)) h1).elim
  have h1 := wpOp_Qn (wpPre_past (w := w) (Q := Q) hsel ho _ p a (fun x hx => (hboth x hx).1) hwp)
  refine wpOp_mono (fun a' w' h2 => ?_) h1
  obtain ⟨h3, h4⟩ := wpPre_and _ p a' h2
  rw [List.pairwise_cons] at hb6
  have hni : ∀ j, j ∈ (p ++ q).map (·.1) ∨ j ∈ trIdx t' → j ≠ i := by
    intro j hj
    have h5 : j ∈ (P' ++ q).map (·.1) ++ trIdx t' := by
      rcases hj with hj | hj
      · exact List.mem_append.2 (.inl (((hk.sp.append (.refl q)).map _).subset hj))
      · exact List.mem_append.2 (.inr hj)
    have := hb6.1 j h5
    exact fun e => by subst e; simp at this
  refine ⟨p ++ q, t', P' ++ q, hk.sp.append (.refl _), hb5, hb6.2, hsb, fun j => ?_, ?_, hcl', wpPre_app _ p q a' h4⟩
  · constructor
    · intro hj
      have h5 := (hk.mem j).1 (by
        rw [hidx]
        rw [List.map_append, List.mem_append] at hj
        rcases hj with (hj | hj) | hj
        · exact .inl hj
        · exact .inr (List.mem_cons_of_mem _ (List.mem_append.2 (.inl hj)))
        · exact .inr (List.mem_cons_of_mem _ (List.mem_append.2 (.inr hj))))
      exact ⟨h5.1, fun h6 => h6.elim h5.2 (hni j hj)⟩
    · rintro ⟨h5, h6⟩
      have h7 := (hk.mem j).2 ⟨h5, fun h8 => h6 (.inl h8)⟩
      rw [hidx] at h7
      rw [List.map_append, List.mem_append]
      rcases h7 with h7 | h7
      · exact .inl (.inl h7)
      · rcases List.mem_cons.1 h7 with h7 | h7
        · exact absurd (.inr h7) h6
        · rcases List.mem_append.1 h7 with h7 | h7
          · exact .inl (.inr h7)
          · exact .inr h7
  · by_cases hb : b = true
    · exact .inl (h3 hb)
    · right
      intro x hx
      rcases List.mem_append.1 hx with hx | hx
      · exact (hboth x hx).2.resolve_right hb
      · have h9 := hb4 x hx
        simp only [Bool.or_eq_true] at h9
        exact h9.resolve_right hb

theorem wpPre_left {A B : Act → Prop} : ∀ (p : List (Nat × Bool)) (a : Act), wpPre P ops C p (fun a => A a ∧ B a) a → wpPre P ops C p A a ∧ wpPre P ops C p B a
  | [], _, h => h
  | _ :: p, _, ⟨o, v, ho, hy, h⟩ => ⟨⟨o, v, ho, hy, (wpPre_left p _ h).1⟩, o, v, ho, hy, (wpPre_left p _ h).2⟩

theorem wp_region_calmE {rid : Nat} {a : Act} {w : World} (f : Nat) (C : World → Prop) (pre : List (Nat × Bool)) (t : Tr) (hm : P.follows .mixedOrders = true) (hB : calmE ops f pre t = true) (hC : C w.drew)
    (h : wpPre P ops C pre (fun a => wpTr P ops Q C t a w.drew) a) : (Code.region rid ops true).wp P Q a w := by
  simp only [calmE, Bool.and_eq_true] at hB
  obtain ⟨⟨⟨⟨⟨⟨hsel, hac⟩, hcov⟩, hlt⟩, hnd⟩, hpp⟩, hsb⟩ := hB
  have hnd := pairsB_spec hnd
  have hpp := pairsB_spec hpp
  simp only [List.all_eq_true] at hcov hlt
  refine wp_region_inv hm (fun D a w => ∃ pre' t P', CalmE P ops Q C f D a w pre' t P') ?_ hac ?_ ?_ ?_
  · rintro D D' a w hD ⟨p, s, r, hk⟩
    have e : D = D' := funext fun j => propext (hD j)
    subst e
    exact ⟨p, s, r, hk⟩
  · intro D hD
    refine ⟨pre, t, pre, .refl _, hpp, hnd, hsb, fun j => ⟨fun hj => ⟨?_, hD j⟩, fun hj => ?_⟩, .inl hC, fun j o _ hj => absurd hj (hD j), h⟩
    · exact of_decide_eq_true (hlt j (List.mem_append.2 hj))
    · exact List.mem_append.1 (List.contains_iff_mem.1 (hcov j (List.mem_range.2 hj.1)))
  · rintro D a w ⟨p, s, P', hk⟩ i o ho hnD hdep
    have hil : i < ops.size := (Array.getElem?_eq_some_iff.1 ho).1
    have hnot : ∀ x, (x ∈ p.map (·.1) ∨ x ∈ trIdx s) → reachB ops f i x = true → False := fun x hx hr =>
      ((hk.mem x).1 hx).2 (reach_done hk.cl f i x hr (fun o' ho' => by obtain rfl := Option.some.inj (ho.symm.trans ho'); exact hdep))
    have hcl' : ∀ (j : Nat) (o : Oper), ops[j]? = some o → (D j ∨ j = i) → ∀ e ∈ o.after, Region.binds .any e = true → (D e.on ∨ e.on = i) := by
      intro j o' ho' hj e he hb
      rcases hj with hj | rfl
      · exact .inl (hk.cl j o' ho' hj e he hb)
      · obtain rfl := Option.some.inj (ho.symm.trans ho')
        exact .inl (hdep e he hb)
    rcases (hk.mem i).2 ⟨hil, hnD⟩ with hi | hi
    · obtain ⟨⟨i0, b⟩, hx, hx0⟩ := List.mem_map.1 hi
      obtain rfl : i0 = i := hx0
      obtain ⟨l1, l2, rfl⟩ := List.append_of_mem hx
      have hap : ∀ x ∈ l1, apB ops x.1 i0 = true := by
        intro x hx
        have h1 := hk.pp.sublist (hk.sp.map (·.1))
        rw [List.map_append, List.map_cons, List.pairwise_append] at h1
        have h2 := h1.2.2 x.1 (List.mem_map_of_mem hx) i0 (by simp)
        simp only [Bool.or_eq_true] at h2
        rcases h2 with h2 | h2
        · exact h2
        · exact (hnot x.1 (.inl (by rw [List.map_append, List.mem_append]; exact .inl (List.mem_map_of_mem hx))) h2).elim
      obtain ⟨oi, v, hoi, hy, h'⟩ := wpPre_move hsel i0 b l2 _ l1 a hap hk.wp
      obtain rfl := Option.some.inj (ho.symm.trans hoi)
      have hcw : cls C b w := by
        rcases hk.wc with h1 | h1
        · exact .inr h1
        · exact .inl (h1 (i0, b) (by simp))
      have hsub : (l1 ++ l2).Sublist (l1 ++ (i0, b) :: l2) := List.Sublist.append_left (List.sublist_cons_self _ _) l1
      have hni : ∀ j, j ∈ (l1 ++ l2).map (·.1) ∨ j ∈ trIdx s → j ≠ i0 := by
        intro j hj
        have hnd' := hk.nd.sublist ((hk.sp.map (·.1)).append (.refl (trIdx s)))
        rw [List.map_append, List.map_cons, List.append_assoc, List.pairwise_append] at hnd'
        obtain ⟨-, h2, h3⟩ := hnd'
        rw [List.cons_append, List.pairwise_cons] at h2
        rw [List.map_append, List.mem_append] at hj
        rcases hj with (hj | hj) | hj
        · have := h3 j hj i0 (by simp); simpa using this
        · have := h2.1 j (List.mem_append.2 (.inl hj)); exact fun e => by subst e; simp at this
        · have := h2.1 j (List.mem_append.2 (.inr hj)); exact fun e => by subst e; simp at this
      have hnew : CalmE P ops Q C f (fun j => D j ∨ j = i0) (a.put o.dst v) w (l1 ++ l2) s P' := by
        refine ⟨hsub.trans hk.sp, hk.pp, hk.nd, hk.sb, fun j => ?_, hk.wc.imp id (fun h1 x hx => h1 x (hsub.subset hx)), hcl', h'⟩
        constructor
        · intro hj
          have h1 := (hk.mem j).1 (by rcases hj with hj | hj
                                      · left; exact (hsub.map _).subset hj
                                      · exact .inr hj)
          exact ⟨h1.1, fun h2 => h2.elim h1.2 (hni j hj)⟩
        · rintro ⟨h1, h2⟩
          have h3 := (hk.mem j).2 ⟨h1, fun h4 => h2 (.inl h4)⟩
          rcases h3 with h3 | h3
          · left
            rw [List.map_append, List.mem_append] at h3 ⊢
            rw [List.map_cons, List.mem_cons] at h3
            rcases h3 with h3 | h3 | h3
            · exact .inl h3
            · exact absurd (.inr h3) h2
            · exact .inr h3
          · exact .inr h3
      unfold wpOp
      simp only [ho]
      rcases hy with ⟨hw, hv⟩ | ⟨hw, rfl⟩
      · rw [if_pos hw]
        left
        unfold Oper.wp
        rw [hv w hcw]
        exact ⟨_, _, _, hnew⟩
      · rw [if_neg (by rw [hw]; simp)]
        exact ⟨_, _, _, hnew⟩
    · cases s with
      | done => cases hi
      | one m b q r =>
        have hsb' := hk.sb
        simp only [trB, Bool.and_eq_true, List.all_eq_true] at hsb'
        obtain ⟨⟨hb1, hb2⟩, hb3⟩ := hsb'
        have him : i = m := by
          rcases List.mem_cons.1 hi with h1 | h1
          · exact h1
          · exact (hnot m (.inr (by simp [trIdx])) (hb2 i h1)).elim
        subst him
        exact branch_step hsel hk ho hnot hcl' hb1 (fun j => Iff.rfl) hb3 hk.wp
      | two m b q r m2 b2 q2 r2 =>
        have hsb' := hk.sb
        simp only [trB, Bool.and_eq_true, List.all_eq_true] at hsb'
        obtain ⟨⟨⟨⟨⟨hb1, hb2⟩, hb3⟩, hb4⟩, hb5⟩, hb6⟩ := hsb'
        have hm2 : m2 ∈ trIdx (.two m b q r m2 b2 q2 r2) := (sameB_spec hb4 m2).2 (by simp)
        have hwp := wpPre_left p a hk.wp
        have him : i = m ∨ i = m2 := by
          rcases List.mem_cons.1 hi with h1 | h1
          · exact .inl h1
          · have h2 := hb3 i h1
            simp only [Bool.or_eq_true, beq_iff_eq] at h2
            rcases h2 with h2 | h2 | h2
            · exact .inr h2
            · exact (hnot m (.inr (by simp [trIdx])) h2).elim
            · exact (hnot m2 (.inr hm2) h2).elim
        rcases him with him | him
        · subst him
          exact branch_step hsel hk ho hnot hcl' hb1 (fun j => Iff.rfl) hb5 hwp.1
        · subst him
          exact branch_step hsel hk ho hnot hcl' hb2 (fun j => sameB_spec hb4 j) hb6 hwp.2
  · rintro D a w ⟨p, s, P', hk⟩ hall
    have hp : p = [] := by
      cases p with
      | nil => rfl
      | cons x p => have h1 := (hk.mem x.1).1 (.inl (by simp)); exact absurd (hall _ h1.1) h1.2
    have hs : s = .done := by
      cases s with
      | done => rfl
      | one m b q r => have h1 := (hk.mem m).1 (.inr (by simp [trIdx])); exact absurd (hall _ h1.1) h1.2
      | two m b q r _ _ _ _ => have h1 := (hk.mem m).1 (.inr (by simp [trIdx])); exact absurd (hall _ h1.1) h1.2
    subst hp
    subst hs
    exact hk.wp
theorem wpTr_done {a : Act} {w : World} (h : Q .normal a w) : wpTr P ops Q C .done a w := h
theorem wpTr_op {m : Nat} {b : Bool} {p : List (Nat × Bool)} {t : Tr} {a : Act} {w : World} {o : Oper} (ho : ops[m]? = some o)
    (h : ∀ K' : Act → World → Prop, (∀ a w, (b = true → C w) → wpPre P ops C p (fun a => wpTr P ops Q C t a w) a → K' a w) → if Region.wanted o (yielded ops a.tmps) = true then Oper.wp P o a w K' (Qn Q) else K' (a.put o.dst undef) w) : wpOp P ops (Qn Q) m (fun a w => (b = true → C w) ∧ wpPre P ops C p (fun a => wpTr P ops Q C t a w) a) a w := by
  have h1 := h (fun a w => (b = true → C w) ∧ wpPre P ops C p (fun a => wpTr P ops Q C t a w) a) (fun _ _ h1 h2 => ⟨h1, h2⟩)
  unfold wpOp
  simp only [ho]
  split
  · rename_i hw
    rw [if_pos hw] at h1
    exact .inl h1
  · rename_i hw
    rw [if_neg hw] at h1
    exact h1
theorem wpTr_e {m : Nat} {b : Bool} {p : List (Nat × Bool)} {t : Tr} {a : Act} {w : World} {o : Oper} (ho : ops[m]? = some o)
    (h : ∀ K' : Act → World → Prop, (∀ a w, (b = true → C w) → wpPre P ops C p (fun a => wpTr P ops Q C t a w) a → K' a w) → if Region.wanted o (yielded ops a.tmps) = true then Oper.wp P o a w K' (Qn Q) else K' (a.put o.dst undef) w) : wpTr P ops Q C (.one m b p t) a w := wpTr_op ho h
theorem wpTr_two {m m2 : Nat} {b b2 : Bool} {p p2 : List (Nat × Bool)} {t t2 : Tr} {a : Act} {w : World} {o o2 : Oper} (ho : ops[m]? = some o) (ho2 : ops[m2]? = some o2)
    (h : ∀ K' : Act → World → Prop, (∀ a w, (b = true → C w) → wpPre P ops C p (fun a => wpTr P ops Q C t a w) a → K' a w) → if Region.wanted o (yielded ops a.tmps) = true then Oper.wp P o a w K' (Qn Q) else K' (a.put o.dst undef) w)
    (h2 : ∀ K' : Act → World → Prop, (∀ a w, (b2 = true → C w) → wpPre P ops C p2 (fun a => wpTr P ops Q C t2 a w) a → K' a w) → if Region.wanted o2 (yielded ops a.tmps) = true then Oper.wp P o2 a w K' (Qn Q) else K' (a.put o2.dst undef) w) : wpTr P ops Q C (.two m b p t m2 b2 p2 t2) a w := ⟨wpTr_op ho h, wpTr_op ho2 h2⟩
end
end Go.Proofs.YtgnamngnmbaeeaaDoor
