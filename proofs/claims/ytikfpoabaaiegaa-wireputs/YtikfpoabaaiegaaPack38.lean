import Derived.Test.YtikfpoabaaiegaaPack37
import Derived.Still
import Derived.Test.YtikfpoabaaiegaaPack26
import Derived.Test.YtikfpoabaaiegaaPack19
import Derived.Deep.DeepCutAuto
namespace Go.Proofs.Ytikfpoabaaiegaa
open Go.RowKit
set_option maxRecDepth 8000

/-- the class of an operation that only reads: true: any world -/
def cls (C : World → Prop) (b : Bool) : World → Prop := fun w => b = true ∨ C w
/-- it yields v, in every world of the class, and leaves the world -/
def Yld (P : Program) (ops : Array Oper) (C : World → Prop) (o : Oper) (v : Value) (a : Act) : Prop :=
  (Region.wanted o (yielded ops a.tmps) = true ∧ ∀ w, C w → (execOp a.eval o).run P w = .ok (.value v) w) ∨ (Region.wanted o (yielded ops a.tmps) = false ∧ v = undef)
def wpPre (P : Program) (ops : Array Oper) (C : World → Prop) : List (Nat × Bool) → (Act → Prop) → Act → Prop
  | [], K, a => K a
  | (i, b) :: r, K, a => ∃ o v, ops[i]? = some o ∧ Yld P ops (cls C b) o v a ∧ wpPre P ops C r K (a.put o.dst v)
/-- no way out but the plain one -/
def Qn (Q : Exit → Act → World → Prop) : Exit → Act → World → Prop := fun e a w => e = .normal ∧ Q .normal a w
def wpSeq (P : Program) (ops : Array Oper) (Q : Exit → Act → World → Prop) (C : World → Prop) : List (Nat × Bool) → Act → World → Prop
  | [], a, w => Q .normal a w
  | (m, b) :: r, a, w => wpOp P ops (Qn Q) m (fun a w => (b = true → C w) ∧ wpSeq P ops Q C r a w) a w

section
variable {P : Program} {ops : Array Oper} {Q : Exit → Act → World → Prop} {C : World → Prop}
theorem Qn_out : ¬ LetsOut (Qn Q) := fun ⟨_, _, h, _⟩ => by cases h
theorem Yld.put {oi : Oper} {dj : Option Tmp} {v : Value} {a : Act} {C : World → Prop} (hs : ∀ cs b, oi.op ≠ .select cs b) (h3 : ∀ d, dj = some d → d ∉ oi.looksAt ops) (hy : Yld P ops C oi v a) (u : Value) : Yld P ops C oi v (a.put dj u) := by
  unfold Yld at *
  rw [execOp_put oi hs a dj u h3, wanted_put oi a dj u h3]
  exact hy
theorem Yld.unput {oi : Oper} {dj : Option Tmp} {v u : Value} {a : Act} {C : World → Prop} (hs : ∀ cs b, oi.op ≠ .select cs b) (h3 : ∀ d, dj = some d → d ∉ oi.looksAt ops) (hy : Yld P ops C oi v (a.put dj u)) : Yld P ops C oi v a := by
  unfold Yld at *
  rw [execOp_put oi hs a dj u h3, wanted_put oi a dj u h3] at hy
  exact hy

def apB (ops : Array Oper) (i j : Nat) : Bool := match ops[i]?, ops[j]? with
  | some a, some b => a.apart ops b
  | _, _ => false
theorem apB_spec {i j : Nat} {a b : Oper} (h : apB ops i j = true) (ha : ops[i]? = some a) (hb : ops[j]? = some b) : a.apart ops b = true := by
  unfold apB at h
  rw [ha, hb] at h
  exact h

theorem wpPre_move (hsel : Region.noSelect ops = true) (i : Nat) (b : Bool) (l2 : List (Nat × Bool)) (K : Act → Prop) : ∀ (l1 : List (Nat × Bool)) (a : Act), (∀ x ∈ l1, apB ops x.1 i = true) →
    wpPre P ops C (l1 ++ (i, b) :: l2) K a → wpPre P ops C ((i, b) :: (l1 ++ l2)) K a
  | [], _, _, h => h
  | x :: l1, a, hap, h => by
    obtain ⟨ox, u, hox, hyx, h⟩ := h
    obtain ⟨oi, v, hoi, hyi, h'⟩ := wpPre_move hsel i b l2 K l1 _ (fun y hy => hap y (by simp [hy])) h
    obtain ⟨h1, h2, h3⟩ := Oper.apart_spec (apB_spec (hap x (by simp)) hox hoi)
    refine ⟨oi, v, hoi, hyi.unput (fun cs b => Region.noSelect_spec hsel i oi cs b hoi) h1, ox, u, hox, hyx.put (fun cs b => Region.noSelect_spec hsel _ ox cs b hox) h3 v, ?_⟩
    rw [← Act.put_comm a u v h2]
    exact h'

theorem wpOp_put {x i : Nat} {ox oi : Oper} {u : Value} {a : Act} {w : World} {C : World → Prop} (hsel : Region.noSelect ops = true) (hox : ops[x]? = some ox) (hoi : ops[i]? = some oi) (hap : ox.apart ops oi = true) {K : Act → World → Prop}
    (hy : Yld P ops C ox u a) (h : wpOp P ops (Qn Q) i K (a.put ox.dst u) w) : wpOp P ops (Qn Q) i (fun a' w' => Yld P ops C ox u a' ∧ K (a'.put ox.dst u) w') a w := by
  obtain ⟨h1, h2, h3⟩ := Oper.apart_spec hap
  have hsi := fun cs b => Region.noSelect_spec hsel i oi cs b hoi
  have keep : ∀ a0, Yld P ops C ox u a0 → ∀ v, Yld P ops C ox u (a0.put oi.dst v) := fun a0 h0 v => h0.put (fun cs b => Region.noSelect_spec hsel _ ox cs b hox) h3 v
  unfold wpOp at *
  simp only [hoi] at *
  rw [wanted_put oi a ox.dst u h1] at h
  split
  · rename_i hw
    simp only [hw, if_true] at h
    rcases h with h | ⟨_, hl⟩
    · left
      unfold Oper.wp at *
      rw [execOp_put oi hsi a ox.dst u h1] at h
      generalize (execOp a.eval oi).run P w = r at *
      cases r with
      | ok n w' =>
        cases n <;> simp only [Oper.upon] at h ⊢
        case value v => exact ⟨keep a hy v, by rw [← Act.put_comm a u v h2]; exact h⟩
        case skip => exact ⟨keep a hy _, by rw [← Act.put_comm a u undef h2]; exact h⟩
        case defer d =>
          refine ⟨keep { a with defers := d :: a.defers } hy _, ?_⟩
          rw [← Act.put_comm { a with defers := d :: a.defers } u undef h2]
          have e : ({ a with defers := d :: a.defers } : Act).put ox.dst u = { a.put ox.dst u with defers := d :: (a.put ox.dst u).defers } := by cases ox.dst <;> rfl
          rw [e]
          exact h
        case enter f args =>
          refine Calls.mono h fun e w'' he => ?_
          cases e with
          | returned v => exact ⟨keep a hy v, by rw [← Act.put_comm a u v h2]; exact he⟩
          | panicked c => exact absurd he.1 (by simp)
          | outgrown => exact absurd he Qn_out
        case row row args => exact Rows.mono h fun v w'' he => ⟨keep a hy v, by rw [← Act.put_comm a u v h2]; exact he⟩
      | halt x w' =>
        cases x <;> simp only [Oper.upon] at h ⊢
        exact absurd h.1 (by simp)
    · exact absurd hl Qn_out
  · rename_i hw
    simp only [hw] at h
    exact ⟨keep a hy _, by rw [← Act.put_comm a u undef h2]; exact h⟩

theorem wpPre_past {w : World} {i : Nat} {oi : Oper} (hsel : Region.noSelect ops = true) (hoi : ops[i]? = some oi) (K : Act → World → Prop) : ∀ (pre : List (Nat × Bool)) (a : Act), (∀ x ∈ pre, apB ops x.1 i = true) →
    wpPre P ops C pre (fun a => wpOp P ops (Qn Q) i K a w) a → wpOp P ops (Qn Q) i (fun a' w' => wpPre P ops C pre (fun a => K a w') a') a w
  | [], _, _, h => h
  | x :: r, a, hap, h => by
    obtain ⟨ox, u, hox, hyx, h⟩ := h
    have h1 := wpPre_past hsel hoi K r _ (fun y hy => hap y (by simp [hy])) h
    exact wpOp_mono (fun a' w' h2 => ⟨ox, u, hox, h2.1, h2.2⟩) (wpOp_put hsel hox hoi (apB_spec (hap x (by simp)) hox hoi) hyx h1)

theorem wpOp_Qn {i : Nat} {K : Act → World → Prop} {a : Act} {w : World} (h : wpOp P ops (Qn Q) i K a w) : wpOp P ops Q i K a w := by
  unfold wpOp at *
  split
  · rename_i ho
    rw [ho] at h
    exact h
  · rename_i o ho
    simp only [ho] at h
    split
    · rename_i hw
      simp only [hw, if_true] at h
      rcases h with h | ⟨_, hl⟩
      · left
        unfold Oper.wp at *
        generalize (execOp a.eval o).run P w = r at *
        cases r with
        | ok n w' =>
          cases n <;> simp only [Oper.upon] at h ⊢
          case enter f args =>
            refine Calls.mono h fun e w'' he => ?_
            cases e with
            | returned v => exact he
            | panicked c => exact absurd he.1 (by simp)
            | outgrown => exact absurd he Qn_out
          all_goals exact h
        | halt x w' =>
          cases x <;> simp only [Oper.upon] at h ⊢
          exact absurd h.1 (by simp)
      · exact absurd hl Qn_out
    · rename_i hw
      simp only [hw] at h
      exact h

/-- j waits for i, by some way -/
def reachB (ops : Array Oper) : Nat → Nat → Nat → Bool
  | 0, _, _ => false
  | f + 1, j, i => match ops[j]? with
    | none => false
    | some o => o.after.any fun e => Region.binds .any e && (e.on == i || reachB ops f e.on i)
theorem reach_done {D : Nat → Prop} (hcl : ∀ (j : Nat) (o : Oper), ops[j]? = some o → D j → ∀ e ∈ o.after, Region.binds .any e = true → D e.on) :
    ∀ (f j i : Nat), reachB ops f j i = true → (∀ o, ops[j]? = some o → ∀ e ∈ o.after, Region.binds .any e = true → D e.on) → D i
  | 0, _, _, h, _ => by cases h
  | f + 1, j, i, h, hd => by
    unfold reachB at h
    split at h
    · cases h
    · rename_i o ho
      obtain ⟨e, he, hb⟩ := Array.any_eq_true'.1 h
      simp only [Bool.and_eq_true, Bool.or_eq_true, beq_iff_eq] at hb
      have hon := hd o ho e he hb.1
      rcases hb.2 with h1 | h1
      · rw [← h1]; exact hon
      · exact reach_done hcl f e.on i h1 (fun o' ho' => hcl e.on o' ho' hon)

def pairsB (R : Nat → Nat → Bool) : List Nat → Bool
  | [] => true
  | x :: l => l.all (R x) && pairsB R l
theorem pairsB_spec {R : Nat → Nat → Bool} : ∀ {l : List Nat}, pairsB R l = true → l.Pairwise (fun x y => R x y = true)
  | [], _ => .nil
  | x :: l, h => by
    simp only [pairsB, Bool.and_eq_true, List.all_eq_true] at h
    exact .cons h.1 (pairsB_spec h.2)

def calmB (ops : Array Oper) (f : Nat) (pre sq : List (Nat × Bool)) : Bool :=
  Region.noSelect ops && acB ops && pairsB (fun i j => i != j) (pre.map (·.1) ++ sq.map (·.1)) &&
  (List.range ops.size).all (fun j => (pre.map (·.1) ++ sq.map (·.1)).contains j) && (pre.map (·.1) ++ sq.map (·.1)).all (fun j => decide (j < ops.size)) &&
  pairsB (fun i j => apB ops i j || reachB ops f j i) (pre.map (·.1)) &&
  pre.all (fun x => sq.all fun y => (apB ops x.1 y.1 && (x.2 || y.2)) || reachB ops f y.1 x.1) &&
  pairsB (fun i j => reachB ops f j i) (sq.map (·.1))

/-- what holds while the region is gone through -/
structure Calm (P : Program) (ops : Array Oper) (Q : Exit → Act → World → Prop) (C : World → Prop) (pre sq : List (Nat × Bool)) (D : Nat → Prop) (a : Act) (w : World) (pre' sq' : List (Nat × Bool)) : Prop where
  sp : pre'.Sublist pre
  ss : sq'.Sublist sq
  mem : ∀ j, (j ∈ pre'.map (·.1) ∨ j ∈ sq'.map (·.1)) ↔ (j < ops.size ∧ ¬ D j)
  wc : C w ∨ ∀ x ∈ pre', x.2 = true
  cl : ∀ (j : Nat) (o : Oper), ops[j]? = some o → D j → ∀ e ∈ o.after, Region.binds .any e = true → D e.on
  wp : wpPre P ops C pre' (fun a => wpSeq P ops Q C sq' a w) a

theorem wp_region_calm {rid : Nat} {a : Act} {w : World} (f : Nat) (C : World → Prop) (pre sq : List (Nat × Bool)) (hm : P.follows .mixedOrders = true) (hB : calmB ops f pre sq = true) (hC : C w.drew)
    (h : wpPre P ops C pre (fun a => wpSeq P ops Q C sq a w.drew) a) : (Code.region rid ops true).wp P Q a w := by
  simp only [calmB, Bool.and_eq_true] at hB
  obtain ⟨⟨⟨⟨⟨⟨⟨hsel, hac⟩, hnd⟩, hcov⟩, hlt⟩, hpp⟩, hps⟩, hss⟩ := hB
  have hnd := pairsB_spec hnd
  have hpp := pairsB_spec hpp
  have hss := pairsB_spec hss
  simp only [List.all_eq_true] at hcov hlt hps
  refine wp_region_inv hm (fun D a w => ∃ pre' sq', Calm P ops Q C pre sq D a w pre' sq') ?_ hac ?_ ?_ ?_
  · rintro D D' a w hD ⟨p, s, hk⟩
    have e : D = D' := funext fun j => propext (hD j)
    subst e
    exact ⟨p, s, hk⟩
  · intro D hD
    refine ⟨pre, sq, .refl _, .refl _, fun j => ⟨fun hj => ⟨?_, hD j⟩, fun hj => ?_⟩, .inl hC, fun j o _ hj => absurd hj (hD j), h⟩
    · exact of_decide_eq_true (hlt j (List.mem_append.2 hj))
    · exact List.mem_append.1 (List.contains_iff_mem.1 (hcov j (List.mem_range.2 hj.1)))
  · rintro D a w ⟨p, s, hk⟩ i o ho hnD hdep
    have hil : i < ops.size := (Array.getElem?_eq_some_iff.1 ho).1
    have hnot : ∀ x, (x ∈ p.map (·.1) ∨ x ∈ s.map (·.1)) → reachB ops f i x = true → False := fun x hx hr =>
      ((hk.mem x).1 hx).2 (reach_done hk.cl f i x hr (fun o' ho' => by obtain rfl := Option.some.inj (ho.symm.trans ho'); exact hdep))
    have hcl' : ∀ (j : Nat) (o : Oper), ops[j]? = some o → (D j ∨ j = i) → ∀ e ∈ o.after, Region.binds .any e = true → (D e.on ∨ e.on = i) := by
      intro j o' ho' hj e he hb
      rcases hj with hj | rfl
      · exact .inl (hk.cl j o' ho' hj e he hb)
      · obtain rfl := Option.some.inj (ho.symm.trans ho')
        exact .inl (hdep e he hb)
    have hnd' : (p.map (·.1) ++ s.map (·.1)).Pairwise (fun i j => (i != j) = true) := hnd.sublist ((hk.sp.map _).append (hk.ss.map _))
    rcases (hk.mem i).2 ⟨hil, hnD⟩ with hi | hi
    · obtain ⟨⟨i0, b⟩, hx, hx0⟩ := List.mem_map.1 hi
      obtain rfl : i0 = i := hx0
      obtain ⟨l1, l2, rfl⟩ := List.append_of_mem hx
      have hap : ∀ x ∈ l1, apB ops x.1 i0 = true := by
        intro x hx
        have h1 := hpp.sublist (hk.sp.map (·.1))
        rw [List.map_append, List.map_cons, List.pairwise_append] at h1
        have h2 := h1.2.2 x.1 (List.mem_map_of_mem hx) i0 (by simp)
        simp only [Bool.or_eq_true] at h2
        rcases h2 with h2 | h2
        · exact h2
        · exact (hnot x.1 (.inl (by rw [List.map_append, List.mem_append]; exact .inl (List.mem_map_of_mem hx))) h2).elim
      obtain ⟨oi, v, hoi, hy, h'⟩ := wpPre_move hsel i0 b l2 _ l1 a hap hk.wp
      obtain rfl := Option.some.inj (ho.symm.trans hoi)
      have hcw : cls C b w := by
        rcases hk.wc with h1 | h1
        · exact .inr h1
        · exact .inl (h1 (i0, b) (by simp))
      have hni : ∀ j, j ∈ (l1 ++ l2).map (·.1) ∨ j ∈ s.map (·.1) → j ≠ i0 := by
        intro j hj
        rw [List.map_append, List.map_cons, List.append_assoc, List.pairwise_append] at hnd'
        obtain ⟨-, h2, h3⟩ := hnd'
        rw [List.cons_append, List.pairwise_cons] at h2
        rw [List.map_append, List.mem_append] at hj
        rcases hj with (hj | hj) | hj
        · have := h3 j hj i0 (by simp); simpa using this
        · have := h2.1 j (by simp; exact .inl (by simpa using hj)); exact fun e => by subst e; simp at this
        · have := h2.1 j (by simp; exact .inr (by simpa using hj)); exact fun e => by subst e; simp at this
      have hnew : Calm P ops Q C pre sq (fun j => D j ∨ j = i0) (a.put o.dst v) w (l1 ++ l2) s := by
        refine ⟨(List.Sublist.append_left (List.sublist_cons_self _ _) l1).trans hk.sp, hk.ss, fun j => ?_, hk.wc.imp id (fun h1 x hx => h1 x (by simp at hx ⊢; rcases hx with hx | hx; exact .inl hx; exact .inr (.inr hx))), hcl', h'⟩
        constructor
        · intro hj
          have h1 := (hk.mem j).1 (by rcases hj with hj | hj; · left; rw [List.map_append, List.mem_append] at hj ⊢; rw [List.map_cons]; exact hj.imp id (List.mem_cons_of_mem _)
                                      · exact .inr hj)
          exact ⟨h1.1, fun h2 => h2.elim h1.2 (hni j hj)⟩
        · rintro ⟨h1, h2⟩
          have h3 := (hk.mem j).2 ⟨h1, fun h4 => h2 (.inl h4)⟩
          rcases h3 with h3 | h3
          · left
            rw [List.map_append, List.mem_append] at h3 ⊢
            rw [List.map_cons, List.mem_cons] at h3
            rcases h3 with h3 | h3 | h3
            · exact .inl h3
            · exact absurd (.inr h3) h2
            · exact .inr h3
          · exact .inr h3
      unfold wpOp
      simp only [ho]
      rcases hy with ⟨hw, hv⟩ | ⟨hw, rfl⟩
      · rw [if_pos hw]
        left
        unfold Oper.wp
        rw [hv w hcw]
        exact ⟨_, _, hnew⟩
      · rw [if_neg (by rw [hw]; simp)]
        exact ⟨_, _, hnew⟩
    · obtain ⟨⟨i0, b⟩, hx, hx0⟩ := List.mem_map.1 hi
      obtain rfl : i0 = i := hx0
      cases s with
      | nil => cases hx
      | cons y r =>
        have hyi : y = (i0, b) := by
          rcases List.mem_cons.1 hx with h1 | h1
          · exact h1.symm
          · exfalso
            have h2 := hss.sublist (hk.ss.map (·.1))
            rw [List.map_cons, List.pairwise_cons] at h2
            exact hnot y.1 (.inr (by simp)) (h2.1 i0 (List.mem_map.2 ⟨_, h1, rfl⟩))
        subst hyi
        have hboth : ∀ x ∈ p, apB ops x.1 i0 = true ∧ (x.2 = true ∨ b = true) := by
          intro x hx
          have h1 := hps x (hk.sp.subset hx) (i0, b) (hk.ss.subset (by simp))
          simp only [Bool.or_eq_true, Bool.and_eq_true] at h1
          rcases h1 with h1 | h1
          · exact h1
          · exact (hnot x.1 (.inl (List.mem_map_of_mem hx)) h1).elim
        have h1 := wpOp_Qn (wpPre_past (w := w) (Q := Q) hsel ho _ p a (fun x hx => (hboth x hx).1) hk.wp)
        refine wpOp_mono (fun a' w' h2 => ?_) h1
        have hni : ∀ j, j ∈ p.map (·.1) ∨ j ∈ r.map (·.1) → j ≠ i0 := by
          intro j hj
          rw [List.map_cons, List.pairwise_append] at hnd'
          obtain ⟨-, h2, h3⟩ := hnd'
          rw [List.pairwise_cons] at h2
          rcases hj with hj | hj
          · have := h3 j hj i0 (by simp); simpa using this
          · have := h2.1 j hj; exact fun e => by subst e; simp at this
        have hsplit : (∀ x ∈ p, x.2 = true) ∨ (b = true) := by
          by_cases hb : b = true
          · exact .inr hb
          · exact .inl fun x hx => (hboth x hx).2.elim id (fun h => absurd h hb)
        -- the class at the new world
        have hcw : (C w' ∨ ∀ x ∈ p, x.2 = true) ∧ wpPre P ops C p (fun a => wpSeq P ops Q C r a w') a' := by
          constructor
          · rcases hsplit with h3 | h3
            · exact .inr h3
            · have : ∀ (p : List (Nat × Bool)) (a : Act), wpPre P ops C p (fun a => (b = true → C w') ∧ wpSeq P ops Q C r a w') a → C w' := by
                intro p
                induction p with
                | nil => intro a h4; exact h4.1 h3
                | cons x p ih => rintro a ⟨_, _, _, _, h4⟩; exact ih _ h4
              exact .inl (this p a' h2)
          · have : ∀ (p : List (Nat × Bool)) (a : Act), wpPre P ops C p (fun a => (b = true → C w') ∧ wpSeq P ops Q C r a w') a → wpPre P ops C p (fun a => wpSeq P ops Q C r a w') a := by
              intro p
              induction p with
              | nil => intro a h4; exact h4.2
              | cons x p ih => rintro a ⟨o1, v1, ho1, hy1, h4⟩; exact ⟨o1, v1, ho1, hy1, ih _ h4⟩
            exact this p a' h2
        refine ⟨p, r, hk.sp, (List.sublist_cons_self _ _).trans hk.ss, fun j => ?_, hcw.1, hcl', hcw.2⟩
        constructor
        · intro hj
          have h3 := (hk.mem j).1 (hj.imp id (fun h => by simp; exact .inr (by simpa using h)))
          exact ⟨h3.1, fun h4 => h4.elim h3.2 (hni j hj)⟩
        · rintro ⟨h3, h4⟩
          have h5 := (hk.mem j).2 ⟨h3, fun h6 => h4 (.inl h6)⟩
          rcases h5 with h5 | h5
          · exact .inl h5
          · rw [List.map_cons, List.mem_cons] at h5
            rcases h5 with h5 | h5
            · exact absurd (.inr h5) h4
            · exact .inr h5
  · rintro D a w ⟨p, s, hk⟩ hall
    have hp : p = [] := by
      cases p with
      | nil => rfl
      | cons x p => have h1 := (hk.mem x.1).1 (.inl (by simp)); exact absurd (hall _ h1.1) h1.2
    have hs : s = [] := by
      cases s with
      | nil => rfl
      | cons x s => have h1 := (hk.mem x.1).1 (.inr (by simp)); exact absurd (hall _ h1.1) h1.2
    subst hp
    subst hs
    exact hk.wp

theorem wpPre_step {i : Nat} {b : Bool} {r : List (Nat × Bool)} {K : Act → Prop} {a : Act} (o : Oper) (v : Value) (ho : ops[i]? = some o) (hg : o.guard = none) (hy : ∀ w, cls C b w → (execOp a.eval o).run P w = .ok (.value v) w) (h : wpPre P ops C r K (a.put o.dst v)) : wpPre P ops C ((i, b) :: r) K a :=
  ⟨o, v, ho, .inl ⟨by simp [Region.wanted, hg], hy⟩, h⟩

/-- one that reads: its value is found by the walk -/
theorem wpPre_e {i : Nat} {b : Bool} {r : List (Nat × Bool)} {K : Act → Prop} {a : Act} {o : Oper} (ho : ops[i]? = some o) (hg : o.guard = none)
    (h : ∀ K' : Act → Prop, (∀ a, wpPre P ops C r K a → K' a) → ∃ v, (∀ w, cls C b w → (execOp a.eval o).run P w = .ok (.value v) w) ∧ K' (a.put o.dst v)) : wpPre P ops C ((i, b) :: r) K a := by
  obtain ⟨v, hy, hk⟩ := h _ (fun _ h => h)
  exact ⟨o, v, ho, .inl ⟨by simp [Region.wanted, hg], hy⟩, hk⟩
theorem wpPre_nil {K : Act → Prop} {a : Act} (h : K a) : wpPre P ops C [] K a := h
theorem wpSeq_nil {a : Act} {w : World} (h : Q .normal a w) : wpSeq P ops Q C [] a w := h
theorem wpSeq_e {m : Nat} {b : Bool} {r : List (Nat × Bool)} {a : Act} {w : World} {o : Oper} (ho : ops[m]? = some o)
    (h : ∀ K' : Act → World → Prop, (∀ a w, (b = true → C w) → wpSeq P ops Q C r a w → K' a w) → if Region.wanted o (yielded ops a.tmps) = true then Oper.wp P o a w K' (Qn Q) else K' (a.put o.dst undef) w) : wpSeq P ops Q C ((m, b) :: r) a w := by
  have h1 := h (fun a w => (b = true → C w) ∧ wpSeq P ops Q C r a w) (fun _ _ h1 h2 => ⟨h1, h2⟩)
  show wpOp P ops (Qn Q) m _ a w
  unfold wpOp
  simp only [ho]
  split
  · rename_i hw
    rw [if_pos hw] at h1
    exact .inl h1
  · rename_i hw
    rw [if_neg hw] at h1
    exact h1
theorem below_fact {w w' : World} {b : Bool} {a : Addr} {v : Value} (h : cls (fun x => Below w.heap.size w x) b w') (hb : b = false) (hc : w.cell? a = some v) : w'.cell? a = some v := by
  have h1 : Below w.heap.size w w' := h.resolve_left (by simp [hb])
  rw [h1.cell (block_lt_of_cell hc)]
  exact hc
end
end Go.Proofs.Ytikfpoabaaiegaa

namespace Go.Proofs.Ytikfpoabaaiegaa
open Go.RowKit
set_option maxRecDepth 8000
theorem dec_in {n m : Int} (h : 0 ≤ n ∧ n ≤ m) : decide (n < 0 ∨ m < n) = false := by simp; omega
theorem dec_out {n m : Int} (h : ¬ (0 ≤ n ∧ n ≤ m)) : decide (n < 0 ∨ m < n) = true := by simp; omega
set_option maxHeartbeats 4000000 in
theorem fs_bound (g : GI) (w : World) (h : ¬ bnd g) : Calls Try.prog 47 #[g.val] w fun x w' => errPost (43) w x w' := by
  have hbx := Box.new w #[.int .i64 g.id, .int .i64 g.task, .int .i64 g.base, .int .u32 (g.sum : Int), .int .i64 g.st.num, .slice g.st.p g.st.n g.st.c, .int .i64 g.dnum, .slice g.set.p g.set.n g.set.c, .slice g.gone.p g.gone.n g.gone.c, .slice g.logs.p g.logs.n g.logs.c, .slice g.pend.p g.pend.n g.pend.c] 38
  have c0 := (hbx).cell 0
  have c1 := (hbx).cell 1
  have c2 := (hbx).cell 2
  have c3 := (hbx).cell 3
  have c4 := (hbx).cell 4
  have c5 := (hbx).cell 5
  have c6 := (hbx).cell 6
  have c7 := (hbx).cell 7
  have c8 := (hbx).cell 8
  have c9 := (hbx).cell 9
  have c10 := (hbx).cell 10
  simp only [List.getElem?_toArray, List.getElem?_cons_zero, List.getElem?_cons_succ] at c0 c1 c2 c3 c4 c5 c6 c7 c8 c9 c10
  have HA : Hid (Below w.heap.size w (w.alloc (.cells #[.int .i64 g.id, .int .i64 g.task, .int .i64 g.base, .int .u32 (g.sum : Int), .int .i64 g.st.num, .slice g.st.p g.st.n g.st.c, .int .i64 g.dnum, .slice g.set.p g.set.n g.set.c, .slice g.gone.p g.gone.n g.gone.c, .slice g.logs.p g.logs.n g.logs.c, .slice g.pend.p g.pend.n g.pend.c] 38))) := (Below.refl _ _).alloc (Nat.le_refl _) _
  have HO1 := hid (refOut_any g.id 9999 (w.alloc (.cells #[.int .i64 g.id, .int .i64 g.task, .int .i64 g.base, .int .u32 (g.sum : Int), .int .i64 g.st.num, .slice g.st.p g.st.n g.st.c, .int .i64 g.dnum, .slice g.set.p g.set.n g.set.c, .slice g.gone.p g.gone.n g.gone.c, .slice g.logs.p g.logs.n g.logs.c, .slice g.pend.p g.pend.n g.pend.c] 38)))
  have HO2 := hid (refOut_any g.task 11 (w.alloc (.cells #[.int .i64 g.id, .int .i64 g.task, .int .i64 g.base, .int .u32 (g.sum : Int), .int .i64 g.st.num, .slice g.st.p g.st.n g.st.c, .int .i64 g.dnum, .slice g.set.p g.set.n g.set.c, .slice g.gone.p g.gone.n g.gone.c, .slice g.logs.p g.logs.n g.logs.c, .slice g.pend.p g.pend.n g.pend.c] 38)))
  have HO3 := hid (refOut_any g.base 9999 (w.alloc (.cells #[.int .i64 g.id, .int .i64 g.task, .int .i64 g.base, .int .u32 (g.sum : Int), .int .i64 g.st.num, .slice g.st.p g.st.n g.st.c, .int .i64 g.dnum, .slice g.set.p g.set.n g.set.c, .slice g.gone.p g.gone.n g.gone.c, .slice g.logs.p g.logs.n g.logs.c, .slice g.pend.p g.pend.n g.pend.c] 38)))
  unfold GI.val
  unfold bnd at h
  clear hbx
  go_enter Try.func47, Try.ntmps47
  go_wp2_with fail
  refine HO1.out.mono ?_
  rintro x w1 ⟨rfl, hw1⟩
  subst w1
  by_cases h1 : 0 ≤ g.id ∧ g.id ≤ 9999
  · rw [dec_in h1]
    go_wp2_with fail
    refine HO2.out.mono ?_
    rintro x w1 ⟨rfl, hw1⟩
    subst w1
    by_cases h2 : 0 ≤ g.task ∧ g.task ≤ 11
    · rw [dec_in h2]
      have h3 : ¬ (0 ≤ g.base ∧ g.base ≤ 9999) := fun h3 => h ⟨h1, h2, h3⟩
      clear h h1 h2
      go_wp2_with fail
      refine HO3.out.mono ?_
      rintro x w1 ⟨rfl, hw1⟩
      subst w1
      rw [dec_out h3]
      clear h3
      go_wp2
      go_ret
      exact ⟨rfl, HA.out⟩
    · rw [dec_out h2]
      clear h h1 h2
      go_wp2
      go_ret
      exact ⟨rfl, HA.out⟩
  · rw [dec_out h1]
    clear h h1
    go_wp2
    go_ret
    exact ⟨rfl, HA.out⟩
end Go.Proofs.Ytikfpoabaaiegaa
