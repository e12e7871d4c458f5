import Derived.Test.YtbeibhmbaofjhaaPack0
import Derived.Orders
import Derived.Still
namespace Go.Proofs.Ytbeibhmbaofjhaa
open Go.RowKit
set_option maxRecDepth 8000
theorem step_call {ops : Array Oper} {o : Oper} {a : Act} {w : World} {K : Act → World → Prop} {Q : Exit → Act → World → Prop} {E : Prop}
    (hgd : o.guard = none) (f : Nat) (xs : Array Operand) (ts : Array TypeId) (hop : o.op = Op.call { callee := Callee.value (Operand.func f), args := xs, argTypes := ts })
    (F : Func) (hF : Try.prog.funcs[f]? = some F) (hN : (F.name == "runtime.NumGoroutine") = false) (hB : F.body.isNone = false) (vs : Array Value) (hvl : xs.toList.map a.eval = vs.toList) (R : Ending → World → Prop) (hC : Calls Try.prog f vs w R) (hK : ∀ e w', R e w' → ∃ v, e = .returned v ∧ K (a.put o.dst v) w') :
    if Region.wanted o (yielded ops a.tmps) = true then Oper.wp Try.prog o a w K Q else E := by
  have hw : Region.wanted o (yielded ops a.tmps) = true := by simp [Region.wanted, hgd]
  rw [if_pos hw]
  have hvs : xs.map a.eval = vs := by
    obtain ⟨xl⟩ := xs
    obtain ⟨vl⟩ := vs
    simp only at hvl
    rw [List.map_toArray, hvl]
  have hrun : (execOp a.eval o).run Try.prog w = .ok (.enter f vs) w := by
    have h1 : ¬ F.name = "runtime.NumGoroutine" := by simpa using hN
    have h2 : ¬ F.body = none := by intro h; rw [h] at hB; cases hB
    simp [execOp, hop, resolve, invoke, hvs, Deferred.ofValue, Act.eval, callFunc, Result.andThen, go_sem, hF, h1, h2]
  unfold Oper.wp
  rw [hrun, Oper.upon_enter]
  refine hC.mono fun e w' h => ?_
  obtain ⟨v, rfl, hk⟩ := hK e w' h
  exact hk
end Go.Proofs.Ytbeibhmbaofjhaa

namespace Go.Proofs.Ytbeibhmbaofjhaa
open Go.RowKit
set_option maxRecDepth 8000

/-- how many are not done -/
def unl : List Bool → Nat
  | [] => 0
  | b :: r => (if b then 0 else 1) + unl r
theorem unl_set : ∀ (l : List Bool) (i : Nat), l[i]? = some false → unl (l.set i true) + 1 = unl l
  | [], i, h => by simp at h
  | b :: r, 0, h => by
    simp at h
    subst h
    simp [unl]
    omega
  | b :: r, i + 1, h => by
    have := unl_set r i (by simpa using h)
    simp only [List.set_cons_succ, unl]
    omega
theorem unl_zero : ∀ (l : List Bool), unl l = 0 → ∀ (i : Nat) (b : Bool), l[i]? = some b → b = true
  | [], _, i, b, h => by simp at h
  | c :: r, hu, 0, b, h => by
    simp at h
    subst h
    cases c with
    | true => rfl
    | false => simp [unl] at hu
  | c :: r, hu, i + 1, b, h => by
    refine unl_zero r ?_ i b (by simpa using h)
    simp only [unl] at hu
    omega

/-- WHATEVER ORDER IS DRAWN: a statement about what is done, that each operation keeps -/
theorem wpAny_inv {P : Program} {ops : Array Oper} {Q : Exit → Act → World → Prop} (I : (Nat → Prop) → Act → World → Prop)
    (hext : ∀ D D' a w, (∀ j, D j ↔ D' j) → I D a w → I D' a w)
    (hac : ∀ (i : Nat) (o : Oper), ops[i]? = some o → ∀ e ∈ o.after, Region.binds .any e = true → e.on < i)
    (hstep : ∀ D a w, I D a w → ∀ (i : Nat) (o : Oper), ops[i]? = some o → ¬ D i → (∀ e ∈ o.after, Region.binds .any e = true → D e.on) → wpOp P ops Q i (I fun j => D j ∨ j = i) a w)
    (hend : ∀ D a w, I D a w → (∀ i, i < ops.size → D i) → Q .normal a w) :
    ∀ (fuel : Nat) (listed : Array Bool) (a : Act) (w : World), listed.size = ops.size → unl listed.toList ≤ fuel → I (fun j => listed[j]? = some true) a w → wpAny P .any ops Q fuel listed a w := by
  have hall : ∀ (listed : Array Bool), listed.size = ops.size → Region.ready .any ops listed = [] → ∀ i, i < ops.size → listed[i]? = some true := by
    intro listed hs hr i
    induction i using Nat.strongRecOn with
    | _ i ih =>
      intro hi
      cases hb : listed[i]? with
      | none => rw [Array.getElem?_eq_none_iff] at hb; omega
      | some b =>
        cases b with
        | true => rfl
        | false =>
          exfalso
          have hm : i ∈ Region.ready .any ops listed := by
            rw [mem_ready]
            refine ⟨by simp [Array.getD_eq_getD_getElem?, hb], ops[i], by simp [hi], fun e he hbd => ?_⟩
            have hlt := hac i ops[i] (by simp [hi]) e he hbd
            have := ih e.on hlt (by omega)
            simp [Array.getD_eq_getD_getElem?, this]
          rw [hr] at hm
          cases hm
  intro fuel
  induction fuel with
  | zero =>
    intro listed a w hs hu hI
    have hl : ∀ i, i < ops.size → listed[i]? = some true := by
      intro i hi
      cases hb : listed[i]? with
      | none => rw [Array.getElem?_eq_none_iff] at hb; omega
      | some b => rw [unl_zero listed.toList (by omega) i b (by simpa using hb)]
    refine ⟨?_, hend _ a w hI hl⟩
    cases hr : Region.ready .any ops listed with
    | nil => rfl
    | cons j r =>
      have hj : j ∈ Region.ready .any ops listed := by rw [hr]; simp
      rw [mem_ready] at hj
      obtain ⟨h0, o, ho, _⟩ := hj
      have hlt : j < ops.size := (Array.getElem?_eq_some_iff.1 ho).1
      rw [Array.getD_eq_getD_getElem?, hl j hlt] at h0
      cases h0
  | succ fuel ih =>
    intro listed a w hs hu hI
    refine ⟨fun hr => hend _ a w hI (hall listed hs hr), fun i hi => ?_⟩
    rw [mem_ready] at hi
    obtain ⟨h0, o, ho, hdep⟩ := hi
    have hlt : i < ops.size := (Array.getElem?_eq_some_iff.1 ho).1
    have hli : listed[i]? = some false := by
      cases hb : listed[i]? with
      | none => rw [Array.getElem?_eq_none_iff] at hb; omega
      | some b => rw [Array.getD_eq_getD_getElem?, hb] at h0; simp at h0; rw [h0]
    refine wpOp_mono ?_ (hstep _ a w hI i o ho (by rw [hli]; simp) (fun e he hb => ?_))
    · intro a' w' h'
      refine ih _ a' w' (by simpa using hs) ?_ (hext _ _ _ _ ?_ h')
      · have := unl_set listed.toList i (by simpa using hli)
        rw [Array.toList_setIfInBounds]
        omega
      · intro j
        by_cases hji : j = i
        · subst hji
          simp [hs, hlt]
        · simp [hji, Ne.symm hji]
    · have := hdep e he hb
      rw [Array.getD_eq_getD_getElem?] at this
      cases hb2 : listed[e.on]? with
      | none => rw [hb2] at this; simp at this
      | some b => rw [hb2] at this; simp at this; rw [this]

theorem unl_replicate : ∀ n, unl (List.replicate n false) = n
  | 0 => rfl
  | n + 1 => by
    have := unl_replicate n
    simp only [List.replicate_succ, unl]
    simp
    omega

/-- what comes behind is laid behind -/
def acB (ops : Array Oper) : Bool := (List.range ops.size).all fun i => match ops[i]? with
  | none => true
  | some o => o.after.all fun e => !(Region.binds .any e) || decide (e.on < i)
theorem acB_spec {ops : Array Oper} (h : acB ops = true) : ∀ (i : Nat) (o : Oper), ops[i]? = some o → ∀ e ∈ o.after, Region.binds .any e = true → e.on < i := by
  intro i o ho e he hb
  have hlt : i < ops.size := (Array.getElem?_eq_some_iff.1 ho).1
  have h1 := List.all_eq_true.1 h i (List.mem_range.2 hlt)
  simp only [ho] at h1
  have h2 := Array.all_eq_true_iff_forall_mem.1 h1 e he
  rw [hb] at h2
  simpa using h2

theorem wp_region_inv {P : Program} {ops : Array Oper} {Q : Exit → Act → World → Prop} {id : Nat} {a : Act} {w : World} (hm : P.follows .mixedOrders = true) (I : (Nat → Prop) → Act → World → Prop)
    (hext : ∀ D D' a w, (∀ j, D j ↔ D' j) → I D a w → I D' a w)
    (hac : acB ops = true)
    (h0 : ∀ D, (∀ j, ¬ D j) → I D a w.drew)
    (hstep : ∀ D a w, I D a w → ∀ (i : Nat) (o : Oper), ops[i]? = some o → ¬ D i → (∀ e ∈ o.after, Region.binds .any e = true → D e.on) → wpOp P ops Q i (I fun j => D j ∨ j = i) a w)
    (hend : ∀ D a w, I D a w → (∀ i, i < ops.size → D i) → Q .normal a w) : (Code.region id ops true).wp P Q a w := by
  refine wp_region_any hm (wpAny_inv I hext (acB_spec hac) hstep hend ops.size _ a _ (by simp) ?_ (h0 _ ?_))
  · rw [Array.toList_replicate, unl_replicate]
    exact Nat.le_refl _
  · intro j h
    rw [Array.getElem?_replicate] at h
    split at h <;> simp at h
end Go.Proofs.Ytbeibhmbaofjhaa

namespace Go.Proofs.Ytbeibhmbaofjhaa
open Go.RowKit
set_option maxRecDepth 8000

/-- the class of an operation that only reads: true: any world -/
def cls (C : World → Prop) (b : Bool) : World → Prop := fun w => b = true ∨ C w
/-- it yields v, in every world of the class, and leaves the world -/
def Yld (P : Program) (ops : Array Oper) (C : World → Prop) (o : Oper) (v : Value) (a : Act) : Prop :=
  (Region.wanted o (yielded ops a.tmps) = true ∧ ∀ w, C w → (execOp a.eval o).run P w = .ok (.value v) w) ∨ (Region.wanted o (yielded ops a.tmps) = false ∧ v = undef)
def wpPre (P : Program) (ops : Array Oper) (C : World → Prop) : List (Nat × Bool) → (Act → Prop) → Act → Prop
  | [], K, a => K a
  | (i, b) :: r, K, a => ∃ o v, ops[i]? = some o ∧ Yld P ops (cls C b) o v a ∧ wpPre P ops C r K (a.put o.dst v)
/-- no way out but the plain one -/
def Qn (Q : Exit → Act → World → Prop) : Exit → Act → World → Prop := fun e a w => e = .normal ∧ Q .normal a w
def wpSeq (P : Program) (ops : Array Oper) (Q : Exit → Act → World → Prop) (C : World → Prop) : List (Nat × Bool) → Act → World → Prop
  | [], a, w => Q .normal a w
  | (m, b) :: r, a, w => wpOp P ops (Qn Q) m (fun a w => (b = true → C w) ∧ wpSeq P ops Q C r a w) a w

section
variable {P : Program} {ops : Array Oper} {Q : Exit → Act → World → Prop} {C : World → Prop}
theorem Qn_out : ¬ LetsOut (Qn Q) := fun ⟨_, _, h, _⟩ => by cases h
theorem Yld.put {oi : Oper} {dj : Option Tmp} {v : Value} {a : Act} {C : World → Prop} (hs : ∀ cs b, oi.op ≠ .select cs b) (h3 : ∀ d, dj = some d → d ∉ oi.looksAt ops) (hy : Yld P ops C oi v a) (u : Value) : Yld P ops C oi v (a.put dj u) := by
  unfold Yld at *
  rw [execOp_put oi hs a dj u h3, wanted_put oi a dj u h3]
  exact hy
theorem Yld.unput {oi : Oper} {dj : Option Tmp} {v u : Value} {a : Act} {C : World → Prop} (hs : ∀ cs b, oi.op ≠ .select cs b) (h3 : ∀ d, dj = some d → d ∉ oi.looksAt ops) (hy : Yld P ops C oi v (a.put dj u)) : Yld P ops C oi v a := by
  unfold Yld at *
  rw [execOp_put oi hs a dj u h3, wanted_put oi a dj u h3] at hy
  exact hy

def apB (ops : Array Oper) (i j : Nat) : Bool := match ops[i]?, ops[j]? with
  | some a, some b => a.apart ops b
  | _, _ => false
theorem apB_spec {i j : Nat} {a b : Oper} (h : apB ops i j = true) (ha : ops[i]? = some a) (hb : ops[j]? = some b) : a.apart ops b = true := by
  unfold apB at h
  rw [ha, hb] at h
  exact h

theorem wpPre_move (hsel : Region.noSelect ops = true) (i : Nat) (b : Bool) (l2 : List (Nat × Bool)) (K : Act → Prop) : ∀ (l1 : List (Nat × Bool)) (a : Act), (∀ x ∈ l1, apB ops x.1 i = true) →
    wpPre P ops C (l1 ++ (i, b) :: l2) K a → wpPre P ops C ((i, b) :: (l1 ++ l2)) K a
  | [], _, _, h => h
  | x :: l1, a, hap, h => by
    obtain ⟨ox, u, hox, hyx, h⟩ := h
    obtain ⟨oi, v, hoi, hyi, h'⟩ := wpPre_move hsel i b l2 K l1 _ (fun y hy => hap y (by simp [hy])) h
    obtain ⟨h1, h2, h3⟩ := Oper.apart_spec (apB_spec (hap x (by simp)) hox hoi)
    refine ⟨oi, v, hoi, hyi.unput (fun cs b => Region.noSelect_spec hsel i oi cs b hoi) h1, ox, u, hox, hyx.put (fun cs b => Region.noSelect_spec hsel _ ox cs b hox) h3 v, ?_⟩
    rw [← Act.put_comm a u v h2]
    exact h'

theorem wpOp_put {x i : Nat} {ox oi : Oper} {u : Value} {a : Act} {w : World} {C : World → Prop} (hsel : Region.noSelect ops = true) (hox : ops[x]? = some ox) (hoi : ops[i]? = some oi) (hap : ox.apart ops oi = true) {K : Act → World → Prop}
    (hy : Yld P ops C ox u a) (h : wpOp P ops (Qn Q) i K (a.put ox.dst u) w) : wpOp P ops (Qn Q) i (fun a' w' => Yld P ops C ox u a' ∧ K (a'.put ox.dst u) w') a w := by
  obtain ⟨h1, h2, h3⟩ := Oper.apart_spec hap
  have hsi := fun cs b => Region.noSelect_spec hsel i oi cs b hoi
  have keep : ∀ a0, Yld P ops C ox u a0 → ∀ v, Yld P ops C ox u (a0.put oi.dst v) := fun a0 h0 v => h0.put (fun cs b => Region.noSelect_spec hsel _ ox cs b hox) h3 v
  unfold wpOp at *
  simp only [hoi] at *
  rw [wanted_put oi a ox.dst u h1] at h
  split
  · rename_i hw
    simp only [hw, if_true] at h
    rcases h with h | ⟨_, hl⟩
    · left
      unfold Oper.wp at *
      rw [execOp_put oi hsi a ox.dst u h1] at h
      generalize (execOp a.eval oi).run P w = r at *
      cases r with
      | ok n w' =>
        cases n <;> simp only [Oper.upon] at h ⊢
        case value v => exact ⟨keep a hy v, by rw [← Act.put_comm a u v h2]; exact h⟩
        case skip => exact ⟨keep a hy _, by rw [← Act.put_comm a u undef h2]; exact h⟩
        case defer d =>
          refine ⟨keep { a with defers := d :: a.defers } hy _, ?_⟩
          rw [← Act.put_comm { a with defers := d :: a.defers } u undef h2]
          have e : ({ a with defers := d :: a.defers } : Act).put ox.dst u = { a.put ox.dst u with defers := d :: (a.put ox.dst u).defers } := by cases ox.dst <;> rfl
          rw [e]
          exact h
        case enter f args =>
          refine Calls.mono h fun e w'' he => ?_
          cases e with
          | returned v => exact ⟨keep a hy v, by rw [← Act.put_comm a u v h2]; exact he⟩
          | panicked c => exact absurd he.1 (by simp)
          | outgrown => exact absurd he Qn_out
        case row row args => exact Rows.mono h fun v w'' he => ⟨keep a hy v, by rw [← Act.put_comm a u v h2]; exact he⟩
      | halt x w' =>
        cases x <;> simp only [Oper.upon] at h ⊢
        exact absurd h.1 (by simp)
    · exact absurd hl Qn_out
  · rename_i hw
    simp only [hw] at h
    exact ⟨keep a hy _, by rw [← Act.put_comm a u undef h2]; exact h⟩

theorem wpPre_past {w : World} {i : Nat} {oi : Oper} (hsel : Region.noSelect ops = true) (hoi : ops[i]? = some oi) (K : Act → World → Prop) : ∀ (pre : List (Nat × Bool)) (a : Act), (∀ x ∈ pre, apB ops x.1 i = true) →
    wpPre P ops C pre (fun a => wpOp P ops (Qn Q) i K a w) a → wpOp P ops (Qn Q) i (fun a' w' => wpPre P ops C pre (fun a => K a w') a') a w
  | [], _, _, h => h
  | x :: r, a, hap, h => by
    obtain ⟨ox, u, hox, hyx, h⟩ := h
    have h1 := wpPre_past hsel hoi K r _ (fun y hy => hap y (by simp [hy])) h
    exact wpOp_mono (fun a' w' h2 => ⟨ox, u, hox, h2.1, h2.2⟩) (wpOp_put hsel hox hoi (apB_spec (hap x (by simp)) hox hoi) hyx h1)

theorem wpOp_Qn {i : Nat} {K : Act → World → Prop} {a : Act} {w : World} (h : wpOp P ops (Qn Q) i K a w) : wpOp P ops Q i K a w := by
  unfold wpOp at *
  split
  · rename_i ho
    rw [ho] at h
    exact h
  · rename_i o ho
    simp only [ho] at h
    split
    · rename_i hw
      simp only [hw, if_true] at h
      rcases h with h | ⟨_, hl⟩
      · left
        unfold Oper.wp at *
        generalize (execOp a.eval o).run P w = r at *
        cases r with
        | ok n w' =>
          cases n <;> simp only [Oper.upon] at h ⊢
          case enter f args =>
            refine Calls.mono h fun e w'' he => ?_
            cases e with
            | returned v => exact he
            | panicked c => exact absurd he.1 (by simp)
            | outgrown => exact absurd he Qn_out
          all_goals exact h
        | halt x w' =>
          cases x <;> simp only [Oper.upon] at h ⊢
          exact absurd h.1 (by simp)
      · exact absurd hl Qn_out
    · rename_i hw
      simp only [hw] at h
      exact h

/-- j waits for i, by some way -/
def reachB (ops : Array Oper) : Nat → Nat → Nat → Bool
  | 0, _, _ => false
  | f + 1, j, i => match ops[j]? with
    | none => false
    | some o => o.after.any fun e => Region.binds .any e && (e.on == i || reachB ops f e.on i)
theorem reach_done {D : Nat → Prop} (hcl : ∀ (j : Nat) (o : Oper), ops[j]? = some o → D j → ∀ e ∈ o.after, Region.binds .any e = true → D e.on) :
    ∀ (f j i : Nat), reachB ops f j i = true → (∀ o, ops[j]? = some o → ∀ e ∈ o.after, Region.binds .any e = true → D e.on) → D i
  | 0, _, _, h, _ => by cases h
  | f + 1, j, i, h, hd => by
    unfold reachB at h
    split at h
    · cases h
    · rename_i o ho
      obtain ⟨e, he, hb⟩ := Array.any_eq_true'.1 h
      simp only [Bool.and_eq_true, Bool.or_eq_true, beq_iff_eq] at hb
      have hon := hd o ho e he hb.1
      rcases hb.2 with h1 | h1
      · rw [← h1]; exact hon
      · exact reach_done hcl f e.on i h1 (fun o' ho' => hcl e.on o' ho' hon)

def pairsB (R : Nat → Nat → Bool) : List Nat → Bool
  | [] => true
  | x :: l => l.all (R x) && pairsB R l
theorem pairsB_spec {R : Nat → Nat → Bool} : ∀ {l : List Nat}, pairsB R l = true → l.Pairwise (fun x y => R x y = true)
  | [], _ => .nil
  | x :: l, h => by
    simp only [pairsB, Bool.and_eq_true, List.all_eq_true] at h
    exact .cons h.1 (pairsB_spec h.2)

def calmB (ops : Array Oper) (f : Nat) (pre sq : List (Nat × Bool)) : Bool :=
  Region.noSelect ops && acB ops && pairsB (fun i j => i != j) (pre.map (·.1) ++ sq.map (·.1)) &&
  (List.range ops.size).all (fun j => (pre.map (·.1) ++ sq.map (·.1)).contains j) && (pre.map (·.1) ++ sq.map (·.1)).all (fun j => decide (j < ops.size)) &&
  pairsB (fun i j => apB ops i j || reachB ops f j i) (pre.map (·.1)) &&
  pre.all (fun x => sq.all fun y => (apB ops x.1 y.1 && (x.2 || y.2)) || reachB ops f y.1 x.1) &&
  pairsB (fun i j => reachB ops f j i) (sq.map (·.1))

/-- what holds while the region is gone through -/
structure Calm (P : Program) (ops : Array Oper) (Q : Exit → Act → World → Prop) (C : World → Prop) (pre sq : List (Nat × Bool)) (D : Nat → Prop) (a : Act) (w : World) (pre' sq' : List (Nat × Bool)) : Prop where
  sp : pre'.Sublist pre
  ss : sq'.Sublist sq
  mem : ∀ j, (j ∈ pre'.map (·.1) ∨ j ∈ sq'.map (·.1)) ↔ (j < ops.size ∧ ¬ D j)
  wc : C w ∨ ∀ x ∈ pre', x.2 = true
  cl : ∀ (j : Nat) (o : Oper), ops[j]? = some o → D j → ∀ e ∈ o.after, Region.binds .any e = true → D e.on
  wp : wpPre P ops C pre' (fun a => wpSeq P ops Q C sq' a w) a

theorem wp_region_calm {rid : Nat} {a : Act} {w : World} (f : Nat) (C : World → Prop) (pre sq : List (Nat × Bool)) (hm : P.follows .mixedOrders = true) (hB : calmB ops f pre sq = true) (hC : C w.drew)
    (h : wpPre P ops C pre (fun a => wpSeq P ops Q C sq a w.drew) a) : (Code.region rid ops true).wp P Q a w := by
  simp only [calmB, Bool.and_eq_true] at hB
  obtain ⟨⟨⟨⟨⟨⟨⟨hsel, hac⟩, hnd⟩, hcov⟩, hlt⟩, hpp⟩, hps⟩, hss⟩ := hB
  have hnd := pairsB_spec hnd
  have hpp := pairsB_spec hpp
  have hss := pairsB_spec hss
  simp only [List.all_eq_true] at hcov hlt hps
  refine wp_region_inv hm (fun D a w => ∃ pre' sq', Calm P ops Q C pre sq D a w pre' sq') ?_ hac ?_ ?_ ?_
  · rintro D D' a w hD ⟨p, s, hk⟩
    have e : D = D' := funext fun j => propext (hD j)
    subst e
    exact ⟨p, s, hk⟩
  · intro D hD
    refine ⟨pre, sq, .refl _, .refl _, fun j => ⟨fun hj => ⟨?_, hD j⟩, fun hj => ?_⟩, .inl hC, fun j o _ hj => absurd hj (hD j), h⟩
    · exact of_decide_eq_true (hlt j (List.mem_append.2 hj))
    · exact List.mem_append.1 (List.contains_iff_mem.1 (hcov j (List.mem_range.2 hj.1)))
  · rintro D a w ⟨p, s, hk⟩ i o ho hnD hdep
    have hil : i < ops.size := (Array.getElem?_eq_some_iff.1 ho).1
    have hnot : ∀ x, (x ∈ p.map (·.1) ∨ x ∈ s.map (·.1)) → reachB ops f i x = true → False := fun x hx hr =>
      ((hk.mem x).1 hx).2 (reach_done hk.cl f i x hr (fun o' ho' => by obtain rfl := Option.some.inj (ho.symm.trans ho'); exact hdep))
    have hcl' : ∀ (j : Nat) (o : Oper), ops[j]? = some o → (D j ∨ j = i) → ∀ e ∈ o.after, Region.binds .any e = true → (D e.on ∨ e.on = i) := by
      intro j o' ho' hj e he hb
      rcases hj with hj | rfl
      · exact .inl (hk.cl j o' ho' hj e he hb)
      · obtain rfl := Option.some.inj (ho.symm.trans ho')
        exact .inl (hdep e he hb)
    have hnd' : (p.map (·.1) ++ s.map (·.1)).Pairwise (fun i j => (i != j) = true) := hnd.sublist ((hk.sp.map _).append (hk.ss.map _))
    rcases (hk.mem i).2 ⟨hil, hnD⟩ with hi | hi
    · obtain ⟨⟨i0, b⟩, hx, hx0⟩ := List.mem_map.1 hi
      obtain rfl : i0 = i := hx0
      obtain ⟨l1, l2, rfl⟩ := List.append_of_mem hx
      have hap : ∀ x ∈ l1, apB ops x.1 i0 = true := by
        intro x hx
        have h1 := hpp.sublist (hk.sp.map (·.1))
        rw [List.map_append, List.map_cons, List.pairwise_append] at h1
        have h2 := h1.2.2 x.1 (List.mem_map_of_mem hx) i0 (by simp)
        simp only [Bool.or_eq_true] at h2
        rcases h2 with h2 | h2
        · exact h2
        · exact (hnot x.1 (.inl (by rw [List.map_append, List.mem_append]; exact .inl (List.mem_map_of_mem hx))) h2).elim
      obtain ⟨oi, v, hoi, hy, h'⟩ := wpPre_move hsel i0 b l2 _ l1 a hap hk.wp
      obtain rfl := Option.some.inj (ho.symm.trans hoi)
      have hcw : cls C b w := by
        rcases hk.wc with h1 | h1
        · exact .inr h1
        · exact .inl (h1 (i0, b) (by simp))
      have hni : ∀ j, j ∈ (l1 ++ l2).map (·.1) ∨ j ∈ s.map (·.1) → j ≠ i0 := by
        intro j hj
        rw [List.map_append, List.map_cons, List.append_assoc, List.pairwise_append] at hnd'
        obtain ⟨-, h2, h3⟩ := hnd'
        rw [List.cons_append, List.pairwise_cons] at h2
        rw [List.map_append, List.mem_append] at hj
        rcases hj with (hj | hj) | hj
        · have := h3 j hj i0 (by simp); simpa using this
        · have := h2.1 j (by simp; exact .inl (by simpa using hj)); exact fun e => by subst e; simp at this
        · have := h2.1 j (by simp; exact .inr (by simpa using hj)); exact fun e => by subst e; simp at this
      have hnew : Calm P ops Q C pre sq (fun j => D j ∨ j = i0) (a.put o.dst v) w (l1 ++ l2) s := by
        refine ⟨(List.Sublist.append_left (List.sublist_cons_self _ _) l1).trans hk.sp, hk.ss, fun j => ?_, hk.wc.imp id (fun h1 x hx => h1 x (by simp at hx ⊢; rcases hx with hx | hx; exact .inl hx; exact .inr (.inr hx))), hcl', h'⟩
        constructor
        · intro hj
          have h1 := (hk.mem j).1 (by rcases hj with hj | hj; · left; rw [List.map_append, List.mem_append] at hj ⊢; rw [List.map_cons]; exact hj.imp id (List.mem_cons_of_mem _)
                                      · exact .inr hj)
          exact ⟨h1.1, fun h2 => h2.elim h1.2 (hni j hj)⟩
        · rintro ⟨h1, h2⟩
          have h3 := (hk.mem j).2 ⟨h1, fun h4 => h2 (.inl h4)⟩
          rcases h3 with h3 | h3
          · left
            rw [List.map_append, List.mem_append] at h3 ⊢
            rw [List.map_cons, List.mem_cons] at h3
            rcases h3 with h3 | h3 | h3
            · exact .inl h3
            · exact absurd (.inr h3) h2
            · exact .inr h3
          · exact .inr h3
      unfold wpOp
      simp only [ho]
      rcases hy with ⟨hw, hv⟩ | ⟨hw, rfl⟩
      · rw [if_pos hw]
        left
        unfold Oper.wp
        rw [hv w hcw]
        exact ⟨_, _, hnew⟩
      · rw [if_neg (by rw [hw]; simp)]
        exact ⟨_, _, hnew⟩
    · obtain ⟨⟨i0, b⟩, hx, hx0⟩ := List.mem_map.1 hi
      obtain rfl : i0 = i := hx0
      cases s with
      | nil => cases hx
      | cons y r =>
        have hyi : y = (i0, b) := by
          rcases List.mem_cons.1 hx with h1 | h1
          · exact h1.symm
          · exfalso
            have h2 := hss.sublist (hk.ss.map (·.1))
            rw [List.map_cons, List.pairwise_cons] at h2
            exact hnot y.1 (.inr (by simp)) (h2.1 i0 (List.mem_map.2 ⟨_, h1, rfl⟩))
        subst hyi
        have hboth : ∀ x ∈ p, apB ops x.1 i0 = true ∧ (x.2 = true ∨ b = true) := by
          intro x hx
          have h1 := hps x (hk.sp.subset hx) (i0, b) (hk.ss.subset (by simp))
          simp only [Bool.or_eq_true, Bool.and_eq_true] at h1
          rcases h1 with h1 | h1
          · exact h1
          · exact (hnot x.1 (.inl (List.mem_map_of_mem hx)) h1).elim
        have h1 := wpOp_Qn (wpPre_past (w := w) (Q := Q) hsel ho _ p a (fun x hx => (hboth x hx).1) hk.wp)
        refine wpOp_mono (fun a' w' h2 => ?_) h1
        have hni : ∀ j, j ∈ p.map (·.1) ∨ j ∈ r.map (·.1) → j ≠ i0 := by
          intro j hj
          rw [List.map_cons, List.pairwise_append] at hnd'
          obtain ⟨-, h2, h3⟩ := hnd'
          rw [List.pairwise_cons] at h2
          rcases hj with hj | hj
          · have := h3 j hj i0 (by simp); simpa using this
          · have := h2.1 j hj; exact fun e => by subst e; simp at this
        have hsplit : (∀ x ∈ p, x.2 = true) ∨ (b = true) := by
          by_cases hb : b = true
          · exact .inr hb
          · exact .inl fun x hx => (hboth x hx).2.elim id (fun h => absurd h hb)
        -- the class at the new world
        have hcw : (C w' ∨ ∀ x ∈ p, x.2 = true) ∧ wpPre P ops C p (fun a => wpSeq P ops Q C r a w') a' := by
          constructor
          · rcases hsplit with h3 | h3
            · exact .inr h3
            · have : ∀ (p : List (Nat × Bool)) (a : Act), wpPre P ops C p (fun a => (b = true → C w') ∧ wpSeq P ops Q C r a w') a → C w' := by
                intro p
                induction p with
                | nil => intro a h4; exact h4.1 h3
                | cons x p ih => rintro a ⟨_, _, _, _, h4⟩; exact ih _ h4
              exact .inl (this p a' h2)
          · have : ∀ (p : List (Nat × Bool)) (a : Act), wpPre P ops C p (fun a => (b = true → C w') ∧ wpSeq P ops Q C r a w') a → wpPre P ops C p (fun a => wpSeq P ops Q C r a w') a := by
              intro p
              induction p with
              | nil => intro a h4; exact h4.2
              | cons x p ih => rintro a ⟨o1, v1, ho1, hy1, h4⟩; exact ⟨o1, v1, ho1, hy1, ih _ h4⟩
            exact this p a' h2
        refine ⟨p, r, hk.sp, (List.sublist_cons_self _ _).trans hk.ss, fun j => ?_, hcw.1, hcl', hcw.2⟩
        constructor
        · intro hj
          have h3 := (hk.mem j).1 (hj.imp id (fun h => by simp; exact .inr (by simpa using h)))
          exact ⟨h3.1, fun h4 => h4.elim h3.2 (hni j hj)⟩
        · rintro ⟨h3, h4⟩
          have h5 := (hk.mem j).2 ⟨h3, fun h6 => h4 (.inl h6)⟩
          rcases h5 with h5 | h5
          · exact .inl h5
          · rw [List.map_cons, List.mem_cons] at h5
            rcases h5 with h5 | h5
            · exact absurd (.inr h5) h4
            · exact .inr h5
  · rintro D a w ⟨p, s, hk⟩ hall
    have hp : p = [] := by
      cases p with
      | nil => rfl
      | cons x p => have h1 := (hk.mem x.1).1 (.inl (by simp)); exact absurd (hall _ h1.1) h1.2
    have hs : s = [] := by
      cases s with
      | nil => rfl
      | cons x s => have h1 := (hk.mem x.1).1 (.inr (by simp)); exact absurd (hall _ h1.1) h1.2
    subst hp
    subst hs
    exact hk.wp

theorem wpPre_step {i : Nat} {b : Bool} {r : List (Nat × Bool)} {K : Act → Prop} {a : Act} (o : Oper) (v : Value) (ho : ops[i]? = some o) (hg : o.guard = none) (hy : ∀ w, cls C b w → (execOp a.eval o).run P w = .ok (.value v) w) (h : wpPre P ops C r K (a.put o.dst v)) : wpPre P ops C ((i, b) :: r) K a :=
  ⟨o, v, ho, .inl ⟨by simp [Region.wanted, hg], hy⟩, h⟩

/-- one that reads: its value is found by the walk -/
theorem wpPre_e {i : Nat} {b : Bool} {r : List (Nat × Bool)} {K : Act → Prop} {a : Act} {o : Oper} (ho : ops[i]? = some o) (hg : o.guard = none)
    (h : ∀ K' : Act → Prop, (∀ a, wpPre P ops C r K a → K' a) → ∃ v, (∀ w, cls C b w → (execOp a.eval o).run P w = .ok (.value v) w) ∧ K' (a.put o.dst v)) : wpPre P ops C ((i, b) :: r) K a := by
  obtain ⟨v, hy, hk⟩ := h _ (fun _ h => h)
  exact ⟨o, v, ho, .inl ⟨by simp [Region.wanted, hg], hy⟩, hk⟩
theorem wpPre_nil {K : Act → Prop} {a : Act} (h : K a) : wpPre P ops C [] K a := h
theorem wpSeq_nil {a : Act} {w : World} (h : Q .normal a w) : wpSeq P ops Q C [] a w := h
theorem wpSeq_e {m : Nat} {b : Bool} {r : List (Nat × Bool)} {a : Act} {w : World} {o : Oper} (ho : ops[m]? = some o)
    (h : ∀ K' : Act → World → Prop, (∀ a w, (b = true → C w) → wpSeq P ops Q C r a w → K' a w) → if Region.wanted o (yielded ops a.tmps) = true then Oper.wp P o a w K' (Qn Q) else K' (a.put o.dst undef) w) : wpSeq P ops Q C ((m, b) :: r) a w := by
  have h1 := h (fun a w => (b = true → C w) ∧ wpSeq P ops Q C r a w) (fun _ _ h1 h2 => ⟨h1, h2⟩)
  show wpOp P ops (Qn Q) m _ a w
  unfold wpOp
  simp only [ho]
  split
  · rename_i hw
    rw [if_pos hw] at h1
    exact .inl h1
  · rename_i hw
    rw [if_neg hw] at h1
    exact h1
theorem below_fact {w w' : World} {b : Bool} {a : Addr} {v : Value} (h : cls (fun x => Below w.heap.size w x) b w') (hb : b = false) (hc : w.cell? a = some v) : w'.cell? a = some v := by
  have h1 : Below w.heap.size w w' := h.resolve_left (by simp [hb])
  rw [h1.cell (block_lt_of_cell hc)]
  exact hc
end
end Go.Proofs.Ytbeibhmbaofjhaa
