import Derived.Test.YtneomdiabcpemaaStepC
import Derived.Orders
namespace Go.Proofs.Ytneomdiabcpemaa
open Go.RowKit
set_option maxRecDepth 8000

/-- how many are not done -/
def unl : List Bool → Nat
  | [] => 0
  | b :: r => (if b then 0 else 1) + unl r
theorem unl_set : ∀ (l : List Bool) (i : Nat), l[i]? = some false → unl (l.set i true) + 1 = unl l
  | [], i, h => by simp at h
  | b :: r, 0, h => by
    simp at h
    subst h
    simp [unl]
    omega
  | b :: r, i + 1, h => by
    have := unl_set r i (by simpa using h)
    simp only [List.set_cons_succ, unl]
    omega
theorem unl_zero : ∀ (l : List Bool), unl l = 0 → ∀ (i : Nat) (b : Bool), l[i]? = some b → b = true
  | [], _, i, b, h => by simp at h
  | c :: r, hu, 0, b, h => by
    simp at h
    subst h
    cases c with
    | true => rfl
    | false => simp [unl] at hu
  | c :: r, hu, i + 1, b, h => by
    refine unl_zero r ?_ i b (by simpa using h)
    simp only [unl] at hu
    omega

/-- WHATEVER ORDER IS DRAWN: a statement about what is done, that each operation keeps -/
theorem wpAny_inv {P : Program} {ops : Array Oper} {Q : Exit → Act → World → Prop} (I : (Nat → Prop) → Act → World → Prop)
    (hext : ∀ D D' a w, (∀ j, D j ↔ D' j) → I D a w → I D' a w)
    (hac : ∀ (i : Nat) (o : Oper), ops[i]? = some o → ∀ e ∈ o.after, Region.binds .any e = true → e.on < i)
    (hstep : ∀ D a w, I D a w → ∀ (i : Nat) (o : Oper), ops[i]? = some o → ¬ D i → (∀ e ∈ o.after, Region.binds .any e = true → D e.on) → wpOp P ops Q i (I fun j => D j ∨ j = i) a w)
    (hend : ∀ D a w, I D a w → (∀ i, i < ops.size → D i) → Q .normal a w) :
    ∀ (fuel : Nat) (listed : Array Bool) (a : Act) (w : World), listed.size = ops.size → unl listed.toList ≤ fuel → I (fun j => listed[j]? = some true) a w → wpAny P .any ops Q fuel listed a w := by
  have hall : ∀ (listed : Array Bool), listed.size = ops.size → Region.ready .any ops listed = [] → ∀ i, i < ops.size → listed[i]? = some true := by
    intro listed hs hr i
    induction i using Nat.strongRecOn with
    | _ i ih =>
      intro hi
      cases hb : listed[i]? with
      | none => rw [Array.getElem?_eq_none_iff] at hb; omega
      | some b =>
        cases b with
        | true => rfl
        | false =>
          exfalso
          have hm : i ∈ Region.ready .any ops listed := by
            rw [mem_ready]
            refine ⟨by simp [Array.getD_eq_getD_getElem?, hb], ops[i], by simp [hi], fun e he hbd => ?_⟩
            have hlt := hac i ops[i] (by simp [hi]) e he hbd
            have := ih e.on hlt (by omega)
            simp [Array.getD_eq_getD_getElem?, this]
          rw [hr] at hm
          cases hm
  intro fuel
  induction fuel with
  | zero =>
    intro listed a w hs hu hI
    have hl : ∀ i, i < ops.size → listed[i]? = some true := by
      intro i hi
      cases hb : listed[i]? with
      | none => rw [Array.getElem?_eq_none_iff] at hb; omega
      | some b => rw [unl_zero listed.toList (by omega) i b (by simpa using hb)]
    refine ⟨?_, hend _ a w hI hl⟩
    cases hr : Region.ready .any ops listed with
    | nil => rfl
    | cons j r =>
      have hj : j ∈ Region.ready .any ops listed := by rw [hr]; simp
      rw [mem_ready] at hj
      obtain ⟨h0, o, ho, _⟩ := hj
      have hlt : j < ops.size := (Array.getElem?_eq_some_iff.1 ho).1
      rw [Array.getD_eq_getD_getElem?, hl j hlt] at h0
      cases h0
  | succ fuel ih =>
    intro listed a w hs hu hI
    refine ⟨fun hr => hend _ a w hI (hall listed hs hr), fun i hi => ?_⟩
    rw [mem_ready] at hi
    obtain ⟨h0, o, ho, hdep⟩ := hi
    have hlt : i < ops.size := (Array.getElem?_eq_some_iff.1 ho).1
    have hli : listed[i]? = some false := by
      cases hb : listed[i]? with
      | none => rw [Array.getElem?_eq_none_iff] at hb; omega
      | some b => rw [Array.getD_eq_getD_getElem?, hb] at h0; simp at h0; rw [h0]
    refine wpOp_mono ?_ (hstep _ a w hI i o ho (by rw [hli]; simp) (fun e he hb => ?_))
    · intro a' w' h'
      refine ih _ a' w' (by simpa using hs) ?_ (hext _ _ _ _ ?_ h')
      · have := unl_set listed.toList i (by simpa using hli)
        rw [Array.toList_setIfInBounds]
        omega
      · intro j
        by_cases hji : j = i
        · subst hji
          simp [hs, hlt]
        · simp [hji, Ne.symm hji]
    · have := hdep e he hb
      rw [Array.getD_eq_getD_getElem?] at this
      cases hb2 : listed[e.on]? with
      | none => rw [hb2] at this; simp at this
      | some b => rw [hb2] at this; simp at this; rw [this]

theorem unl_replicate : ∀ n, unl (List.replicate n false) = n
  | 0 => rfl
  | n + 1 => by
    have := unl_replicate n
    simp only [List.replicate_succ, unl]
    simp
    omega

/-- what comes behind is laid behind -/
def acB (ops : Array Oper) : Bool := (List.range ops.size).all fun i => match ops[i]? with
  | none => true
  | some o => o.after.all fun e => !(Region.binds .any e) || decide (e.on < i)
theorem acB_spec {ops : Array Oper} (h : acB ops = true) : ∀ (i : Nat) (o : Oper), ops[i]? = some o → ∀ e ∈ o.after, Region.binds .any e = true → e.on < i := by
  intro i o ho e he hb
  have hlt : i < ops.size := (Array.getElem?_eq_some_iff.1 ho).1
  have h1 := List.all_eq_true.1 h i (List.mem_range.2 hlt)
  simp only [ho] at h1
  have h2 := Array.all_eq_true_iff_forall_mem.1 h1 e he
  rw [hb] at h2
  simpa using h2

theorem wp_region_inv {P : Program} {ops : Array Oper} {Q : Exit → Act → World → Prop} {id : Nat} {a : Act} {w : World} (hm : P.follows .mixedOrders = true) (I : (Nat → Prop) → Act → World → Prop)
    (hext : ∀ D D' a w, (∀ j, D j ↔ D' j) → I D a w → I D' a w)
    (hac : acB ops = true)
    (h0 : ∀ D, (∀ j, ¬ D j) → I D a w.drew)
    (hstep : ∀ D a w, I D a w → ∀ (i : Nat) (o : Oper), ops[i]? = some o → ¬ D i → (∀ e ∈ o.after, Region.binds .any e = true → D e.on) → wpOp P ops Q i (I fun j => D j ∨ j = i) a w)
    (hend : ∀ D a w, I D a w → (∀ i, i < ops.size → D i) → Q .normal a w) : (Code.region id ops true).wp P Q a w := by
  refine wp_region_any hm (wpAny_inv I hext (acB_spec hac) hstep hend ops.size _ a _ (by simp) ?_ (h0 _ ?_))
  · rw [Array.toList_replicate, unl_replicate]
    exact Nat.le_refl _
  · intro j h
    rw [Array.getElem?_replicate] at h
    split at h <;> simp at h
end Go.Proofs.Ytneomdiabcpemaa
