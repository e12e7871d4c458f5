import Derived.Test.YtdncnnjhfipokabKfD
import Derived.Test.YtdncnnjhfipokabPack0
import Derived.Orders
namespace Go.Proofs.Ytdncnnjhfipokab
open Go.RowKit
set_option maxRecDepth 8000
/-- what a book holds -/
structure Bk where
  mode : Int
  ports : Int
  back : Int
  now : Int
  st : Nat → Int
  cp : Bool
  num : Int
  cl : LT VT
  pd : LT RT
  lg : Nat → LT RT
def Bk.lv (K : Bk) (i : Nat) : Value := .slice (K.lg i).p (K.lg i).n (K.lg i).c
def Bk.arr (K : Bk) : Array Value := #[.int .i64 K.mode, .int .i64 K.ports, .int .i64 K.back, .int .i64 K.now, .int .i64 (K.st 0), .int .i64 (K.st 1), .int .i64 (K.st 2), .int .i64 (K.st 3), .bool K.cp, .int .i64 K.num, .slice K.cl.p K.cl.n K.cl.c, .slice K.pd.p K.pd.n K.pd.c, .slice (K.lg 0).p (K.lg 0).n (K.lg 0).c, .slice (K.lg 1).p (K.lg 1).n (K.lg 1).c, .slice (K.lg 2).p (K.lg 2).n (K.lg 2).c, .slice (K.lg 3).p (K.lg 3).n (K.lg 3).c]
/-- the blocks that a book's calls may change -/
def Bk.C (K : Bk) (b k : Nat) : Prop := k = b ∨ ∃ i, i < 4 ∧ (K.lv i).ownBlock = some k
def rowsR (l : LT RT) : List Value := (List.range l.n).flatMap fun j => elRec.cells (l.item j)
structure BkI (w : World) (b : Nat) (K : Bk) : Prop where
  box : Box w b K.arr 83
  own : ∀ i, i < 4 → w.ownsRow 0 38 6 (K.lv i) (K.lg i).n (rowsR (K.lg i))
  ne : ∀ i, i < 4 → (K.lv i).ownBlock ≠ some b
  dis : ∀ i j, i < 4 → j < 4 → i ≠ j → ∀ k, (K.lv i).ownBlock = some k → (K.lv j).ownBlock ≠ some k
  m0 : 1 ≤ K.mode
  m1 : K.mode ≤ 3
  p0 : 1 ≤ K.ports
  p1 : K.ports ≤ 4
  b0 : -1 ≤ K.back
  b1 : K.back < K.ports
  n0 : 0 ≤ K.now
  n1 : K.now ≤ 9999
  s0 : ∀ i, i < 4 → K.st i = 0 ∨ K.st i = 1 ∨ K.st i = 2
theorem BkI.kept {w w' : World} {b : Nat} {K : Bk} (h : BkI w b K) (hb : ∀ k, K.C b k → k < w.heap.size → w'.heap[k]? = w.heap[k]?) : BkI w' b K :=
  ⟨h.box.kept (hb b (.inl rfl) h.box.lt), fun i hi => ownsRow_keep (h.own i hi) (fun k hk hl => hb k (.inr ⟨i, hi, hk⟩) hl), h.ne, h.dis, h.m0, h.m1, h.p0, h.p1, h.b0, h.b1, h.n0, h.n1, h.s0⟩
theorem BkI.below {w w' : World} {b : Nat} {K : Bk} (h : BkI w b K) (hb : Below w.heap.size w w') : BkI w' b K := h.kept fun k _ hl => hb.block k hl
theorem BkI.cs {w : World} {b : Nat} {K : Bk} (h : BkI w b K) {i : Nat} (hi : i < 4) : w.cell? ⟨b, 4 + i, none⟩ = some (.int .i64 (K.st i)) := by
  rw [h.box.cell]
  rcases (by omega : i = 0 ∨ i = 1 ∨ i = 2 ∨ i = 3) with rfl | rfl | rfl | rfl <;> rfl
theorem BkI.cl_ {w : World} {b : Nat} {K : Bk} (h : BkI w b K) {i : Nat} (hi : i < 4) : w.cell? ⟨b, 12 + i, none⟩ = some (.slice (K.lg i).p (K.lg i).n (K.lg i).c) := by
  rw [h.box.cell]
  rcases (by omega : i = 0 ∨ i = 1 ∨ i = 2 ∨ i = 3) with rfl | rfl | rfl | rfl <;> rfl
def Bk.has (K : Bk) (x : Int) : Bool := decide (0 ≤ x) && decide (x < K.ports)
def Bk.held (K : Bk) (x : Int) : Bool := K.has x && (K.st x.toNat == 2)

set_option maxHeartbeats 1000000 in
theorem has_any (x : Int) (w : World) (b : Nat) (K : Bk) (hI : BkI w b K) : Calls Try.prog 36 #[.pointer (some ⟨b, 0, none⟩), .int .i64 x] w fun e w' => e = .returned (.bool (K.has x)) ∧ w' = w := by
  have c1 := hI.box.cell 1
  simp [Bk.arr] at c1
  clear hI
  by_cases h0 : 0 ≤ x
  · go_enter Try.func36, Try.ntmps36
    go_wp2
    refine bodyPost_ret (v := .bool (K.has x)) (by simp [results, Try.results36, go_sem, Bk.has, h0]) rfl ⟨rfl, rfl⟩
  · go_enter Try.func36, Try.ntmps36
    go_wp2
    refine bodyPost_ret (v := .bool (K.has x)) (by simp [results, Try.results36, go_sem, Bk.has]; omega) rfl ⟨rfl, rfl⟩
set_option maxHeartbeats 1000000 in
theorem held_any (x : Int) (w : World) (b : Nat) (K : Bk) (hI : BkI w b K) : Calls Try.prog 29 #[.pointer (some ⟨b, 0, none⟩), .int .i64 x] w fun e w' => e = .returned (.bool (K.held x)) ∧ w' = w := by
  have HH := hid (has_any x w b K hI)
  by_cases h0 : K.has x = true
  · have hx : 0 ≤ x ∧ x < K.ports := by simpa [Bk.has] using h0
    have hp := hI.p1
    obtain ⟨i, rfl⟩ : ∃ i : Nat, x = (i : Int) := ⟨x.toNat, by omega⟩
    have hi : i < 4 := by omega
    have cs := hI.cs hi
    clear hI
    go_enter Try.func29, Try.ntmps29
    go_wp2_with fail
    refine HH.out.mono ?_
    rintro e w1 ⟨rfl, rfl⟩
    rw [h0]
    go_wp2
    refine bodyPost_ret (v := .bool (K.held i)) (by simp [results, Try.results29, go_sem, Bk.held, h0]) rfl ⟨rfl, rfl⟩
  · have h0 : K.has x = false := by simpa using h0
    clear hI
    go_enter Try.func29, Try.ntmps29
    go_wp2_with fail
    refine HH.out.mono ?_
    rintro e w1 ⟨rfl, rfl⟩
    rw [h0]
    go_wp2
    refine bodyPost_ret (v := .bool (K.held x)) (by simp [results, Try.results29, go_sem, Bk.held, h0]) rfl ⟨rfl, rfl⟩
set_option maxHeartbeats 1000000 in
theorem now_any (w : World) (b : Nat) (K : Bk) (hI : BkI w b K) : Calls Try.prog 31 #[.pointer (some ⟨b, 0, none⟩)] w fun e w' => e = .returned (.int .i64 K.now) ∧ w' = w := by
  have c3 := hI.box.cell 3
  simp [Bk.arr] at c3
  clear hI
  go_enter Try.func31, Try.ntmps31
  go_wp2
  refine bodyPost_ret (v := .int .i64 K.now) (by simp [results, Try.results31, go_sem]) rfl ⟨rfl, rfl⟩
set_option maxHeartbeats 1000000 in
theorem records_any (i : Nat) (hi : i < 4) (w : World) (b : Nat) (K : Bk) (hI : BkI w b K) : Calls Try.prog 37 #[.pointer (some ⟨b, 3, none⟩), .int .i64 (i : Int)] w fun e w' => e = .returned (.bool (K.cp && (K.st i == 0))) ∧ w' = w := by
  have c8 := hI.box.cell 8
  have cs := hI.cs hi
  simp [Bk.arr] at c8
  clear hI
  rcases hc : K.cp with _ | _
  · rw [hc] at c8
    go_enter Try.func37, Try.ntmps37
    go_wp2
    refine bodyPost_ret (v := .bool false) (by simp [results, Try.results37, go_sem]) rfl ⟨rfl, rfl⟩
  · rw [hc] at c8
    go_enter Try.func37, Try.ntmps37
    go_wp2
    refine bodyPost_ret (v := .bool (K.st i == 0)) (by simp [results, Try.results37, go_sem]) rfl ⟨by simp, rfl⟩
end Go.Proofs.Ytdncnnjhfipokab

namespace Go.Proofs.Ytdncnnjhfipokab
open Go.RowKit
set_option maxRecDepth 8000
theorem step_call {ops : Array Oper} {o : Oper} {a : Act} {w : World} {K : Act → World → Prop} {Q : Exit → Act → World → Prop} {E : Prop}
    (hgd : o.guard = none) (f : Nat) (xs : Array Operand) (ts : Array TypeId) (hop : o.op = Op.call { callee := Callee.value (Operand.func f), args := xs, argTypes := ts })
    (F : Func) (hF : Try.prog.funcs[f]? = some F) (hN : (F.name == "runtime.NumGoroutine") = false) (hB : F.body.isNone = false) (vs : Array Value) (hvl : xs.toList.map a.eval = vs.toList) (R : Ending → World → Prop) (hC : Calls Try.prog f vs w R) (hK : ∀ e w', R e w' → ∃ v, e = .returned v ∧ K (a.put o.dst v) w') :
    if Region.wanted o (yielded ops a.tmps) = true then Oper.wp Try.prog o a w K Q else E := by
  have hw : Region.wanted o (yielded ops a.tmps) = true := by simp [Region.wanted, hgd]
  rw [if_pos hw]
  have hvs : xs.map a.eval = vs := by
    obtain ⟨xl⟩ := xs
    obtain ⟨vl⟩ := vs
    simp only at hvl
    rw [List.map_toArray, hvl]
  have hrun : (execOp a.eval o).run Try.prog w = .ok (.enter f vs) w := by
    have h1 : ¬ F.name = "runtime.NumGoroutine" := by simpa using hN
    have h2 : ¬ F.body = none := by intro h; rw [h] at hB; cases hB
    simp [execOp, hop, resolve, invoke, hvs, Deferred.ofValue, Act.eval, callFunc, Result.andThen, go_sem, hF, h1, h2]
  unfold Oper.wp
  rw [hrun, Oper.upon_enter]
  refine hC.mono fun e w' h => ?_
  obtain ⟨v, rfl, hk⟩ := hK e w' h
  exact hk
end Go.Proofs.Ytdncnnjhfipokab

namespace Go.Proofs.Ytdncnnjhfipokab
open Go.RowKit
set_option maxRecDepth 8000

/-- how many are not done -/
def unl : List Bool → Nat
  | [] => 0
  | b :: r => (if b then 0 else 1) + unl r
theorem unl_set : ∀ (l : List Bool) (i : Nat), l[i]? = some false → unl (l.set i true) + 1 = unl l
  | [], i, h => by simp at h
  | b :: r, 0, h => by
    simp at h
    subst h
    simp [unl]
    omega
  | b :: r, i + 1, h => by
    have := unl_set r i (by simpa using h)
    simp only [List.set_cons_succ, unl]
    omega
theorem unl_zero : ∀ (l : List Bool), unl l = 0 → ∀ (i : Nat) (b : Bool), l[i]? = some b → b = true
  | [], _, i, b, h => by simp at h
  | c :: r, hu, 0, b, h => by
    simp at h
    subst h
    cases c with
    | true => rfl
    | false => simp [unl] at hu
  | c :: r, hu, i + 1, b, h => by
    refine unl_zero r ?_ i b (by simpa using h)
    simp only [unl] at hu
    omega

/-- WHATEVER ORDER IS DRAWN: a statement about what is done, that each operation keeps -/
theorem wpAny_inv {P : Program} {ops : Array Oper} {Q : Exit → Act → World → Prop} (I : (Nat → Prop) → Act → World → Prop)
    (hext : ∀ D D' a w, (∀ j, D j ↔ D' j) → I D a w → I D' a w)
    (hac : ∀ (i : Nat) (o : Oper), ops[i]? = some o → ∀ e ∈ o.after, Region.binds .any e = true → e.on < i)
    (hstep : ∀ D a w, I D a w → ∀ (i : Nat) (o : Oper), ops[i]? = some o → ¬ D i → (∀ e ∈ o.after, Region.binds .any e = true → D e.on) → wpOp P ops Q i (I fun j => D j ∨ j = i) a w)
    (hend : ∀ D a w, I D a w → (∀ i, i < ops.size → D i) → Q .normal a w) :
    ∀ (fuel : Nat) (listed : Array Bool) (a : Act) (w : World), listed.size = ops.size → unl listed.toList ≤ fuel → I (fun j => listed[j]? = some true) a w → wpAny P .any ops Q fuel listed a w := by
  have hall : ∀ (listed : Array Bool), listed.size = ops.size → Region.ready .any ops listed = [] → ∀ i, i < ops.size → listed[i]? = some true := by
    intro listed hs hr i
    induction i using Nat.strongRecOn with
    | _ i ih =>
      intro hi
      cases hb : listed[i]? with
      | none => rw [Array.getElem?_eq_none_iff] at hb; omega
      | some b =>
        cases b with
        | true => rfl
        | false =>
          exfalso
          have hm : i ∈ Region.ready .any ops listed := by
            rw [mem_ready]
            refine ⟨by simp [Array.getD_eq_getD_getElem?, hb], ops[i], by simp [hi], fun e he hbd => ?_⟩
            have hlt := hac i ops[i] (by simp [hi]) e he hbd
            have := ih e.on hlt (by omega)
            simp [Array.getD_eq_getD_getElem?, this]
          rw [hr] at hm
          cases hm
  intro fuel
  induction fuel with
  | zero =>
    intro listed a w hs hu hI
    have hl : ∀ i, i < ops.size → listed[i]? = some true := by
      intro i hi
      cases hb : listed[i]? with
      | none => rw [Array.getElem?_eq_none_iff] at hb; omega
      | some b => rw [unl_zero listed.toList (by omega) i b (by simpa using hb)]
    refine ⟨?_, hend _ a w hI hl⟩
    cases hr : Region.ready .any ops listed with
    | nil => rfl
    | cons j r =>
      have hj : j ∈ Region.ready .any ops listed := by rw [hr]; simp
      rw [mem_ready] at hj
      obtain ⟨h0, o, ho, _⟩ := hj
      have hlt : j < ops.size := (Array.getElem?_eq_some_iff.1 ho).1
      rw [Array.getD_eq_getD_getElem?, hl j hlt] at h0
      cases h0
  | succ fuel ih =>
    intro listed a w hs hu hI
    refine ⟨fun hr => hend _ a w hI (hall listed hs hr), fun i hi => ?_⟩
    rw [mem_ready] at hi
    obtain ⟨h0, o, ho, hdep⟩ := hi
    have hlt : i < ops.size := (Array.getElem?_eq_some_iff.1 ho).1
    have hli : listed[i]? = some false := by
      cases hb : listed[i]? with
      | none => rw [Array.getElem?_eq_none_iff] at hb; omega
      | some b => rw [Array.getD_eq_getD_getElem?, hb] at h0; simp at h0; rw [h0]
    refine wpOp_mono ?_ (hstep _ a w hI i o ho (by rw [hli]; simp) (fun e he hb => ?_))
    · intro a' w' h'
      refine ih _ a' w' (by simpa using hs) ?_ (hext _ _ _ _ ?_ h')
      · have := unl_set listed.toList i (by simpa using hli)
        rw [Array.toList_setIfInBounds]
        omega
      · intro j
        by_cases hji : j = i
        · subst hji
          simp [hs, hlt]
        · simp [hji, Ne.symm hji]
    · have := hdep e he hb
      rw [Array.getD_eq_getD_getElem?] at this
      cases hb2 : listed[e.on]? with
      | none => rw [hb2] at this; simp at this
      | some b => rw [hb2] at this; simp at this; rw [this]

theorem unl_replicate : ∀ n, unl (List.replicate n false) = n
  | 0 => rfl
  | n + 1 => by
    have := unl_replicate n
    simp only [List.replicate_succ, unl]
    simp
    omega

/-- what comes behind is laid behind -/
def acB (ops : Array Oper) : Bool := (List.range ops.size).all fun i => match ops[i]? with
  | none => true
  | some o => o.after.all fun e => !(Region.binds .any e) || decide (e.on < i)
theorem acB_spec {ops : Array Oper} (h : acB ops = true) : ∀ (i : Nat) (o : Oper), ops[i]? = some o → ∀ e ∈ o.after, Region.binds .any e = true → e.on < i := by
  intro i o ho e he hb
  have hlt : i < ops.size := (Array.getElem?_eq_some_iff.1 ho).1
  have h1 := List.all_eq_true.1 h i (List.mem_range.2 hlt)
  simp only [ho] at h1
  have h2 := Array.all_eq_true_iff_forall_mem.1 h1 e he
  rw [hb] at h2
  simpa using h2

theorem wp_region_inv {P : Program} {ops : Array Oper} {Q : Exit → Act → World → Prop} {id : Nat} {a : Act} {w : World} (hm : P.follows .mixedOrders = true) (I : (Nat → Prop) → Act → World → Prop)
    (hext : ∀ D D' a w, (∀ j, D j ↔ D' j) → I D a w → I D' a w)
    (hac : acB ops = true)
    (h0 : ∀ D, (∀ j, ¬ D j) → I D a w.drew)
    (hstep : ∀ D a w, I D a w → ∀ (i : Nat) (o : Oper), ops[i]? = some o → ¬ D i → (∀ e ∈ o.after, Region.binds .any e = true → D e.on) → wpOp P ops Q i (I fun j => D j ∨ j = i) a w)
    (hend : ∀ D a w, I D a w → (∀ i, i < ops.size → D i) → Q .normal a w) : (Code.region id ops true).wp P Q a w := by
  refine wp_region_any hm (wpAny_inv I hext (acB_spec hac) hstep hend ops.size _ a _ (by simp) ?_ (h0 _ ?_))
  · rw [Array.toList_replicate, unl_replicate]
    exact Nat.le_refl _
  · intro j h
    rw [Array.getElem?_replicate] at h
    split at h <;> simp at h
end Go.Proofs.Ytdncnnjhfipokab
