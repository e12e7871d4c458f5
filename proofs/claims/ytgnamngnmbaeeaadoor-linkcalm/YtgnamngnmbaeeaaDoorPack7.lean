import Derived.Test.YtgnamngnmbaeeaaDoorPack6
import Derived.Orders
namespace Go.Proofs.YtgnamngnmbaeeaaDoor
open Go.RowKit
set_option maxRecDepth 8000

/-- what stands in a row: its type, how many cells, which, and what they hold elsewhere -/
structure El (α : Type) where
  ty : TypeId
  size : Nat
  cells : α → List Value
  len : ∀ x, (cells x).length = size
  one : ∀ x u, u ∈ cells x → u.oneCell' = true
  In : World → (Nat → Prop) → α → Prop
  kept : ∀ {w w' : World} {S : Nat → Prop} {x : α}, In w S x → w.heap.size ≤ w'.heap.size → (∀ b, S b → b < w.heap.size → w'.heap[b]? = w.heap[b]?) → In w' S x
  mono : ∀ {w : World} {S S' : Nat → Prop} {x : α}, In w S x → (∀ b, S b → b < w.heap.size → S' b) → In w S' x
/-- a list with its address -/
structure LT (α : Type) where
  p : Option Addr
  n : Nat
  c : Nat
  item : Nat → α
def LT.val {α : Type} (l : LT α) : Value := .slice l.p l.n l.c
structure LT.In {α : Type} (E : El α) (w : World) (S : Nat → Prop) (l : LT α) : Prop where
  at_ : 0 < l.n → ∃ b o, l.p = some ⟨b, o, none⟩ ∧ S b ∧ b < w.heap.size ∧ ∀ j, j < l.n → ∀ r u, (E.cells (l.item j))[r]? = some u → w.cell? ⟨b, o + j * E.size + r, none⟩ = some u
  each : ∀ j, j < l.n → E.In w S (l.item j)
  nc : l.n ≤ l.c
  nn : l.n ≤ 140737488355328
  cc : l.c ≤ maxLen
  nil : l.p = none → l.n = 0 ∧ l.c = 0
theorem LT.In.kept {α : Type} {E : El α} {w w' : World} {S : Nat → Prop} {l : LT α} (h : LT.In E w S l) (hs : w.heap.size ≤ w'.heap.size) (hb : ∀ b, S b → b < w.heap.size → w'.heap[b]? = w.heap[b]?) : LT.In E w' S l := by
  refine ⟨fun hn => ?_, fun j hj => E.kept (h.each j hj) hs hb, h.nc, h.nn, h.cc, h.nil⟩
  obtain ⟨b, o, e, hS, hl, ha⟩ := h.at_ hn
  exact ⟨b, o, e, hS, Nat.lt_of_lt_of_le hl hs, fun j hj r u hu => (World.cell?_of_block (a := ⟨b, o + j * E.size + r, none⟩) (hb b hS hl)).trans (ha j hj r u hu)⟩
theorem LT.In.mono {α : Type} {E : El α} {w : World} {S S' : Nat → Prop} {l : LT α} (h : LT.In E w S l) (hb : ∀ b, S b → b < w.heap.size → S' b) : LT.In E w S' l := by
  refine ⟨fun hn => ?_, fun j hj => E.mono (h.each j hj) hb, h.nc, h.nn, h.cc, h.nil⟩
  obtain ⟨b, o, e, hS, hl, ha⟩ := h.at_ hn
  exact ⟨b, o, e, hb b hS hl, hl, ha⟩
theorem LT.In.below {α : Type} {E : El α} {w w' : World} {S : Nat → Prop} {l : LT α} (h : LT.In E w S l) (hb : Below w.heap.size w w') : LT.In E w' S l := h.kept hb.size fun b _ hl => hb.block b hl
theorem LT.In.but {α : Type} {E : El α} {w w' : World} {S X : Nat → Prop} {l : LT α} (h : LT.In E w S l) (hb : But X w w') (hx : ∀ b, S b → b < w.heap.size → ¬ X b) : LT.In E w' S l :=
  h.kept hb.size fun b hS hl => hb.block b hl (hx b hS hl)
/-- an empty list -/
theorem LT.In.none_ {α : Type} (E : El α) (w : World) (S : Nat → Prop) (p : Option Addr) (c : Nat) (f : Nat → α) (hc : c ≤ maxLen) (hp : p = none → c = 0) : LT.In E w S ⟨p, 0, c, f⟩ :=
  ⟨fun h => absurd h (by simp), fun j h => absurd h (by simp), Nat.zero_le _, Nat.zero_le _, hc, fun h => ⟨rfl, hp h⟩⟩

theorem range_flat_len {α : Type} (E : El α) (g : Nat → α) (m : Nat) : ((List.range m).flatMap fun j => E.cells (g j)).length = m * E.size := by
  induction m with
  | zero => simp
  | succ m ih => rw [List.range_succ, List.flatMap_append, List.length_append, ih]; simp [E.len, Nat.add_mul]
theorem range_flat_get {α : Type} (E : El α) (g : Nat → α) : ∀ (n j r : Nat), j < n → r < E.size → ((List.range n).flatMap fun j => E.cells (g j))[j * E.size + r]? = (E.cells (g j))[r]? := by
  intro n
  induction n with
  | zero => intro j r h; omega
  | succ n ih =>
    intro j r hj hr
    rw [List.range_succ, List.flatMap_append]
    by_cases h : j < n
    · have h1 : (j + 1) * E.size ≤ n * E.size := Nat.mul_le_mul h (Nat.le_refl _)
      rw [Nat.add_mul] at h1
      rw [List.getElem?_append_left (by rw [range_flat_len]; omega)]
      exact ih j r h hr
    · obtain rfl : j = n := by omega
      rw [List.getElem?_append_right (by rw [range_flat_len]; omega), range_flat_len]
      simp only [List.flatMap_cons, List.flatMap_nil, List.append_nil]
      congr 1
      omega
/-- a row of the call's own, and what it holds in other blocks -/
structure OwnL {α : Type} (E : El α) (base : Nat) (w : World) (v : Value) (n : Nat) (g : Nat → α) : Prop where
  own : w.ownsRow base E.ty E.size v n ((List.range n).flatMap fun j => E.cells (g j))
  each : ∀ j, j < n → E.In w (fun b => base ≤ b ∧ v.ownBlock ≠ some b) (g j)
theorem OwnL.keep {α : Type} {E : El α} {base : Nat} {w w' : World} {v : Value} {n : Nat} {g : Nat → α} (h : OwnL E base w v n g) (hs : w.heap.size ≤ w'.heap.size) (hb : ∀ k, base ≤ k → k < w.heap.size → w'.heap[k]? = w.heap[k]?) : OwnL E base w' v n g :=
  ⟨ownsRow_keep h.own (fun k hk hl => hb k (h.own.lt k hk).1 hl), fun j hj => E.kept (h.each j hj) hs (fun b hS hl => hb b hS.1 hl)⟩
theorem OwnL.push {α : Type} {E : El α} {base : Nat} {w w' : World} {v v' : Value} {n : Nat} {g : Nat → α} {u : α} (h : OwnL E base w v n g) (hu : E.In w (fun b => base ≤ b ∧ v.ownBlock ≠ some b) u)
    (hown : w'.ownsRow base E.ty E.size v' (n + 1) (((List.range n).flatMap fun j => E.cells (g j)) ++ E.cells u)) (hg : w.grownBy w' v.ownBlock) (hn : Near w v v') :
    OwnL E base w' v' (n + 1) (fun j => if j < n then g j else u) := by
  have key : ∀ x, E.In w (fun b => base ≤ b ∧ v.ownBlock ≠ some b) x → E.In w' (fun b => base ≤ b ∧ v'.ownBlock ≠ some b) x := by
    intro x hx
    have h1 : E.In w (fun b => base ≤ b ∧ v.ownBlock ≠ some b ∧ v'.ownBlock ≠ some b) x := by
      refine E.mono hx fun b hb hl => ⟨hb.1, hb.2, fun e => ?_⟩
      rcases hn with h1 | h1
      · exact hb.2 (h1 ▸ e)
      · have := h1 b e; omega
    have h2 := E.kept h1 hg.size (fun b hb hl => hg.block b hl (fun e => hb.2.1 e.symm))
    exact E.mono h2 fun b hb _ => ⟨hb.1, hb.2.2⟩
  refine ⟨?_, fun j hj => ?_⟩
  · have e : ((List.range (n + 1)).flatMap fun j => E.cells (if j < n then g j else u)) = ((List.range n).flatMap fun j => E.cells (g j)) ++ E.cells u := by
      rw [List.range_succ, List.flatMap_append]
      congr 1
      · rw [List.flatMap_def, List.flatMap_def]
        congr 1
        apply List.map_congr_left
        intro j hj
        rw [if_pos (List.mem_range.1 hj)]
      · simp
    rw [e]
    exact hown
  · by_cases hjn : j < n
    · rw [if_pos hjn]; exact key _ (h.each j hjn)
    · rw [if_neg hjn]; exact key _ hu
/-- the row as a list -/
theorem OwnL.in_ {α : Type} {E : El α} {base : Nat} {w : World} {v : Value} {n : Nat} {g : Nat → α} (h : OwnL E base w v n g) (hnn : n ≤ 140737488355328) :
    ∃ p c, v = .slice p n c ∧ LT.In E w (fun b => base ≤ b) ⟨p, n, c, g⟩ := by
  have hlt := h.own.lt
  have hce := @World.ownsRow.cells _ _ _ _ _ _ _ h.own
  obtain ⟨_, ⟨hv, h0⟩ | ⟨gb, cap, cur, hv, hbg, hh, hnc, hcm, hcs, htake⟩⟩ := id h.own
  · subst h0
    exact ⟨none, 0, hv, LT.In.none_ E w _ none 0 g (Nat.zero_le _) (fun _ => rfl)⟩
  · refine ⟨_, cap, hv, fun hn => ⟨gb, 0, rfl, hbg, (hlt gb (by rw [hv]; rfl)).2, fun j hj r u hu => ?_⟩, fun j hj => E.mono (h.each j hj) fun b hb _ => hb.1, hnc, hnn, hcm, fun h => by cases h⟩
    have hr : r < E.size := by
      rcases Nat.lt_or_ge r E.size with h1 | h1
      · exact h1
      · rw [List.getElem?_eq_none (by rw [E.len]; exact h1)] at hu; cases hu
    have := hce (g := gb) (by rw [hv]; rfl) (j * E.size + r) u (by rw [range_flat_get E g n j r hj hr]; exact hu)
    rw [Go.WideShapes.add_plain] at this
    rw [show (0 : Nat) + j * E.size + r = 0 + (j * E.size + r) by omega]
    exact this
theorem oneCell_flat {α : Type} (E : El α) (x : α) : ∀ u ∈ E.cells x, u.oneCell' = true := E.one x

/-- ints, texts, records, lists -/
def elInt : El Int where
  ty := 3
  size := 1
  cells := fun x => [.int .i64 x]
  len := fun _ => rfl
  one := fun x u hu => by simp only [List.mem_singleton] at hu; subst hu; rfl
  In := fun _ _ x => -9223372036854775808 ≤ x ∧ x ≤ 9223372036854775807
  kept := fun h _ _ => h
  mono := fun h _ => h
def elStr : El ByteArray where
  ty := 9
  size := 1
  cells := fun x => [.string x]
  len := fun _ => rfl
  one := fun x u hu => by simp only [List.mem_singleton] at hu; subst hu; rfl
  In := fun _ _ x => x.size ≤ 140737488355328
  kept := fun h _ _ => h
  mono := fun h _ => h
/-- a value in a row -/
def elVal : El VT where
  ty := 139
  size := 4
  cells := VT.cells
  len := fun _ => rfl
  one := fun x => oneCell_cells x
  In := VT.In
  kept := fun h hs hb => h.kept hs hb
  mono := fun h hb => h.mono hb
/-- a cell of a state: a value's text and items -/
def elCell : El VT where
  ty := 141
  size := 2
  cells := VT.two
  len := fun _ => rfl
  one := fun x u hu => by
    simp only [VT.two, List.mem_cons, List.not_mem_nil, or_false] at hu
    rcases hu with rfl | rfl <;> rfl
  In := VT.In
  kept := fun h hs hb => h.kept hs hb
  mono := fun h hb => h.mono hb
def elRec : El RT where
  ty := 144
  size := 6
  cells := RT.cells
  len := fun _ => rfl
  one := fun x u hu => by
    simp only [RT.cells, List.mem_cons, List.not_mem_nil, or_false] at hu
    rcases hu with rfl | rfl | rfl | rfl | rfl | rfl <;> rfl
  In := RT.In
  kept := fun h hs hb => h.kept hs hb
  mono := fun h hb => h.mono hb
def elRecs : El (LT RT) where
  ty := 145
  size := 1
  cells := fun l => [.slice l.p l.n l.c]
  len := fun _ => rfl
  one := fun x u hu => by simp only [List.mem_singleton] at hu; subst hu; rfl
  In := LT.In elRec
  kept := fun h hs hb => h.kept hs hb
  mono := fun h hb => h.mono hb
end Go.Proofs.YtgnamngnmbaeeaaDoor

namespace Go.Proofs.YtgnamngnmbaeeaaDoor
open Go.RowKit
set_option maxRecDepth 8000
theorem step_call {ops : Array Oper} {o : Oper} {a : Act} {w : World} {K : Act → World → Prop} {Q : Exit → Act → World → Prop} {E : Prop}
    (hgd : o.guard = none) (f : Nat) (xs : Array Operand) (ts : Array TypeId) (hop : o.op = Op.call { callee := Callee.value (Operand.func f), args := xs, argTypes := ts })
    (F : Func) (hF : Tryd.prog.funcs[f]? = some F) (hN : (F.name == "runtime.NumGoroutine") = false) (hB : F.body.isNone = false) (vs : Array Value) (hvl : xs.toList.map a.eval = vs.toList) (R : Ending → World → Prop) (hC : Calls Tryd.prog f vs w R) (hK : ∀ e w', R e w' → ∃ v, e = .returned v ∧ K (a.put o.dst v) w') :
    if Region.wanted o (yielded ops a.tmps) = true then Oper.wp Tryd.prog o a w K Q else E := by
  have hw : Region.wanted o (yielded ops a.tmps) = true := by simp [Region.wanted, hgd]
  rw [if_pos hw]
  have hvs : xs.map a.eval = vs := by
    obtain ⟨xl⟩ := xs
    obtain ⟨vl⟩ := vs
    simp only at hvl
    rw [List.map_toArray, hvl]
  have hrun : (execOp a.eval o).run Tryd.prog w = .ok (.enter f vs) w := by
    have h1 : ¬ F.name = "runtime.NumGoroutine" := by simpa using hN
    have h2 : ¬ F.body = none := by intro h; rw [h] at hB; cases hB
    simp [execOp, hop, resolve, invoke, hvs, Deferred.ofValue, Act.eval, callFunc, Result.andThen, go_sem, hF, h1, h2]
  unfold Oper.wp
  rw [hrun, Oper.upon_enter]
  refine hC.mono fun e w' h => ?_
  obtain ⟨v, rfl, hk⟩ := hK e w' h
  exact hk
end Go.Proofs.YtgnamngnmbaeeaaDoor

namespace Go.Proofs.YtgnamngnmbaeeaaDoor
open Go.RowKit
set_option maxRecDepth 8000

/-- how many are not done -/
def unl : List Bool → Nat
  | [] => 0
  | b :: r => (if b then 0 else 1) + unl r
theorem unl_set : ∀ (l : List Bool) (i : Nat), l[i]? = some false → unl (l.set i true) + 1 = unl l
  | [], i, h => by simp at h
  | b :: r, 0, h => by
    simp at h
    subst h
    simp [unl]
    omega
  | b :: r, i + 1, h => by
    have := unl_set r i (by simpa using h)
    simp only [List.set_cons_succ, unl]
    omega
theorem unl_zero : ∀ (l : List Bool), unl l = 0 → ∀ (i : Nat) (b : Bool), l[i]? = some b → b = true
  | [], _, i, b, h => by simp at h
  | c :: r, hu, 0, b, h => by
    simp at h
    subst h
    cases c with
    | true => rfl
    | false => simp [unl] at hu
  | c :: r, hu, i + 1, b, h => by
    refine unl_zero r ?_ i b (by simpa using h)
    simp only [unl] at hu
    omega

/-- WHATEVER ORDER IS DRAWN: a statement about what is done, that each operation keeps -/
theorem wpAny_inv {P : Program} {ops : Array Oper} {Q : Exit → Act → World → Prop} (I : (Nat → Prop) → Act → World → Prop)
    (hext : ∀ D D' a w, (∀ j, D j ↔ D' j) → I D a w → I D' a w)
    (hac : ∀ (i : Nat) (o : Oper), ops[i]? = some o → ∀ e ∈ o.after, Region.binds .any e = true → e.on < i)
    (hstep : ∀ D a w, I D a w → ∀ (i : Nat) (o : Oper), ops[i]? = some o → ¬ D i → (∀ e ∈ o.after, Region.binds .any e = true → D e.on) → wpOp P ops Q i (I fun j => D j ∨ j = i) a w)
    (hend : ∀ D a w, I D a w → (∀ i, i < ops.size → D i) → Q .normal a w) :
    ∀ (fuel : Nat) (listed : Array Bool) (a : Act) (w : World), listed.size = ops.size → unl listed.toList ≤ fuel → I (fun j => listed[j]? = some true) a w → wpAny P .any ops Q fuel listed a w := by
  have hall : ∀ (listed : Array Bool), listed.size = ops.size → Region.ready .any ops listed = [] → ∀ i, i < ops.size → listed[i]? = some true := by
    intro listed hs hr i
    induction i using Nat.strongRecOn with
    | _ i ih =>
      intro hi
      cases hb : listed[i]? with
      | none => rw [Array.getElem?_eq_none_iff] at hb; omega
      | some b =>
        cases b with
        | true => rfl
        | false =>
          exfalso
          have hm : i ∈ Region.ready .any ops listed := by
            rw [mem_ready]
            refine ⟨by simp [Array.getD_eq_getD_getElem?, hb], ops[i], by simp [hi], fun e he hbd => ?_⟩
            have hlt := hac i ops[i] (by simp [hi]) e he hbd
            have := ih e.on hlt (by omega)
            simp [Array.getD_eq_getD_getElem?, this]
          rw [hr] at hm
          cases hm
  intro fuel
  induction fuel with
  | zero =>
    intro listed a w hs hu hI
    have hl : ∀ i, i < ops.size → listed[i]? = some true := by
      intro i hi
      cases hb : listed[i]? with
      | none => rw [Array.getElem?_eq_none_iff] at hb; omega
      | some b => rw [unl_zero listed.toList (by omega) i b (by simpa using hb)]
    refine ⟨?_, hend _ a w hI hl⟩
    cases hr : Region.ready .any ops listed with
    | nil => rfl
    | cons j r =>
      have hj : j ∈ Region.ready .any ops listed := by rw [hr]; simp
      rw [mem_ready] at hj
      obtain ⟨h0, o, ho, _⟩ := hj
      have hlt : j < ops.size := (Array.getElem?_eq_some_iff.1 ho).1
      rw [Array.getD_eq_getD_getElem?, hl j hlt] at h0
      cases h0
  | succ fuel ih =>
    intro listed a w hs hu hI
    refine ⟨fun hr => hend _ a w hI (hall listed hs hr), fun i hi => ?_⟩
    rw [mem_ready] at hi
    obtain ⟨h0, o, ho, hdep⟩ := hi
    have hlt : i < ops.size := (Array.getElem?_eq_some_iff.1 ho).1
    have hli : listed[i]? = some false := by
      cases hb : listed[i]? with
      | none => rw [Array.getElem?_eq_none_iff] at hb; omega
      | some b => rw [Array.getD_eq_getD_getElem?, hb] at h0; simp at h0; rw [h0]
    refine wpOp_mono ?_ (hstep _ a w hI i o ho (by rw [hli]; simp) (fun e he hb => ?_))
    · intro a' w' h'
      refine ih _ a' w' (by simpa using hs) ?_ (hext _ _ _ _ ?_ h')
      · have := unl_set listed.toList i (by simpa using hli)
        rw [Array.toList_setIfInBounds]
        omega
      · intro j
        by_cases hji : j = i
        · subst hji
          simp [hs, hlt]
        · simp [hji, Ne.symm hji]
    · have := hdep e he hb
      rw [Array.getD_eq_getD_getElem?] at this
      cases hb2 : listed[e.on]? with
      | none => rw [hb2] at this; simp at this
      | some b => rw [hb2] at this; simp at this; rw [this]

theorem unl_replicate : ∀ n, unl (List.replicate n false) = n
  | 0 => rfl
  | n + 1 => by
    have := unl_replicate n
    simp only [List.replicate_succ, unl]
    simp
    omega

/-- what comes behind is laid behind -/
def acB (ops : Array Oper) : Bool := (List.range ops.size).all fun i => match ops[i]? with
  | none => true
  | some o => o.after.all fun e => !(Region.binds .any e) || decide (e.on < i)
theorem acB_spec {ops : Array Oper} (h : acB ops = true) : ∀ (i : Nat) (o : Oper), ops[i]? = some o → ∀ e ∈ o.after, Region.binds .any e = true → e.on < i := by
  intro i o ho e he hb
  have hlt : i < ops.size := (Array.getElem?_eq_some_iff.1 ho).1
  have h1 := List.all_eq_true.1 h i (List.mem_range.2 hlt)
  simp only [ho] at h1
  have h2 := Array.all_eq_true_iff_forall_mem.1 h1 e he
  rw [hb] at h2
  simpa using h2

theorem wp_region_inv {P : Program} {ops : Array Oper} {Q : Exit → Act → World → Prop} {id : Nat} {a : Act} {w : World} (hm : P.follows .mixedOrders = true) (I : (Nat → Prop) → Act → World → Prop)
    (hext : ∀ D D' a w, (∀ j, D j ↔ D' j) → I D a w → I D' a w)
    (hac : acB ops = true)
    (h0 : ∀ D, (∀ j, ¬ D j) → I D a w.drew)
    (hstep : ∀ D a w, I D a w → ∀ (i : Nat) (o : Oper), ops[i]? = some o → ¬ D i → (∀ e ∈ o.after, Region.binds .any e = true → D e.on) → wpOp P ops Q i (I fun j => D j ∨ j = i) a w)
    (hend : ∀ D a w, I D a w → (∀ i, i < ops.size → D i) → Q .normal a w) : (Code.region id ops true).wp P Q a w := by
  refine wp_region_any hm (wpAny_inv I hext (acB_spec hac) hstep hend ops.size _ a _ (by simp) ?_ (h0 _ ?_))
  · rw [Array.toList_replicate, unl_replicate]
    exact Nat.le_refl _
  · intro j h
    rw [Array.getElem?_replicate] at h
    split at h <;> simp at h
end Go.Proofs.YtgnamngnmbaeeaaDoor
