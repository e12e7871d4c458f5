import Derived.Test.YtfonicphdejdlaaGreatPack12
import Derived.Test.YtfonicphdejdlaaGreatPack4
import Derived.Deep.WholeRow
import Derived.Orders
namespace Go.Proofs.YtfonicphdejdlaaGreat
open Go.RowKit
set_option maxRecDepth 8000
/-- what a Get comes to: a thing, whose error is k -/
structure GetP {α β : Type} (s : RS α) (val : β → Value) (zero : β) (In : World → (Nat → Prop) → β → Prop) (Is : β → α → Prop) (w : World) (B : List Int) (t : β) (k : Int) (w' : World) : Prop where
  bel : Below w.heap.size w w'
  inn : In w' (fun b => w.heap.size ≤ b) t
  good : ∀ y, s B = .ok (y, []) → k = 0 ∧ Is t y
  more : ∀ y z R, s B = .ok (y, z :: R) → k = 44 ∧ t = zero
  bad : ∀ e : Nat, s B = .error e → k = (e : Int) ∧ e ≠ 0 ∧ t = zero
theorem WholeP.get {α β : Type} {s : RS α} {val : β → Value} {zero : β} {In : World → (Nat → Prop) → β → Prop} {Is : β → α → Prop} {w : World} {B : List Int} {x : Ending} {w' : World} (h : WholeP s val (val zero) In Is w B x w') (hz : ∀ W S, In W S zero) : ∃ t k, x = .returned (.tuple #[val t, .int .i64 k]) ∧ GetP s val zero In Is w B t k w' := by
  cases hq : s B with
  | error e =>
    obtain ⟨h1, h2⟩ := h.bad e hq
    exact ⟨zero, (e : Int), h1, h.bel, hz _ _, fun y hy => (by rw [hq] at hy; cases hy), fun y z R hy => (by rw [hq] at hy; cases hy), fun e2 he => (by rw [hq] at he; cases he; exact ⟨rfl, h2, rfl⟩)⟩
  | ok z =>
    obtain ⟨y, R⟩ := z
    cases R with
    | nil =>
      obtain ⟨t, h1, h2, h3⟩ := h.good y hq
      exact ⟨t, 0, h1, h.bel, h2, fun y2 hy => (by rw [hq] at hy; cases hy; exact ⟨rfl, h3⟩), fun y z R hy => (by rw [hq] at hy; cases hy), fun e2 he => (by rw [hq] at he; cases he)⟩
    | cons a R =>
      have h1 := h.more y a R hq
      exact ⟨zero, 44, h1, h.bel, hz _ _, fun y2 hy => (by rw [hq] at hy; cases hy), fun y z R hy => ⟨rfl, rfl⟩, fun e2 he => (by rw [hq] at he; cases he)⟩
def zRT : RT := ⟨⟨#[]⟩, mkN, none, 0, 0, fun _ => 0⟩
def zMT : MT := ⟨0, 0, noL (0, 0)⟩
def zOT : OT := ⟨0, zRT⟩
def zGT : GT := ⟨0, 0, 0, 0, noS, noD, noL (noL zRT), noL zRT⟩
theorem in_zRT (w : World) (S : Nat → Prop) : RT.In w S zRT := ⟨in_zero w S, ⟨fun h => absurd h (by decide), by decide, by decide, by decide, fun j h => absurd h (Nat.not_lt_zero j), fun _ => ⟨rfl, rfl⟩⟩, by decide⟩
theorem in_zMT (w : World) (S : Nat → Prop) : MT.In w S zMT := ⟨by decide, by decide, LT.In.none_ _ _ _ _ _ _ (by decide) (fun _ => rfl)⟩
theorem in_zOT (w : World) (S : Nat → Prop) : OT.In w S zOT := ⟨by decide, in_zRT w S⟩
theorem in_zGT (w : World) (S : Nat → Prop) : GT.In w S zGT := ⟨by decide, by decide, by decide, by decide, in_noS w S, in_noD w S, LT.In.none_ _ _ _ _ _ _ (by decide) (fun _ => rfl), LT.In.none_ _ _ _ _ _ _ (by decide) (fun _ => rfl)⟩
end Go.Proofs.YtfonicphdejdlaaGreat

namespace Go.Proofs.YtfonicphdejdlaaGreat
open Go.RowKit
set_option maxRecDepth 8000
set_option maxHeartbeats 1000000 in
theorem num_any (e : Int) (w : World) : Calls Tryz.prog 19 #[.int .i64 e] w fun x w' => x = .returned (.int .i64 e) ∧ w' = w := by
  go_enter Tryz.func19, Tryz.ntmps19
  go_wp2
  go_ret
  exact ⟨rfl, rfl⟩
theorem setRow_box {w : World} {b : Nat} {c c' : Array Value} {e : TypeId} (h : Box w b c e) : Box (w.setRow b c') b c' e := setRow_heap w b c c' e (0, 0) h
theorem setRow_but (w : World) (b : Nat) (c' : Array Value) : But (fun y => y = b) w (w.setRow b c') := by
  refine ⟨rfl, rfl, rfl, ?_, fun k _ hk => setRow_other w b k c' hk⟩
  simp [World.setRow]
theorem load_thing {w : World} {b : Nat} {c : Array Value} {e : TypeId} (h : Box w b c e) (hc : c.size = 30) : (loadCellsFrom ⟨b, 0, none⟩ 0 30 #[]).run Tryz.prog w = .ok c w := by
  have := run_loadCells_list (P := Tryz.prog) w ⟨b, 0, none⟩ c.toList (fun j v hv => by
    have hadd : (⟨b, 0, none⟩ : Addr).add j = ⟨b, j, none⟩ := by unfold Addr.add; split <;> simp_all
    rw [hadd, h.cell j]
    simpa using hv)
  rw [← hc]
  simpa [loadCells] using this
theorem info45 : (Tryz.prog.info? 45).map (·.size) = some 30 := by kernel_rfl
theorem store_thing {w : World} {b : Nat} {c c' : Array Value} {e : TypeId} (h : Box w b c e) (hc : c.size = 30) (hc' : c'.size = 30) (h1 : c'.all (·.oneCell') = true) : (storeCells ⟨b, 0, none⟩ c'.toList 0).run Tryz.prog w = .ok () (w.setRow b c') := by
  have := run_storeVar_row (P := Tryz.prog) w b e 45 c c' h (by rw [hc']; exact info45) (by omega) h1
  cases hq : Tryz.prog.info? 45 with
  | none => have := info45; rw [hq] at this; cases this
  | some i =>
    have hs : c'.size = i.size := by have := info45; rw [hq] at this; simp at this; omega
    simpa [storeVar, sizeOf, typeInfo, hq, Value.cells, hs] using this
theorem wpList_store_any {ops : Array Oper} {rest : List Oper} {o : Oper} {a : Act} {w : World} {Q : Exit → Act → World → Prop} (hgd : o.guard = none) (ty : TypeId) (x y : Operand) (ho : o.op = .store ty x y)
    (g : Nat) (cells : Array Value) (hx : a.eval x = .pointer (some ⟨g, 0, none⟩)) (hy : a.eval y = .agg cells)
    (t : TypeId) (old : Array Value) (hg : Box w g old t) (hi : (Tryz.prog.info? ty).map (·.size) = some cells.size)
    (hold : old.size = cells.size) (h1 : cells.all (·.oneCell') = true)
    (h : ∀ w', Box w' g cells t → But (fun y => y = g) w w' → wpList Tryz.prog ops Q rest (a.put o.dst undef) w') : wpList Tryz.prog ops Q (o :: rest) a w :=
  wpList_store_row hgd ty x y ho g cells hx hy t old hg hi hold h1 (h _ (setRow_box hg) (setRow_but _ _ _))
/-- the thirty cells of a thing without anything, and with its kind -/
def zC : Array Value := #[.int .i64 0, .string ⟨#[]⟩, .int .i64 0, .int .i64 0, .string ⟨#[]⟩, .slice none 0 0, .slice none 0 0, .int .i64 0, .slice none 0 0, .int .i64 0, .int .i64 0, .int .i64 0, .int .u32 0, .int .i64 0, .slice none 0 0, .int .i64 0, .slice none 0 0, .slice none 0 0, .slice none 0 0, .slice none 0 0, .int .i64 0, .int .u32 0, .slice none 0 0, .int .i64 0, .string ⟨#[]⟩, .int .i64 0, .int .i64 0, .string ⟨#[]⟩, .slice none 0 0, .slice none 0 0]
def kC (k : Int) : Array Value := #[.int .i64 k, .string ⟨#[]⟩, .int .i64 0, .int .i64 0, .string ⟨#[]⟩, .slice none 0 0, .slice none 0 0, .int .i64 0, .slice none 0 0, .int .i64 0, .int .i64 0, .int .i64 0, .int .u32 0, .int .i64 0, .slice none 0 0, .int .i64 0, .slice none 0 0, .slice none 0 0, .slice none 0 0, .slice none 0 0, .int .i64 0, .int .u32 0, .slice none 0 0, .int .i64 0, .string ⟨#[]⟩, .int .i64 0, .int .i64 0, .string ⟨#[]⟩, .slice none 0 0, .slice none 0 0]
theorem kC_one (k : Int) : (kC k).all (·.oneCell') = true := by simp [kC, Value.oneCell']
theorem kC_size (k : Int) : (kC k).size = 30 := rfl
theorem zC_size : zC.size = 30 := rfl
theorem start_thing (w : World) (k : Int) : Box (((w.alloc (.cells zC 45)).alloc (.cells zC 45)).setRow (w.heap.size + 1) (kC k)) w.heap.size zC 45 ∧ Box (((w.alloc (.cells zC 45)).alloc (.cells zC 45)).setRow (w.heap.size + 1) (kC k)) (w.heap.size + 1) (kC k) 45 ∧ Below w.heap.size w (((w.alloc (.cells zC 45)).alloc (.cells zC 45)).setRow (w.heap.size + 1) (kC k)) ∧ (((w.alloc (.cells zC 45)).alloc (.cells zC 45)).setRow (w.heap.size + 1) (kC k)).heap.size = w.heap.size + 2 := by
  have h1 : Box ((w.alloc (.cells zC 45)).alloc (.cells zC 45)) (w.heap.size + 1) zC 45 := heap_alloc2_new w _ _
  have h0 : Box ((w.alloc (.cells zC 45)).alloc (.cells zC 45)) w.heap.size zC 45 := (Box.new w _ _).below ((Below.refl _ _).alloc (Nat.le_refl _) _)
  have hb : Below w.heap.size w ((w.alloc (.cells zC 45)).alloc (.cells zC 45)) := ((Below.refl _ _).alloc (Nat.le_refl _) _).alloc (by simp) _
  have hk := setRow_but ((w.alloc (.cells zC 45)).alloc (.cells zC 45)) (w.heap.size + 1) (kC k)
  refine ⟨h0.but hk (by omega), setRow_box h1, hb.trans (hk.below hb.size (fun j hj e => by omega)), ?_⟩
  have : ((w.alloc (.cells zC 45)).alloc (.cells zC 45)).heap.size = w.heap.size + 2 := by simp
  simp [World.setRow]
end Go.Proofs.YtfonicphdejdlaaGreat

namespace Go.Proofs.YtfonicphdejdlaaGreat
open Go.RowKit
set_option maxRecDepth 8000

/-- how many are not done -/
def unl : List Bool → Nat
  | [] => 0
  | b :: r => (if b then 0 else 1) + unl r
theorem unl_set : ∀ (l : List Bool) (i : Nat), l[i]? = some false → unl (l.set i true) + 1 = unl l
  | [], i, h => by simp at h
  | b :: r, 0, h => by
    simp at h
    subst h
    simp [unl]
    omega
  | b :: r, i + 1, h => by
    have := unl_set r i (by simpa using h)
    simp only [List.set_cons_succ, unl]
    omega
theorem unl_zero : ∀ (l : List Bool), unl l = 0 → ∀ (i : Nat) (b : Bool), l[i]? = some b → b = true
  | [], _, i, b, h => by simp at h
  | c :: r, hu, 0, b, h => by
    simp at h
    subst h
    cases c with
    | true => rfl
    | false => simp [unl] at hu
  | c :: r, hu, i + 1, b, h => by
    refine unl_zero r ?_ i b (by simpa using h)
    simp only [unl] at hu
    omega

/-- WHATEVER ORDER IS DRAWN: a statement about what is done, that each operation keeps -/
theorem wpAny_inv {P : Program} {ops : Array Oper} {Q : Exit → Act → World → Prop} (I : (Nat → Prop) → Act → World → Prop)
    (hext : ∀ D D' a w, (∀ j, D j ↔ D' j) → I D a w → I D' a w)
    (hac : ∀ (i : Nat) (o : Oper), ops[i]? = some o → ∀ e ∈ o.after, Region.binds .any e = true → e.on < i)
    (hstep : ∀ D a w, I D a w → ∀ (i : Nat) (o : Oper), ops[i]? = some o → ¬ D i → (∀ e ∈ o.after, Region.binds .any e = true → D e.on) → wpOp P ops Q i (I fun j => D j ∨ j = i) a w)
    (hend : ∀ D a w, I D a w → (∀ i, i < ops.size → D i) → Q .normal a w) :
    ∀ (fuel : Nat) (listed : Array Bool) (a : Act) (w : World), listed.size = ops.size → unl listed.toList ≤ fuel → I (fun j => listed[j]? = some true) a w → wpAny P .any ops Q fuel listed a w := by
  have hall : ∀ (listed : Array Bool), listed.size = ops.size → Region.ready .any ops listed = [] → ∀ i, i < ops.size → listed[i]? = some true := by
    intro listed hs hr i
    induction i using Nat.strongRecOn with
    | _ i ih =>
      intro hi
      cases hb : listed[i]? with
      | none => rw [Array.getElem?_eq_none_iff] at hb; omega
      | some b =>
        cases b with
        | true => rfl
        | false =>
          exfalso
          have hm : i ∈ Region.ready .any ops listed := by
            rw [mem_ready]
            refine ⟨by simp [Array.getD_eq_getD_getElem?, hb], ops[i], by simp [hi], fun e he hbd => ?_⟩
            have hlt := hac i ops[i] (by simp [hi]) e he hbd
            have := ih e.on hlt (by omega)
            simp [Array.getD_eq_getD_getElem?, this]
          rw [hr] at hm
          cases hm
  intro fuel
  induction fuel with
  | zero =>
    intro listed a w hs hu hI
    have hl : ∀ i, i < ops.size → listed[i]? = some true := by
      intro i hi
      cases hb : listed[i]? with
      | none => rw [Array.getElem?_eq_none_iff] at hb; omega
      | some b => rw [unl_zero listed.toList (by omega) i b (by simpa using hb)]
    refine ⟨?_, hend _ a w hI hl⟩
    cases hr : Region.ready .any ops listed with
    | nil => rfl
    | cons j r =>
      have hj : j ∈ Region.ready .any ops listed := by rw [hr]; simp
      rw [mem_ready] at hj
      obtain ⟨h0, o, ho, _⟩ := hj
      have hlt : j < ops.size := (Array.getElem?_eq_some_iff.1 ho).1
      rw [Array.getD_eq_getD_getElem?, hl j hlt] at h0
      cases h0
  | succ fuel ih =>
    intro listed a w hs hu hI
    refine ⟨fun hr => hend _ a w hI (hall listed hs hr), fun i hi => ?_⟩
    rw [mem_ready] at hi
    obtain ⟨h0, o, ho, hdep⟩ := hi
    have hlt : i < ops.size := (Array.getElem?_eq_some_iff.1 ho).1
    have hli : listed[i]? = some false := by
      cases hb : listed[i]? with
      | none => rw [Array.getElem?_eq_none_iff] at hb; omega
      | some b => rw [Array.getD_eq_getD_getElem?, hb] at h0; simp at h0; rw [h0]
    refine wpOp_mono ?_ (hstep _ a w hI i o ho (by rw [hli]; simp) (fun e he hb => ?_))
    · intro a' w' h'
      refine ih _ a' w' (by simpa using hs) ?_ (hext _ _ _ _ ?_ h')
      · have := unl_set listed.toList i (by simpa using hli)
        rw [Array.toList_setIfInBounds]
        omega
      · intro j
        by_cases hji : j = i
        · subst hji
          simp [hs, hlt]
        · simp [hji, Ne.symm hji]
    · have := hdep e he hb
      rw [Array.getD_eq_getD_getElem?] at this
      cases hb2 : listed[e.on]? with
      | none => rw [hb2] at this; simp at this
      | some b => rw [hb2] at this; simp at this; rw [this]

theorem unl_replicate : ∀ n, unl (List.replicate n false) = n
  | 0 => rfl
  | n + 1 => by
    have := unl_replicate n
    simp only [List.replicate_succ, unl]
    simp
    omega

/-- what comes behind is laid behind -/
def acB (ops : Array Oper) : Bool := (List.range ops.size).all fun i => match ops[i]? with
  | none => true
  | some o => o.after.all fun e => !(Region.binds .any e) || decide (e.on < i)
theorem acB_spec {ops : Array Oper} (h : acB ops = true) : ∀ (i : Nat) (o : Oper), ops[i]? = some o → ∀ e ∈ o.after, Region.binds .any e = true → e.on < i := by
  intro i o ho e he hb
  have hlt : i < ops.size := (Array.getElem?_eq_some_iff.1 ho).1
  have h1 := List.all_eq_true.1 h i (List.mem_range.2 hlt)
  simp only [ho] at h1
  have h2 := Array.all_eq_true_iff_forall_mem.1 h1 e he
  rw [hb] at h2
  simpa using h2

theorem wp_region_inv {P : Program} {ops : Array Oper} {Q : Exit → Act → World → Prop} {id : Nat} {a : Act} {w : World} (hm : P.follows .mixedOrders = true) (I : (Nat → Prop) → Act → World → Prop)
    (hext : ∀ D D' a w, (∀ j, D j ↔ D' j) → I D a w → I D' a w)
    (hac : acB ops = true)
    (h0 : ∀ D, (∀ j, ¬ D j) → I D a w.drew)
    (hstep : ∀ D a w, I D a w → ∀ (i : Nat) (o : Oper), ops[i]? = some o → ¬ D i → (∀ e ∈ o.after, Region.binds .any e = true → D e.on) → wpOp P ops Q i (I fun j => D j ∨ j = i) a w)
    (hend : ∀ D a w, I D a w → (∀ i, i < ops.size → D i) → Q .normal a w) : (Code.region id ops true).wp P Q a w := by
  refine wp_region_any hm (wpAny_inv I hext (acB_spec hac) hstep hend ops.size _ a _ (by simp) ?_ (h0 _ ?_))
  · rw [Array.toList_replicate, unl_replicate]
    exact Nat.le_refl _
  · intro j h
    rw [Array.getElem?_replicate] at h
    split at h <;> simp at h
end Go.Proofs.YtfonicphdejdlaaGreat

namespace Go.Proofs.YtfonicphdejdlaaGreat
open Go.RowKit
set_option maxRecDepth 8000
theorem wpOp_wp {P : Program} {ops : Array Oper} {Q : Exit → Act → World → Prop} {i : Nat} {K : Act → World → Prop} {a : Act} {w : World} {o : Oper} (h : ops[i]? = some o) (hg : o.guard = none) (hw : o.wp P a w K Q) : wpOp P ops Q i K a w := by
  unfold wpOp
  simp only [h]
  rw [if_pos (by simp [Region.wanted, hg])]
  exact Or.inl hw
/-- what is done of the last statement of get -/
structure Tl (W : World) (tb rb : Nat) (cT : Array Value) (k : Int) (D : Nat → Prop) (w : World) (t5 t49 t50 t51 : Value) : Prop where
  kp : But (fun y => y = rb) W w
  bx : Box w tb cT 45
  f0 : D 0 → t49 = .agg cT
  f1 : D 1 → t50 = .int .i64 k
  f2 : D 2 → t51 = .int .i64 k
  f3 : D 3 → Box w rb cT 45
  f3n : ¬ D 3 → Box w rb zC 45
  f4 : D 4 → t5 = .int .i64 k
def TlI (T : Value → Value → Value → Value → Array Value) (W : World) (tb rb : Nat) (cT : Array Value) (k : Int) (D : Nat → Prop) (c : Act) (w : World) : Prop :=
  ∃ t5 t49 t50 t51, c = { tmps := T t5 t49 t50 t51, defers := [] } ∧ Tl W tb rb cT k D w t5 t49 t50 t51
theorem or_of {D : Nat → Prop} {i j : Nat} (h : D i ∨ i = j) (hne : i ≠ j) : D i := h.resolve_right hne
set_option maxHeartbeats 4000000 in
theorem get_tail (x0 x1 x2 x3 x8 x9 x10 x11 x12 x13 x14 x15 x16 x17 x18 x19 x20 x21 x22 x23 x24 x25 x26 x27 x28 x29 x30 x31 x32 x33 x34 x35 x36 x37 x38 x39 x40 x41 x42 x43 x44 x45 x46 x47 x48 : Value) (W : World) (tb rb : Nat) (hne : tb ≠ rb) (cT : Array Value) (hs : cT.size = 30) (ho : cT.all (·.oneCell') = true) (k : Int) (y5 y49 y50 y51 : Value) (hT : Box W tb cT 45) (hR : Box W rb zC 45) (Q : Exit → Act → World → Prop)
    (hQ : ∀ w', Box w' rb cT 45 → But (fun y => y = rb) W w' → Q .normal { tmps := #[x0, x1, x2, x3, .pointer (some ⟨rb, 0, none⟩), .int .i64 k, .pointer (some ⟨tb, 0, none⟩), .int .i64 k, x8, x9, x10, x11, x12, x13, x14, x15, x16, x17, x18, x19, x20, x21, x22, x23, x24, x25, x26, x27, x28, x29, x30, x31, x32, x33, x34, x35, x36, x37, x38, x39, x40, x41, x42, x43, x44, x45, x46, x47, x48, .agg cT, .int .i64 k, .int .i64 k], defers := [] } w') :
    (Code.region 13 #[{ dst := some 49, op := Op.load 45 (Operand.tmp 6), type := 45, pos := "exact.go:101", after := #[], guard := none },
        { dst := some 50, op := Op.move (Operand.tmp 7), type := 60, pos := "exact.go:101", after := #[], guard := none },
        { dst := some 51, op := Op.call { callee := Callee.value (Operand.func 19), args := #[Operand.tmp 50], argTypes := #[60] }, type := 3, pos := "exact.go:101", after := #[{ on := 1, ground := Ground.data }], guard := none },
        { dst := none, op := Op.store 45 (Operand.tmp 4) (Operand.tmp 49), type := 0, pos := "exact.go:101", after := #[{ on := 0, ground := Ground.data }, { on := 2, ground := Ground.chain }, { on := 0, ground := Ground.phase }, { on := 1, ground := Ground.textOnly Departure.lateStores }, { on := 2, ground := Ground.textOnly Departure.lateStoresUnsure }], guard := none },
        { dst := some 5, op := Op.assign (Operand.tmp 51), type := 3, pos := "exact.go:101", after := #[{ on := 2, ground := Ground.data }, { on := 3, ground := Ground.chain }, { on := 0, ground := Ground.phase }, { on := 1, ground := Ground.phase }, { on := 2, ground := Ground.phase }, { on := 3, ground := Ground.phase }], guard := none }] true).wp Tryz.prog Q { tmps := #[x0, x1, x2, x3, .pointer (some ⟨rb, 0, none⟩), y5, .pointer (some ⟨tb, 0, none⟩), .int .i64 k, x8, x9, x10, x11, x12, x13, x14, x15, x16, x17, x18, x19, x20, x21, x22, x23, x24, x25, x26, x27, x28, x29, x30, x31, x32, x33, x34, x35, x36, x37, x38, x39, x40, x41, x42, x43, x44, x45, x46, x47, x48, y49, y50, y51], defers := [] } W := by
  refine wp_region_inv (by kernel_rfl) (TlI (fun t5 t49 t50 t51 => #[x0, x1, x2, x3, .pointer (some ⟨rb, 0, none⟩), t5, .pointer (some ⟨tb, 0, none⟩), .int .i64 k, x8, x9, x10, x11, x12, x13, x14, x15, x16, x17, x18, x19, x20, x21, x22, x23, x24, x25, x26, x27, x28, x29, x30, x31, x32, x33, x34, x35, x36, x37, x38, x39, x40, x41, x42, x43, x44, x45, x46, x47, x48, t49, t50, t51]) W tb rb cT k) ?_ (by kernel_rfl) ?_ ?_ ?_
  · rintro D D' c w1 hD ⟨t5, t49, t50, t51, h, hK⟩
    have e : D = D' := funext fun j => propext (hD j)
    subst e
    exact ⟨t5, t49, t50, t51, h, hK⟩
  · intro D hD
    exact ⟨_, _, _, _, rfl, (But.refl _ _).drew, hT.below (Below.refl _ _).drew, fun h => absurd h (hD _), fun h => absurd h (hD _), fun h => absurd h (hD _), fun h => absurd h (hD _), fun _ => hR.below (Below.refl _ _).drew, fun h => absurd h (hD _)⟩
  · intro D c w1 hI j o hi hnd hdep
    obtain ⟨t5, t49, t50, t51, rfl, hK⟩ := hI
    have hlt : j < 5 := (Array.getElem?_eq_some_iff.1 hi).1
    match j, hlt with
    | 0, _ =>
      cases hi
      refine wpOp_wp rfl rfl (wp_load_row 45 (.tmp 6) rfl tb rfl 45 cT (0, 0) _ hK.bx Tryz.underlying45 rfl (by rw [hs]; exact info45) ?_)
      exact ⟨_, _, _, _, rfl, hK.kp, hK.bx, fun _ => rfl, fun h => hK.f1 (or_of h (by decide)), fun h => hK.f2 (or_of h (by decide)), fun h => hK.f3 (or_of h (by decide)), fun h => hK.f3n (fun h2 => h (Or.inl h2)), fun h => hK.f4 (or_of h (by decide))⟩
    | 1, _ =>
      cases hi
      refine wpOp_wp rfl rfl ?_
      simp [Oper.wp, execOp, go_sem, Oper.upon, Act.eval, Act.put]
      exact ⟨_, _, _, _, rfl, hK.kp, hK.bx, fun h => hK.f0 (or_of h (by decide)), fun _ => rfl, fun h => hK.f2 (or_of h (by decide)), fun h => hK.f3 (or_of h (by decide)), fun h => hK.f3n (fun h2 => h (Or.inl h2)), fun h => hK.f4 (or_of h (by decide))⟩
    | 2, _ =>
      cases hi
      simp [Region.binds] at hdep
      obtain rfl := hK.f1 hdep
      have hst := step_call (Q := Q) (E := False) (ops := #[{ dst := some 49, op := Op.load 45 (Operand.tmp 6), type := 45, pos := "exact.go:101", after := #[], guard := none },
        { dst := some 50, op := Op.move (Operand.tmp 7), type := 60, pos := "exact.go:101", after := #[], guard := none },
        { dst := some 51, op := Op.call { callee := Callee.value (Operand.func 19), args := #[Operand.tmp 50], argTypes := #[60] }, type := 3, pos := "exact.go:101", after := #[{ on := 1, ground := Ground.data }], guard := none },
        { dst := none, op := Op.store 45 (Operand.tmp 4) (Operand.tmp 49), type := 0, pos := "exact.go:101", after := #[{ on := 0, ground := Ground.data }, { on := 2, ground := Ground.chain }, { on := 0, ground := Ground.phase }, { on := 1, ground := Ground.textOnly Departure.lateStores }, { on := 2, ground := Ground.textOnly Departure.lateStoresUnsure }], guard := none },
        { dst := some 5, op := Op.assign (Operand.tmp 51), type := 3, pos := "exact.go:101", after := #[{ on := 2, ground := Ground.data }, { on := 3, ground := Ground.chain }, { on := 0, ground := Ground.phase }, { on := 1, ground := Ground.phase }, { on := 2, ground := Ground.phase }, { on := 3, ground := Ground.phase }], guard := none }]) (a := { tmps := #[x0, x1, x2, x3, .pointer (some ⟨rb, 0, none⟩), t5, .pointer (some ⟨tb, 0, none⟩), .int .i64 k, x8, x9, x10, x11, x12, x13, x14, x15, x16, x17, x18, x19, x20, x21, x22, x23, x24, x25, x26, x27, x28, x29, x30, x31, x32, x33, x34, x35, x36, x37, x38, x39, x40, x41, x42, x43, x44, x45, x46, x47, x48, t49, (.int .i64 k), t51], defers := [] }) (w := w1) (K := TlI (fun t5 t49 t50 t51 => #[x0, x1, x2, x3, .pointer (some ⟨rb, 0, none⟩), t5, .pointer (some ⟨tb, 0, none⟩), .int .i64 k, x8, x9, x10, x11, x12, x13, x14, x15, x16, x17, x18, x19, x20, x21, x22, x23, x24, x25, x26, x27, x28, x29, x30, x31, x32, x33, x34, x35, x36, x37, x38, x39, x40, x41, x42, x43, x44, x45, x46, x47, x48, t49, t50, t51]) W tb rb cT k fun j => D j ∨ j = 2) (o := { dst := some 51, op := Op.call { callee := Callee.value (Operand.func 19), args := #[Operand.tmp 50], argTypes := #[60] }, type := 3, pos := "exact.go:101", after := #[{ on := 1, ground := Ground.data }], guard := none }) rfl 19 #[.tmp 50] _ rfl Tryz.f19 Tryz.func19 (by kernel_rfl) rfl #[.int .i64 k] rfl _ (num_any k w1) (fun e w' h => by
        obtain ⟨rfl, hw⟩ := h
        subst hw
        exact ⟨_, rfl, _, _, _, _, rfl, hK.kp, hK.bx, fun h => hK.f0 (or_of h (by decide)), fun _ => rfl, fun _ => rfl, fun h => hK.f3 (or_of h (by decide)), fun h => hK.f3n (fun h2 => h (Or.inl h2)), fun h => hK.f4 (or_of h (by decide))⟩)
      rw [if_pos (by simp [Region.wanted])] at hst
      exact wpOp_wp rfl rfl hst
    | 3, _ =>
      cases hi
      simp [Region.binds] at hdep
      obtain rfl := hK.f0 (by first | exact hdep | exact hdep.1 | exact hdep.2 | exact hdep.2.1)
      have hzb := hK.f3n hnd
      refine wpOp_wp rfl rfl (wp_store_row 45 (.tmp 4) (.tmp 49) rfl rb cT rfl rfl 45 zC hzb (by rw [hs]; exact info45) (by rw [hs]; rfl) ho ?_)
      refine ⟨_, _, _, _, rfl, hK.kp.trans (setRow_but _ _ _), hK.bx.but (setRow_but _ _ _) hne, fun _ => rfl, fun h => hK.f1 (or_of h (by decide)), fun h => hK.f2 (or_of h (by decide)), fun _ => setRow_box hzb, fun h => absurd (Or.inr rfl) h, fun h => hK.f4 (or_of h (by decide))⟩
    | 4, _ =>
      cases hi
      simp [Region.binds] at hdep
      obtain rfl := hK.f2 (by first | exact hdep | exact hdep.1 | exact hdep.2 | exact hdep.2.1)
      refine wpOp_wp rfl rfl ?_
      simp [Oper.wp, execOp, go_sem, Oper.upon, Act.eval, Act.put]
      exact ⟨_, _, _, _, rfl, hK.kp, hK.bx, fun h => hK.f0 (or_of h (by decide)), fun h => hK.f1 (or_of h (by decide)), fun _ => rfl, fun h => hK.f3 (or_of h (by decide)), fun h => hK.f3n (fun h2 => h (Or.inl h2)), fun _ => rfl⟩
  · rintro D c w1 ⟨t5, t49, t50, t51, rfl, hK⟩ hall
    obtain rfl := hK.f0 (hall 0 (by decide))
    obtain rfl := hK.f1 (hall 1 (by decide))
    obtain rfl := hK.f2 (hall 2 (by decide))
    obtain rfl := hK.f4 (hall 4 (by decide))
    exact hQ w1 (hK.f3 (hall 3 (by decide))) hK.kp
end Go.Proofs.YtfonicphdejdlaaGreat
