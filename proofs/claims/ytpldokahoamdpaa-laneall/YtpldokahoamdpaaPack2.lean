import Derived.Test.YtpldokahoamdpaaPack1
import Derived.Conc.LoneCalls
import Derived.Conc.LoneSelect
import Derived.Conc.LoneSelectN
namespace Go.Proofs.Ytpldokahoamdpaa
open Go.RowKit
set_option maxRecDepth 8000

/-- what stands in a row: its type, how many cells, which, and what they hold elsewhere -/
structure El (α : Type) where
  ty : TypeId
  size : Nat
  cells : α → List Value
  len : ∀ x, (cells x).length = size
  one : ∀ x u, u ∈ cells x → u.oneCell' = true
  In : World → (Nat → Prop) → α → Prop
  kept : ∀ {w w' : World} {S : Nat → Prop} {x : α}, In w S x → w.heap.size ≤ w'.heap.size → (∀ b, S b → b < w.heap.size → w'.heap[b]? = w.heap[b]?) → In w' S x
  mono : ∀ {w : World} {S S' : Nat → Prop} {x : α}, In w S x → (∀ b, S b → b < w.heap.size → S' b) → In w S' x
/-- a list with its address -/
structure LT (α : Type) where
  p : Option Addr
  n : Nat
  c : Nat
  item : Nat → α
def LT.val {α : Type} (l : LT α) : Value := .slice l.p l.n l.c
structure LT.In {α : Type} (E : El α) (w : World) (S : Nat → Prop) (l : LT α) : Prop where
  at_ : 0 < l.n → ∃ b o, l.p = some ⟨b, o, none⟩ ∧ S b ∧ b < w.heap.size ∧ ∀ j, j < l.n → ∀ r u, (E.cells (l.item j))[r]? = some u → w.cell? ⟨b, o + j * E.size + r, none⟩ = some u
  each : ∀ j, j < l.n → E.In w S (l.item j)
  nc : l.n ≤ l.c
  nn : l.n ≤ 140737488355328
  cc : l.c ≤ maxLen
  nil : l.p = none → l.n = 0 ∧ l.c = 0
theorem LT.In.kept {α : Type} {E : El α} {w w' : World} {S : Nat → Prop} {l : LT α} (h : LT.In E w S l) (hs : w.heap.size ≤ w'.heap.size) (hb : ∀ b, S b → b < w.heap.size → w'.heap[b]? = w.heap[b]?) : LT.In E w' S l := by
  refine ⟨fun hn => ?_, fun j hj => E.kept (h.each j hj) hs hb, h.nc, h.nn, h.cc, h.nil⟩
  obtain ⟨b, o, e, hS, hl, ha⟩ := h.at_ hn
  exact ⟨b, o, e, hS, Nat.lt_of_lt_of_le hl hs, fun j hj r u hu => (World.cell?_of_block (a := ⟨b, o + j * E.size + r, none⟩) (hb b hS hl)).trans (ha j hj r u hu)⟩
theorem LT.In.mono {α : Type} {E : El α} {w : World} {S S' : Nat → Prop} {l : LT α} (h : LT.In E w S l) (hb : ∀ b, S b → b < w.heap.size → S' b) : LT.In E w S' l := by
  refine ⟨fun hn => ?_, fun j hj => E.mono (h.each j hj) hb, h.nc, h.nn, h.cc, h.nil⟩
  obtain ⟨b, o, e, hS, hl, ha⟩ := h.at_ hn
  exact ⟨b, o, e, hb b hS hl, hl, ha⟩
theorem LT.In.below {α : Type} {E : El α} {w w' : World} {S : Nat → Prop} {l : LT α} (h : LT.In E w S l) (hb : Below w.heap.size w w') : LT.In E w' S l := h.kept hb.size fun b _ hl => hb.block b hl
theorem LT.In.but {α : Type} {E : El α} {w w' : World} {S X : Nat → Prop} {l : LT α} (h : LT.In E w S l) (hb : But X w w') (hx : ∀ b, S b → b < w.heap.size → ¬ X b) : LT.In E w' S l :=
  h.kept hb.size fun b hS hl => hb.block b hl (hx b hS hl)
/-- an empty list -/
theorem LT.In.none_ {α : Type} (E : El α) (w : World) (S : Nat → Prop) (p : Option Addr) (c : Nat) (f : Nat → α) (hc : c ≤ maxLen) (hp : p = none → c = 0) : LT.In E w S ⟨p, 0, c, f⟩ :=
  ⟨fun h => absurd h (by simp), fun j h => absurd h (by simp), Nat.zero_le _, Nat.zero_le _, hc, fun h => ⟨rfl, hp h⟩⟩

theorem range_flat_len {α : Type} (E : El α) (g : Nat → α) (m : Nat) : ((List.range m).flatMap fun j => E.cells (g j)).length = m * E.size := by
  induction m with
  | zero => simp
  | succ m ih => rw [List.range_succ, List.flatMap_append, List.length_append, ih]; simp [E.len, Nat.add_mul]
theorem range_flat_get {α : Type} (E : El α) (g : Nat → α) : ∀ (n j r : Nat), j < n → r < E.size → ((List.range n).flatMap fun j => E.cells (g j))[j * E.size + r]? = (E.cells (g j))[r]? := by
  intro n
  induction n with
  | zero => intro j r h; omega
  | succ n ih =>
    intro j r hj hr
    rw [List.range_succ, List.flatMap_append]
    by_cases h : j < n
    · have h1 : (j + 1) * E.size ≤ n * E.size := Nat.mul_le_mul h (Nat.le_refl _)
      rw [Nat.add_mul] at h1
      rw [List.getElem?_append_left (by rw [range_flat_len]; omega)]
      exact ih j r h hr
    · obtain rfl : j = n := by omega
      rw [List.getElem?_append_right (by rw [range_flat_len]; omega), range_flat_len]
      simp only [List.flatMap_cons, List.flatMap_nil, List.append_nil]
      congr 1
      omega
/-- a row of the call's own, and what it holds in other blocks -/
structure OwnL {α : Type} (E : El α) (base : Nat) (w : World) (v : Value) (n : Nat) (g : Nat → α) : Prop where
  own : w.ownsRow base E.ty E.size v n ((List.range n).flatMap fun j => E.cells (g j))
  each : ∀ j, j < n → E.In w (fun b => base ≤ b ∧ v.ownBlock ≠ some b) (g j)
theorem OwnL.keep {α : Type} {E : El α} {base : Nat} {w w' : World} {v : Value} {n : Nat} {g : Nat → α} (h : OwnL E base w v n g) (hs : w.heap.size ≤ w'.heap.size) (hb : ∀ k, base ≤ k → k < w.heap.size → w'.heap[k]? = w.heap[k]?) : OwnL E base w' v n g :=
  ⟨ownsRow_keep h.own (fun k hk hl => hb k (h.own.lt k hk).1 hl), fun j hj => E.kept (h.each j hj) hs (fun b hS hl => hb b hS.1 hl)⟩
theorem OwnL.push {α : Type} {E : El α} {base : Nat} {w w' : World} {v v' : Value} {n : Nat} {g : Nat → α} {u : α} (h : OwnL E base w v n g) (hu : E.In w (fun b => base ≤ b ∧ v.ownBlock ≠ some b) u)
    (hown : w'.ownsRow base E.ty E.size v' (n + 1) (((List.range n).flatMap fun j => E.cells (g j)) ++ E.cells u)) (hg : w.grownBy w' v.ownBlock) (hn : Near w v v') :
    OwnL E base w' v' (n + 1) (fun j => if j < n then g j else u) := by
  have key : ∀ x, E.In w (fun b => base ≤ b ∧ v.ownBlock ≠ some b) x → E.In w' (fun b => base ≤ b ∧ v'.ownBlock ≠ some b) x := by
    intro x hx
    have h1 : E.In w (fun b => base ≤ b ∧ v.ownBlock ≠ some b ∧ v'.ownBlock ≠ some b) x := by
      refine E.mono hx fun b hb hl => ⟨hb.1, hb.2, fun e => ?_⟩
      rcases hn with h1 | h1
      · exact hb.2 (h1 ▸ e)
      · have := h1 b e; omega
    have h2 := E.kept h1 hg.size (fun b hb hl => hg.block b hl (fun e => hb.2.1 e.symm))
    exact E.mono h2 fun b hb _ => ⟨hb.1, hb.2.2⟩
  refine ⟨?_, fun j hj => ?_⟩
  · have e : ((List.range (n + 1)).flatMap fun j => E.cells (if j < n then g j else u)) = ((List.range n).flatMap fun j => E.cells (g j)) ++ E.cells u := by
      rw [List.range_succ, List.flatMap_append]
      congr 1
      · rw [List.flatMap_def, List.flatMap_def]
        congr 1
        apply List.map_congr_left
        intro j hj
        rw [if_pos (List.mem_range.1 hj)]
      · simp
    rw [e]
    exact hown
  · by_cases hjn : j < n
    · rw [if_pos hjn]; exact key _ (h.each j hjn)
    · rw [if_neg hjn]; exact key _ hu
/-- the row as a list -/
theorem OwnL.in_ {α : Type} {E : El α} {base : Nat} {w : World} {v : Value} {n : Nat} {g : Nat → α} (h : OwnL E base w v n g) (hnn : n ≤ 140737488355328) :
    ∃ p c, v = .slice p n c ∧ LT.In E w (fun b => base ≤ b) ⟨p, n, c, g⟩ := by
  have hlt := h.own.lt
  have hce := @World.ownsRow.cells _ _ _ _ _ _ _ h.own
  obtain ⟨_, ⟨hv, h0⟩ | ⟨gb, cap, cur, hv, hbg, hh, hnc, hcm, hcs, htake⟩⟩ := id h.own
  · subst h0
    exact ⟨none, 0, hv, LT.In.none_ E w _ none 0 g (Nat.zero_le _) (fun _ => rfl)⟩
  · refine ⟨_, cap, hv, fun hn => ⟨gb, 0, rfl, hbg, (hlt gb (by rw [hv]; rfl)).2, fun j hj r u hu => ?_⟩, fun j hj => E.mono (h.each j hj) fun b hb _ => hb.1, hnc, hnn, hcm, fun h => by cases h⟩
    have hr : r < E.size := by
      rcases Nat.lt_or_ge r E.size with h1 | h1
      · exact h1
      · rw [List.getElem?_eq_none (by rw [E.len]; exact h1)] at hu; cases hu
    have := hce (g := gb) (by rw [hv]; rfl) (j * E.size + r) u (by rw [range_flat_get E g n j r hj hr]; exact hu)
    rw [Go.WideShapes.add_plain] at this
    rw [show (0 : Nat) + j * E.size + r = 0 + (j * E.size + r) by omega]
    exact this
theorem oneCell_flat {α : Type} (E : El α) (x : α) : ∀ u ∈ E.cells x, u.oneCell' = true := E.one x

/-- ints, texts, records, lists -/
def elInt : El Int where
  ty := 3
  size := 1
  cells := fun x => [.int .i64 x]
  len := fun _ => rfl
  one := fun x u hu => by simp only [List.mem_singleton] at hu; subst hu; rfl
  In := fun _ _ x => -9223372036854775808 ≤ x ∧ x ≤ 9223372036854775807
  kept := fun h _ _ => h
  mono := fun h _ => h
def elStr : El ByteArray where
  ty := 9
  size := 1
  cells := fun x => [.string x]
  len := fun _ => rfl
  one := fun x u hu => by simp only [List.mem_singleton] at hu; subst hu; rfl
  In := fun _ _ x => x.size ≤ 140737488355328
  kept := fun h _ _ => h
  mono := fun h _ => h
/-- a value in a row -/
def elVal : El VT where
  ty := 30
  size := 4
  cells := VT.cells
  len := fun _ => rfl
  one := fun x => oneCell_cells x
  In := VT.In
  kept := fun h hs hb => h.kept hs hb
  mono := fun h hb => h.mono hb
/-- a cell of a state: a value's text and items -/
def elCell : El VT where
  ty := 119
  size := 2
  cells := VT.two
  len := fun _ => rfl
  one := fun x u hu => by
    simp only [VT.two, List.mem_cons, List.not_mem_nil, or_false] at hu
    rcases hu with rfl | rfl <;> rfl
  In := VT.In
  kept := fun h hs hb => h.kept hs hb
  mono := fun h hb => h.mono hb
def elRec : El RT where
  ty := 33
  size := 6
  cells := RT.cells
  len := fun _ => rfl
  one := fun x u hu => by
    simp only [RT.cells, List.mem_cons, List.not_mem_nil, or_false] at hu
    rcases hu with rfl | rfl | rfl | rfl | rfl | rfl <;> rfl
  In := RT.In
  kept := fun h hs hb => h.kept hs hb
  mono := fun h hb => h.mono hb
def elRecs : El (LT RT) where
  ty := 38
  size := 1
  cells := fun l => [.slice l.p l.n l.c]
  len := fun _ => rfl
  one := fun x u hu => by simp only [List.mem_singleton] at hu; subst hu; rfl
  In := LT.In elRec
  kept := fun h hs hb => h.kept hs hb
  mono := fun h hb => h.mono hb
end Go.Proofs.Ytpldokahoamdpaa

namespace Go.Proofs.Ytpldokahoamdpaa
open Go.RowKit Go.Conc
set_option maxRecDepth 8000
section
variable {P : Program} {ops : Array Oper} {Q : Exit → Act → World → Prop} {a : Act} {w : World}
/-- a communication, whatever the frame's kind -/
theorem stepG_comm' {b : Frame} {k : List Item} {cs : List Frame} {i : Nat} {rest : List Nat} {o : Oper} {cases : Array CommCase} {blocking : Bool} {shape : CommShape} {w' : World} (ho : ops[i]? = some o) (hw : Region.wanted o (yielded ops a.tmps) = true)
    (hr : (execOp a.eval o).run P w = .ok (.comm cases blocking shape) w') :
    ∃ es, stepG P true (G (b.at a (.inRegion ops (i :: rest) :: k)) cs) w = .comm (G (b.at a (.inRegion ops (i :: rest) :: k)) cs) cases blocking shape w' es := by
  rw [stepG_oper ho hw]
  simp [stepG.apply, hr, G, Frame.at, GStep.after]
/-- what is left of a region does this -/
def OpsDo (P : Program) (ops : Array Oper) (Q : Exit → Act → World → Prop) (l : List Nat) (a : Act) (w : World) : Prop :=
  ∀ (b : Frame) (k : List Item) (cs : List Frame), ∃ e a' w', Q e a' w' ∧ Arrives P (lone (b.at a (.inRegion ops l :: k)) cs w) b k cs e a' w'
theorem opsDo_region {id : Nat} (h : OpsDo P ops Q (List.range ops.size) a w) : (Code.region id ops false).wp P Q a w :=
  fun b k cs => let ⟨e, a', w', q, r⟩ := h b k cs; ⟨e, a', w', q, .of_steps (.one step_region) r⟩
theorem opsDo_value {i : Nat} {rest : List Nat} {o : Oper} {v : Value} {w' : World} (ho : ops[i]? = some o) (hw : Region.wanted o (yielded ops a.tmps) = true) (hr : (execOp a.eval o).run P w = .ok (.value v) w')
    (h : OpsDo P ops Q rest (a.put o.dst v) w') : OpsDo P ops Q (i :: rest) a w := fun b k cs => by
  obtain ⟨e, a', w2, hq, harr⟩ := h b k cs
  refine ⟨e, a', w2, hq, .of_steps (.one (step_lone_go ?_)) harr⟩
  have hfin : (b.at a (.inRegion ops (i :: rest) :: k)).finish v = b.at (a.put o.dst v) (.inRegion ops rest :: k) := by rw [Frame.finish_at, ho]; rfl
  rw [stepG_op ho hw, ← hfin]; simp [stepG.apply, hr]
theorem opsDo_comm {i : Nat} {rest : List Nat} {o : Oper} {cases : Array CommCase} {blocking : Bool} {shape : CommShape} {w1 w2 : World} {v : Value} (ho : ops[i]? = some o) (hw : Region.wanted o (yielded ops a.tmps) = true)
    (hr : (execOp a.eval o).run P w = .ok (.comm cases blocking shape) w1)
    (hst : ∀ (fr : Frame) (cs : List Frame) (es : Array Event), stepG P true (G fr cs) w = .comm (G fr cs) cases blocking shape w1 es → step P (solo (G fr cs) w) = .next (solo (G (fr.finish v) cs) w2))
    (h : OpsDo P ops Q rest (a.put o.dst v) w2) : OpsDo P ops Q (i :: rest) a w := fun b k cs => by
  obtain ⟨e, a', w', hq, harr⟩ := h b k cs
  obtain ⟨es, hg⟩ := stepG_comm' (P := P) (b := b) (k := k) (cs := cs) (rest := rest) ho hw hr
  have hfin : (b.at a (.inRegion ops (i :: rest) :: k)).finish v = b.at (a.put o.dst v) (.inRegion ops rest :: k) := by rw [Frame.finish_at, ho]; rfl
  have hs := hst _ _ _ hg
  rw [hfin] at hs
  exact ⟨e, a', w', hq, .of_steps (.one hs) harr⟩
theorem opsDo_list {l : List Oper} {k : Nat} {idx : List Nat} (hi : idx = List.range' k l.length) (hl : ∀ j, l[j]? = ops[k + j]?) (h : wpList P ops Q l a w) : OpsDo P ops Q idx a w := by
  subst hi
  rw [← wpOps_eq_wpList l k hl] at h
  exact wp_ops _ a w h
end
section
variable {P : Program} {Q : Exit → Act → World → Prop} {a : Act} {w w1 w2 : World} {id : Nat} {o o0 o1 : Oper} {rest : List Oper} {cases : Array CommCase} {blocking : Bool} {shape : CommShape} {v v0 v1 : Value}
/-- a region whose first operation is a communication -/
theorem wp_comm1 (hg : o.guard = none) (hr : (execOp a.eval o).run P w = .ok (.comm cases blocking shape) w1)
    (hst : ∀ (fr : Frame) (cs : List Frame) (es : Array Event), stepG P true (G fr cs) w = .comm (G fr cs) cases blocking shape w1 es → step P (solo (G fr cs) w) = .next (solo (G (fr.finish v) cs) w2))
    (h : wpList P (o :: rest).toArray Q rest (a.put o.dst v) w2) : (Code.region id (o :: rest).toArray false).wp P Q a w := by
  refine opsDo_region ?_
  rw [show List.range ((o :: rest).toArray.size) = 0 :: List.range' 1 rest.length by rw [List.size_toArray, List.length_cons, List.range_eq_range', List.range'_succ]]
  refine opsDo_comm (o := o) rfl (by simp [Region.wanted, hg]) hr hst ?_
  exact opsDo_list rfl (fun j => by simp [Nat.add_comm 1 j]) h
/-- a region of two operations and a communication -/
theorem wp_comm3 (hg0 : o0.guard = none) (hg1 : o1.guard = none) (hg : o.guard = none) (hr0 : (execOp a.eval o0).run P w = .ok (.value v0) w) (hr1 : (execOp (a.put o0.dst v0).eval o1).run P w = .ok (.value v1) w)
    (hr : (execOp ((a.put o0.dst v0).put o1.dst v1).eval o).run P w = .ok (.comm cases blocking shape) w1)
    (hst : ∀ (fr : Frame) (cs : List Frame) (es : Array Event), stepG P true (G fr cs) w = .comm (G fr cs) cases blocking shape w1 es → step P (solo (G fr cs) w) = .next (solo (G (fr.finish v) cs) w2))
    (h : Q .normal (((a.put o0.dst v0).put o1.dst v1).put o.dst v) w2) : (Code.region id [o0, o1, o].toArray false).wp P Q a w := by
  refine opsDo_region ?_
  show OpsDo P _ Q [0, 1, 2] a w
  refine opsDo_value (o := o0) rfl (by simp [Region.wanted, hg0]) hr0 ?_
  refine opsDo_value (o := o1) rfl (by simp [Region.wanted, hg1]) hr1 ?_
  refine opsDo_comm (o := o) rfl (by simp [Region.wanted, hg]) hr hst ?_
  exact opsDo_list (k := 3) (l := []) rfl (fun j => by simp) h
end
section
variable {P : Program} {fr : Frame} {cs : List Frame} {w w₁ : World} {es : Array Event} {c cap s r : Nat} {x z v : Value} {L : List Value} {tm closed : Bool}
theorem sel_recv (h : stepG P true (G fr cs) w = .comm (G fr cs) #[rcase c z] false .select w₁ es) (hc : w₁.heap[c]? = some (.chan cap (x :: L).toArray closed s r tm)) :
    step P (solo (G fr cs) w) = .next (solo (G (fr.finish (.tuple #[goInt 0, .bool true, x])) cs) (w₁.setChan c cap L.toArray closed s (r + 1) tm)) := by
  have := step_lone_select_recv_buf h hc (by simp)
  rw [this, show (x :: L).toArray.getD 0 undef = x by simp, show (x :: L).toArray.extract 1 (x :: L).toArray.size = L.toArray by simp]
theorem sel_send (h : stepG P true (G fr cs) w = .comm (G fr cs) #[scase c v z] false .select w₁ es) (hc : w₁.heap[c]? = some (.chan cap L.toArray false s r tm)) (hroom : L.length < cap) :
    step P (solo (G fr cs) w) = .next (solo (G (fr.finish (.tuple #[goInt 0, .bool false])) cs) (w₁.setChan c cap (L ++ [v]).toArray false (s + 1) r tm)) := by
  have := step_lone_select_send_room h hc (by simpa using hroom)
  rw [this, show L.toArray.push v = (L ++ [v]).toArray by simp]
theorem sel_full (h : stepG P true (G fr cs) w = .comm (G fr cs) #[scase c v z] false .select w₁ es) (hc : w₁.heap[c]? = some (.chan cap L.toArray false s r tm)) (hroom : cap ≤ L.length) :
    step P (solo (G fr cs) w) = .next (solo (G (fr.finish (.tuple #[goInt (-1), .bool false])) cs) w₁) :=
  step_lone_select_send_full h hc (by simpa using hroom)
theorem one_recv (h : stepG P true (G fr cs) w = .comm (G fr cs) #[rcase c z] true (.recv true) w₁ es) (hc : w₁.heap[c]? = some (.chan cap (x :: L).toArray closed s r tm)) :
    step P (solo (G fr cs) w) = .next (solo (G (fr.finish (.tuple #[x, .bool true])) cs) (w₁.setChan c cap L.toArray closed s (r + 1) tm)) := by
  have := step_lone_recv_buf true h hc (by simp)
  rw [this, show (x :: L).toArray.getD 0 undef = x by simp, show (x :: L).toArray.extract 1 (x :: L).toArray.size = L.toArray by simp]
  rfl
theorem one_shut (h : stepG P true (G fr cs) w = .comm (G fr cs) #[rcase c z] true (.recv true) w₁ es) (hc : w₁.heap[c]? = some (.chan cap #[] true s r tm)) :
    step P (solo (G fr cs) w) = .next (solo (G (fr.finish (.tuple #[z, .bool false])) cs) w₁) := step_lone_recv_shut true h hc
theorem one_send (h : stepG P true (G fr cs) w = .comm (G fr cs) #[scase c v z] true .send w₁ es) (hc : w₁.heap[c]? = some (.chan cap L.toArray false s r tm)) (hroom : L.length < cap) :
    step P (solo (G fr cs) w) = .next (solo (G (fr.finish undef) cs) (w₁.setChan c cap (L ++ [v]).toArray false (s + 1) r tm)) := by
  have := step_lone_send_room h hc (by simpa using hroom)
  rw [this, show L.toArray.push v = (L ++ [v]).toArray by simp]
end
end Go.Proofs.Ytpldokahoamdpaa
