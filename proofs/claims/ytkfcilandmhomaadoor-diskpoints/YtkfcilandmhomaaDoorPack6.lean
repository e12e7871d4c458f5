import Derived.Test.YtkfcilandmhomaaDoorPack0
import Derived.WideKeyElems
import Derived.Maps.RangeRun
import Derived.RangeFuncLeaves
import Derived.RangeFuncFrom
import Derived.Maps.Range
namespace Go.Proofs.YtkfcilandmhomaaDoor
open Go.RowKit
open Go.ChangeMaps (setBlock)
set_option maxRecDepth 8000
/-- what the entries of a map tell: names and what stands at them -/
structure MpE (es : Array MapEntry) (clock : Nat) (E : List (ByteArray × Value)) : Prop where
  st : MapKept.Stamped es clock
  eq : es.toList.map (fun e => (e.key, e.val)) = E.map (fun p => (labV p.1, p.2))
  nm : ∀ p ∈ E, Nm p.1
/-- a map in memory -/
def MpI (w : World) (b : Nat) (E : List (ByteArray × Value)) : Prop := ∃ es clock, w.heap[b]? = some (.map es clock) ∧ MpE es clock E
theorem MpI.lt {w : World} {b : Nat} {E : List (ByteArray × Value)} (h : MpI w b E) : b < w.heap.size := by
  obtain ⟨es, c, h, _⟩ := h
  exact (Array.getElem?_eq_some_iff.1 h).1
theorem MpI.kept {w w' : World} {b : Nat} {E : List (ByteArray × Value)} (h : MpI w b E) (hb : w'.heap[b]? = w.heap[b]?) : MpI w' b E := by
  obtain ⟨es, c, h, hE⟩ := h
  exact ⟨es, c, hb.trans h, hE⟩
theorem MpE.keys {es : Array MapEntry} {c : Nat} {E : List (ByteArray × Value)} (h : MpE es c E) : ∀ e ∈ es.toList, ∃ l, keyOf Tryd.prog 69 e.key = some l := fun e he => by
  have h1 : (e.key, e.val) ∈ es.toList.map (fun e => (e.key, e.val)) := List.mem_map.2 ⟨e, he, rfl⟩
  rw [h.eq] at h1
  obtain ⟨p, _, hp⟩ := List.mem_map.1 h1
  rw [← (Prod.mk.inj hp).1]
  exact lab_key _
theorem MpE.nodup {es : Array MapEntry} {c : Nat} {E : List (ByteArray × Value)} (h : MpE es c E) : (E.map (·.1)).Nodup := by
  have h1 := h.st.2.2
  have h2 : es.toList.map (·.key) = E.map (fun p => labV p.1) := by
    have := congrArg (List.map Prod.fst) h.eq
    simpa [List.map_map, Function.comp_def] using this
  rw [h2] at h1
  have h3 : (E.map (fun p => labV p.1)) = (E.map (·.1)).map labV := by simp [List.map_map, Function.comp_def]
  rw [h3] at h1
  exact (List.pairwise_map.1 h1).imp fun hne e => hne (congrArg labV e)
theorem MpE.size {es : Array MapEntry} {c : Nat} {E : List (ByteArray × Value)} (h : MpE es c E) : es.size = E.length := by
  have := congrArg List.length h.eq
  simpa using this
/-- what stands at a name -/
def lk (E : List (ByteArray × Value)) (s : ByteArray) : Option Value := (E.find? (fun p => decide (p.1 = s))).map (·.2)
theorem lk_none {E : List (ByteArray × Value)} {s : ByteArray} : lk E s = none ↔ ∀ p ∈ E, p.1 ≠ s := by
  simp [lk, List.find?_eq_none]
theorem lk_some {E : List (ByteArray × Value)} (hn : (E.map (·.1)).Nodup) {s : ByteArray} {v : Value} : lk E s = some v ↔ (s, v) ∈ E := by
  induction E with
  | nil => simp [lk]
  | cons p E ih =>
    simp only [List.map_cons, List.nodup_cons] at hn
    by_cases h : p.1 = s
    · simp only [lk, List.find?_cons, h, decide_true, Option.map_some, Option.some.injEq, List.mem_cons]
      constructor
      · intro e; left; rw [← h, ← e]
      · rintro (e | e)
        · rw [← e]
        · exact absurd (List.mem_map.2 ⟨(s, v), e, rfl⟩) (h ▸ hn.1)
    · have : lk (p :: E) s = lk E s := by simp [lk, h]
      rw [this, ih hn.2, List.mem_cons]
      constructor
      · exact .inr
      · rintro (e | e)
        · exact absurd (by rw [← e]) h
        · exact e
theorem MpE.find {es : Array MapEntry} {c : Nat} {E : List (ByteArray × Value)} (h : MpE es c E) (w : World) {s : ByteArray} (hs : Nm s) :
    ((Instr.findKey 69 (labV s) es.toList).run Tryd.prog w = .ok none w ∧ (∀ e ∈ es.toList, e.key ≠ labV s) ∧ lk E s = none) ∨
    ∃ j e0, (Instr.findKey 69 (labV s) es.toList).run Tryd.prog w = .ok (some (j, e0.val)) w ∧ es.toList[j]? = some e0 ∧ e0.key = labV s ∧ E[j]? = some (s, e0.val) ∧ lk E s = some e0.val := by
  obtain ⟨l, hl⟩ := lab_key s
  rcases labLaw.find w hl es.toList h.keys with ⟨h1, h2⟩ | ⟨j, e0, h1, h2, h3⟩
  · refine .inl ⟨h1, h2, lk_none.2 fun p hp e => ?_⟩
    have h4 : (labV p.1, p.2) ∈ E.map (fun p => (labV p.1, p.2)) := List.mem_map.2 ⟨p, hp, rfl⟩
    rw [← h.eq] at h4
    obtain ⟨x, hx, hxe⟩ := List.mem_map.1 h4
    exact h2 x hx (by rw [(Prod.mk.inj hxe).1, e])
  · have h4 : (es.toList.map (fun e => (e.key, e.val)))[j]? = some (labV s, e0.val) := by rw [List.getElem?_map, h2, Option.map_some, h3]
    rw [h.eq, List.getElem?_map] at h4
    obtain ⟨p, hp, hpe⟩ := Option.map_eq_some_iff.1 h4
    have hpm := List.mem_of_getElem? hp
    have e1 : p.1 = s := lab_eq (h.nm p hpm) hs (Prod.mk.inj hpe).1
    have e2 : p = (s, e0.val) := Prod.ext e1 (Prod.mk.inj hpe).2
    exact .inr ⟨j, e0, h1, h2, h3, by rw [hp, e2], (lk_some h.nodup).2 (e2 ▸ hpm)⟩
theorem run_look {w : World} {b : Nat} {E : List (ByteArray × Value)} (h : MpI w b E) {s : ByteArray} (hs : Nm s) (c : Bool) :
    (Instr.lookup 59 (.map (some b)) (labV s) c).run Tryd.prog w = .ok (if c = true then .tuple #[(lk E s).getD (.pointer none), .bool (lk E s).isSome] else (lk E s).getD (.pointer none)) w := by
  obtain ⟨es, ck, hb, hE⟩ := h
  obtain ⟨l, hl⟩ := lab_key s
  rcases hE.find w hs with ⟨h1, _, h3⟩ | ⟨j, e0, h1, _, _, _, h3⟩
  · simp [Instr.lookup, run_underlying Tryd.underlying59, MapKept.run_getObj_map hb, labLaw.check w _ hl, h1, Result.andThen, h3]
  · simp [Instr.lookup, run_underlying Tryd.underlying59, MapKept.run_getObj_map hb, labLaw.check w _ hl, h1, Result.andThen, h3]
/-- what a change of one block leaves -/
theorem But.block1 {w : World} {b : Nat} (o : Obj) : But (fun k => k = b) w (setBlock w b o) := by
  refine ⟨rfl, rfl, rfl, by simp [setBlock], fun k _ hx => ?_⟩
  show (setBlock w b o).heap[k]? = _
  have hne : k ≠ b := hx
  simp only [setBlock]
  rw [Array.getElem?_setIfInBounds_ne (fun e => hne e.symm)]
theorem setBlock_at {w : World} {b : Nat} (o : Obj) (hb : b < w.heap.size) : (setBlock w b o).heap[b]? = some o := by
  simp [setBlock, hb]
/-- a name that was not there -/
theorem run_updNew {w : World} {b : Nat} {E : List (ByteArray × Value)} (h : MpI w b E) {s : ByteArray} (hs : Nm s) (v : Value) (hn : lk E s = none) :
    ∃ o, (Instr.mapUpdate 59 (.map (some b)) (labV s) v).run Tryd.prog w = .ok () (setBlock w b o) ∧ MpI (setBlock w b o) b (E ++ [(s, v)]) := by
  have hlt := h.lt
  obtain ⟨es, ck, hb, hE⟩ := h
  obtain ⟨l, hl⟩ := lab_key s
  rcases hE.find w hs with ⟨h1, h2, h3⟩ | ⟨j, e0, h1, _, _, _, h3⟩
  · refine ⟨.map (es.push ⟨labV s, v, ck⟩) (ck + 1), ?_, es.push ⟨labV s, v, ck⟩, ck + 1, setBlock_at _ hlt, MapKept.stamped_push hE.st h2, ?_, fun p hp => ?_⟩
    · simp [Instr.mapUpdate, run_underlying Tryd.underlying59, MapKept.run_getObj_map hb, labLaw.check w false hl, h1, MapKept.run_setObj_map _ hb, Result.andThen, setBlock]
    · simp [hE.eq]
    · simp only [List.mem_append, List.mem_singleton] at hp
      rcases hp with hp | rfl
      · exact hE.nm p hp
      · exact hs
  · rw [hn] at h3; cases h3
/-- what was there already, laid again -/
theorem run_updSame {w : World} {b : Nat} {E : List (ByteArray × Value)} (h : MpI w b E) {s : ByteArray} (hs : Nm s) (v : Value) (hn : lk E s = some v) :
    ∃ o, (Instr.mapUpdate 59 (.map (some b)) (labV s) v).run Tryd.prog w = .ok () (setBlock w b o) ∧ MpI (setBlock w b o) b E := by
  have hlt := h.lt
  obtain ⟨es, ck, hb, hE⟩ := h
  obtain ⟨l, hl⟩ := lab_key s
  rcases hE.find w hs with ⟨h1, h2, h3⟩ | ⟨j, e0, h1, h2, h3, h4, h5⟩
  · rw [hn] at h3; cases h3
  · have hv : e0.val = v := by rw [hn] at h5; exact (Option.some.inj h5).symm
    have hj : es[j]? = some e0 := by simpa using h2
    have hid : (es.modify j fun e' => { e' with key := labV s, val := v }) = es := by
      apply Array.ext_getElem?
      intro i
      rw [Array.getElem?_modify]
      by_cases hij : j = i
      · subst hij
        rw [if_pos rfl, hj, Option.map_some, ← h3, ← hv]
      · rw [if_neg hij]
    refine ⟨.map (es.modify j fun e' => { e' with key := labV s, val := v }) ck, ?_, es, ck, ?_, hE⟩
    · simp [Instr.mapUpdate, run_underlying Tryd.underlying59, MapKept.run_getObj_map hb, labLaw.check w false hl, h1, hj, h3, labLaw.stays w hl, MapKept.run_setObj_map _ hb, Result.andThen, setBlock]
    · rw [hid]; exact setBlock_at _ hlt
theorem er_map2 {α β : Type} (f : α → β) : ∀ (l : List α) (i : Nat), (l.map f).eraseIdx i = (l.eraseIdx i).map f
  | [], _ => rfl
  | _ :: _, 0 => rfl
  | a :: l, i + 1 => by
    show f a :: (l.map f).eraseIdx i = f a :: (l.eraseIdx i).map f
    rw [er_map2 f l i]
theorem run_del {w : World} {b : Nat} {E : List (ByteArray × Value)} (h : MpI w b E) {s : ByteArray} (hs : Nm s) (ty : TypeId) :
    ∃ o, (Builtin.delete_ #[59, 69] ty #[.map (some b), labV s]).run Tryd.prog w = .ok (.tuple #[]) (setBlock w b o) ∧ MpI (setBlock w b o) b (E.filter fun p => !decide (p.1 = s)) := by
  have hlt := h.lt
  obtain ⟨es, ck, hb, hE⟩ := h
  obtain ⟨l, hl⟩ := lab_key s
  rcases hE.find w hs with ⟨h1, h2, h3⟩ | ⟨j, e0, h1, h2, h3, h4, h5⟩
  · refine ⟨.map es ck, ?_, es, ck, setBlock_at _ hlt, ?_⟩
    · simp [Builtin.delete_, run_underlying Tryd.underlying59, MapKept.run_getObj_map hb, labLaw.check w _ hl, h1, MapKept.run_setObj_map _ hb, Result.andThen, setBlock]
    · have : (E.filter fun p => !decide (p.1 = s)) = E := List.filter_eq_self.2 fun p hp => by simpa using lk_none.1 h3 p hp
      rw [this]; exact hE
  · have hjl : j < es.toList.length := (List.getElem?_eq_some_iff.1 h2).1
    have hjs : j < es.size := by simpa using hjl
    have hsub : (es.eraseIdxIfInBounds j).toList = es.toList.eraseIdx j := by
      unfold Array.eraseIdxIfInBounds
      rw [dif_pos hjs]
      simp
    have hnd := hE.nodup
    have hfil : (E.filter fun p => !decide (p.1 = s)) = E.eraseIdx j := by
      clear h1 h2 h3 hjl hjs hsub
      have key : ∀ (E : List (ByteArray × Value)) (j : Nat), (E.map (·.1)).Nodup → E[j]? = some (s, e0.val) → (E.filter fun p => !decide (p.1 = s)) = E.eraseIdx j := by
        intro E
        induction E with
        | nil => intro j _ h; simp at h
        | cons p E ih =>
          intro j hn hj
          simp only [List.map_cons, List.nodup_cons] at hn
          cases j with
          | zero =>
            simp only [List.getElem?_cons_zero, Option.some.injEq] at hj
            subst hj
            rw [List.filter_cons_of_neg (by simp), List.eraseIdx_cons_zero]
            refine List.filter_eq_self.2 fun p hp => ?_
            simp only [Bool.not_eq_true', decide_eq_false_iff_not]
            intro e
            exact hn.1 (List.mem_map.2 ⟨p, hp, e⟩)
          | succ j =>
            simp only [List.getElem?_cons_succ] at hj
            have hne : p.1 ≠ s := fun e => hn.1 (List.mem_map.2 ⟨(s, e0.val), List.mem_of_getElem? hj, e.symm⟩)
            rw [List.filter_cons_of_pos (by simpa using hne), List.eraseIdx_cons_succ, ih j hn.2 hj]
      exact key E j hnd h4
    refine ⟨.map (es.eraseIdxIfInBounds j) ck, ?_, es.eraseIdxIfInBounds j, ck, setBlock_at _ hlt, MapKept.stamped_erase hE.st j, ?_, fun p hp => hE.nm p (List.mem_filter.1 hp).1⟩
    · simp [Builtin.delete_, run_underlying Tryd.underlying59, MapKept.run_getObj_map hb, labLaw.check w _ hl, h1, MapKept.run_setObj_map _ hb, Result.andThen, setBlock]
    · rw [hsub, hfil, ← er_map2, ← er_map2, hE.eq]
theorem run_mlen {w : World} {b : Nat} {E : List (ByteArray × Value)} (h : MpI w b E) (ty : TypeId) : (Builtin.len_ #[59] ty #[.map (some b)]).run Tryd.prog w = .ok (.int .i64 (E.length : Int)) w := by
  obtain ⟨es, ck, hb, hE⟩ := h
  simp [Builtin.len_, run_underlying Tryd.underlying59, MapKept.run_getObj_map hb, Result.andThen, ← hE.size]
  rfl
end Go.Proofs.YtkfcilandmhomaaDoor

namespace Go.Proofs.YtkfcilandmhomaaDoor
open Go.RowKit
set_option maxRecDepth 8000
/-- what abides changes of blocks at B or beyond whose objects are of a kind -/
def Ab {β : Type} (B : Nat) (ok : Obj → Prop) (J : β → World → Prop) : Prop :=
  ∀ s W W' (X : Nat → Prop), J s W → But X W W' → (∀ k, k < W.heap.size → X k → B ≤ k ∧ ∃ o, W.heap[k]? = some o ∧ ok o) → J s W'
/-- a range over a map, under way -/
def okI (o : Obj) : Prop := ∃ m s q c, o = .mapIter m s q c
/-- no cells at all -/
def okN (o : Obj) : Prop := o.isCells = false
theorem okI.non {o : Obj} (h : okI o) : okN o := by obtain ⟨m, s, q, c, rfl⟩ := h; rfl
theorem Ab.weak {β : Type} {B : Nat} {ok ok' : Obj → Prop} {J : β → World → Prop} (h : Ab B ok J) (hk : ∀ o, ok' o → ok o) : Ab B ok' J := fun s W W' X hs hb hx => h s W W' X hs hb fun k hl e => by
  obtain ⟨h1, o, h2, h3⟩ := hx k hl e
  exact ⟨h1, o, h2, hk o h3⟩
theorem Ab.and {β : Type} {B : Nat} {ok : Obj → Prop} {J J' : β → World → Prop} (h : Ab B ok J) (h' : Ab B ok J') : Ab B ok (fun s W => J s W ∧ J' s W) := fun s W W' X hs hb hx => ⟨h s W W' X hs.1 hb hx, h' s W W' X hs.2 hb hx⟩
theorem But.put (W : World) (l : Nat) (o : Obj) : But (fun k => k = l) W (W.putObj l o) := ⟨rfl, rfl, rfl, by simp, fun k _ hk => World.putObj_heap_other hk⟩
theorem Ab.turn {β : Type} {B : Nat} {ok : Obj → Prop} {J : β → World → Prop} (h : Ab B ok J) {s : β} {W : World} {l : Nat} {o : Obj} (o' : Obj) (hs : J s W) (hB : B ≤ l) (hl : W.heap[l]? = some o) (ho : ok o) : J s (W.putObj l o') :=
  h s W _ _ hs (But.put W l o') fun k _ e => by subst e; exact ⟨hB, o, hl, ho⟩
theorem Ab.grow {β : Type} {B : Nat} {ok : Obj → Prop} {J : β → World → Prop} (h : Ab B ok J) {s : β} {W W' : World} (hs : J s W) (hb : Below W.heap.size W W') : J s W' :=
  h s W W' (fun _ => False) hs (But.ofBelow hb) fun _ _ e => e.elim
/-- what a round keeps: all that lay ahead of the loop but one block, and the iterator's own cells -/
structure KeepT (B : Nat) (b0 : Nat) (W W' : World) : Prop where
  size : W.heap.size ≤ W'.heap.size
  low : ∀ k, k < B → k < W.heap.size → k ≠ b0 → W'.heap[k]? = W.heap[k]?
  itr : ∀ k o, B ≤ k → W.heap[k]? = some o → okI o → W'.heap[k]? = some o
  os : W'.os = W.os
  tape : W'.tape = W.tape
  output : W'.output = W.output
/-- what a body keeps -/
structure KeepB (B : Nat) (b0 : Nat) (W W' : World) : Prop where
  kt : KeepT B b0 W W'
  non : ∀ k o, B ≤ k → W.heap[k]? = some o → o.isCells = false → W'.heap[k]? = some o
theorem KeepT.trans {B : Nat} {b0 : Nat} {X Y Z : World} (h : KeepT B b0 X Y) (g : KeepT B b0 Y Z) : KeepT B b0 X Z :=
  ⟨Nat.le_trans h.size g.size, fun k hk hl hn => (g.low k hk (Nat.lt_of_lt_of_le hl h.size) hn).trans (h.low k hk hl hn), fun k o hk hc ho => g.itr k o hk (h.itr k o hk hc ho) ho, g.os.trans h.os, g.tape.trans h.tape, g.output.trans h.output⟩
theorem KeepB.trans {B : Nat} {b0 : Nat} {X Y Z : World} (h : KeepB B b0 X Y) (g : KeepB B b0 Y Z) : KeepB B b0 X Z :=
  ⟨h.kt.trans g.kt, fun k o hk ho hc => g.non k o hk (h.non k o hk ho hc) hc⟩
theorem KeepT.turn {B : Nat} {b0 : Nat} {W : World} {l : Nat} {o : Obj} (o' : Obj) (hB : B ≤ l) (hl : W.heap[l]? = some o) (ho : ¬ okI o) : KeepT B b0 W (W.putObj l o') := by
  refine ⟨by simp, fun k hk _ _ => World.putObj_heap_other (by omega), fun k o2 hk hc h2 => ?_, rfl, rfl, rfl⟩
  rw [World.putObj_heap_other]
  · exact hc
  · rintro rfl
    rw [hl] at hc
    cases hc
    exact ho h2
theorem KeepB.below {B : Nat} {b0 : Nat} {W W' : World} (h : Below W.heap.size W W') : KeepB B b0 W W' := by
  have hk : ∀ k o, W.heap[k]? = some o → W'.heap[k]? = some o := fun k o ho => (h.block k (Array.getElem?_eq_some_iff.1 ho).1).trans ho
  exact ⟨⟨h.size, fun k _ hl _ => h.block k hl, fun k o _ hc _ => hk k o hc, h.os, h.tape, h.output⟩, fun k o _ ho _ => hk k o ho⟩
/-- an iterator: it yields what may come next (Pr), in the end all is told (Fn), whatever the rounds make of it -/
def SeqM {α : Type} (P : Program) (g : Nat) (lb : Array Value) (encs : α → Array Value) (Pr Fn : List α → Prop) (b0 : Nat) (w : World) : Prop :=
  ∀ (l : Nat) (J : List α → World → Prop) (W : World), Below w.heap.size w W → Ab w.heap.size okI J →
    (∀ pre x W1, J pre W1 → Pr (pre ++ [x]) → YieldAt Fence.wide 0 P l (encs x) W1 fun e W' => e = .returned (.bool true) ∧ J (pre ++ [x]) W' ∧ KeepT w.heap.size b0 W1 W') →
    J [] W → CallsIn Fence.wide 0 P g (#[.func (.yield l) #[] #[]] ++ lb) W fun e W' => (∃ v, e = .returned v) ∧ ∃ XS, Fn XS ∧ J XS W'
/-- how a body is left -/
def bodyPostT {α : Type} (B : Nat) (b0 : Nat) (I : List α → World → Prop) (xs : List α) (W : World) : Exit → Act → World → Prop
  | .normal, _, W' => KeepB B b0 W W' ∧ I xs W'
  | _, _, _ => False
/-- a range over an iterator -/
theorem range_law {α : Type} {P : Program} {g : Operand} {ps : Array Tmp} {assign body : Code} {Q : Exit → Act → World → Prop} {a : Act} {w : World}
    {gf : Nat} {lb : Array Value} (hg : a.eval g = .func (.func gf) #[] lb) (eg : ∀ args w, (callFunc gf args).run P w = .ok (.enter gf args) w)
    {encs : α → Array Value} (hps : ∀ x, (encs x).size = ps.size) {Pr Fn : List α → Prop} {b0 : Nat} (hseq : SeqM P gf lb encs Pr Fn b0 w)
    (I : List α → World → Prop) (hI : Ab w.heap.size (okN) I) (h0 : I [] w)
    (Ax : α → Act → World → Prop) (hAx : Ab w.heap.size okN (fun (s : α × Act) W => Ax s.1 s.2 W))
    (hassign : ∀ (l : Nat) (pre : List α) (x : α) (W : World) (K : Act → World → Prop), I pre W → (∀ a' W', KeepB w.heap.size b0 W W' → I pre W' → Ax x a' W' → K a' W') →
      assign.wpIn (Fence.wide.inRound l) 0 P (Exit.then K (fun _ _ _ => False)) { tmps := (ps.zip (encs x)).foldl (fun t (p, v) => t.setIfInBounds p v) a.tmps, defers := [] } W)
    (hbody : ∀ (l : Nat) (pre : List α) (x : α) (a' : Act) (W : World), I pre W → Ax x a' W → Pr (pre ++ [x]) → body.wpIn (Fence.wide.inRound l) 0 P (bodyPostT w.heap.size b0 I (pre ++ [x]) W) a' W)
    (hdone : ∀ (D : Nat) (W : World) (XS : List α), Fn XS → w.heap.size ≤ D → I XS W → W.heap[D]? = some (.deferred (some [])) → Q .normal { a with defers := { target := .collected D, args := #[] } :: a.defers } W) :
    (Code.rangeFunc g ps assign body).wpIn Fence.wide 0 P Q a w := by
  refine wpIn_rangeFunc fun fn hfn => ?_
  generalize hr : (fun (st : LoopState) => ({ state := st, pending := none, fn := fn, tmps := a.tmps, params := ps, assign := assign, body := body, defers := w.heap.size } : Loop)) = rec
  have hr' : ∀ st, rec st = { state := st, pending := none, fn := fn, tmps := a.tmps, params := ps, assign := assign, body := body, defers := w.heap.size } := fun st => by rw [← hr]
  generalize hV : (w.alloc (.deferred (some []))).alloc (.loop (rec .ready)) = V
  have hLV : V.heap[w.heap.size + 1]? = some (.loop (rec .ready)) := by
    have h := World.alloc_heap_new (w.alloc (.deferred (some []))) (.loop (rec .ready))
    rw [hV] at h
    simpa using h
  have hbV : Below w.heap.size w V := by rw [← hV]; exact ((Below.refl _ w).alloc (Nat.le_refl _) _).alloc (by simp) _
  have hDV : V.heap[w.heap.size]? = some (.deferred (some [])) := by
    rw [← hV]; exact (Below.heap_alloc _ _ _ (by simp)).trans (World.alloc_heap_new w _)
  have hN : ∀ {o : Obj}, o.isCells = false → okN o := fun h => h
  refine ⟨w.heap.size + 1, [{ target := .collected w.heap.size, args := #[] }], V, { target := .fn (.func gf) lb, args := #[.func (.yield (w.heap.size + 1)) #[] #[]] }, V, gf, #[.func (.yield (w.heap.size + 1)) #[] #[]] ++ lb, V, ?_, ?_, fun _ _ => trivial, ?_, (fun h => by cases h), ?_⟩
  · rw [← hV, hr' .ready]; exact run_enterLoop_outer _ _ _ _ _
  · simp only [resolve, hg]; simp [go_sem]
  · simp [invoke, go_sem, eg]
  have hJ : Ab w.heap.size okI (fun pre W => I pre W ∧ W.heap[w.heap.size + 1]? = some (.loop (rec .ready)) ∧ W.heap[w.heap.size]? = some (.deferred (some []))) := by
    intro s W W' X ⟨h1, h2, h3⟩ hb hx
    have keep : ∀ (k : Nat) (o : Obj), W.heap[k]? = some o → ¬ okI o → W'.heap[k]? = some o := fun k o ho hc => by
      refine (hb.block k (Array.getElem?_eq_some_iff.1 ho).1 fun e => ?_).trans ho
      obtain ⟨_, o2, h4, h5⟩ := hx k (Array.getElem?_eq_some_iff.1 ho).1 e
      rw [ho] at h4
      cases h4
      exact hc h5
    exact ⟨(hI.weak fun _ h => h.non) s W W' X h1 hb hx, keep _ _ h2 (by rintro ⟨_, _, _, _, h⟩; cases h), keep _ _ h3 (by rintro ⟨_, _, _, _, h⟩; cases h)⟩
  refine (hseq (w.heap.size + 1) _ V hbV hJ ?_ ⟨hI.grow h0 (hbV.mono (Nat.le_refl _)), hLV, hDV⟩).mono ?_
  · rintro pre x W ⟨hi, hl, hk⟩ hpre
    have hlt : w.heap.size + 1 < W.heap.size := (Array.getElem?_eq_some_iff.1 hl).1
    have hy := run_yield (P := P) (args := encs x) hl (by rw [hr']; exact hps x)
    rw [hr'] at hy
    refine ⟨fn, _, assign, body, hy, roundIn_of_wpIn hfn (hassign _ pre x W _ hi fun a' W' hkb hi' hax => ?_)⟩
    have hl' := hkb.non _ _ (Nat.le_succ _) hl rfl
    have hk' := hkb.non _ _ (Nat.le_refl _) hk rfl
    refine ⟨_, run_beginRound hl' (by rw [hr']), ?_⟩
    generalize hW2 : W'.putObj (w.heap.size + 1) (.loop { rec .ready with state := .busy }) = W2
    have hlt' : w.heap.size + 1 < W'.heap.size := (Array.getElem?_eq_some_iff.1 hl').1
    have hl2 : W2.heap[w.heap.size + 1]? = some (.loop { rec .ready with state := .busy }) := by rw [← hW2]; exact World.putObj_heap_same hlt'
    have hk2 : W2.heap[w.heap.size]? = some (.deferred (some [])) := by rw [← hW2]; exact (World.putObj_heap_other (by omega)).trans hk'
    have hi2 : I pre W2 := by rw [← hW2]; exact hI.turn _ hi' (Nat.le_succ _) hl' (hN rfl)
    have hax2 : Ax x a' W2 := by rw [← hW2]; exact hAx.turn (s := (x, a')) _ hax (Nat.le_succ _) hl' rfl
    have hkt2 : KeepT w.heap.size b0 W W2 := hkb.kt.trans (by rw [← hW2]; exact KeepT.turn _ (Nat.le_succ _) hl' (by rintro ⟨_, _, _, _, h⟩; cases h))
    refine wpIn_mono (hbody _ pre x a' W2 hi2 hax2 hpre) ?_
    intro e a3 W3 hp
    cases e with
    | normal =>
      obtain ⟨hk3, hi3⟩ := hp
      have hl3 := hk3.non _ _ (Nat.le_succ _) hl2 rfl
      have hd3 := hk3.non _ _ (Nat.le_refl _) hk2 rfl
      have hlt3 : w.heap.size + 1 < W3.heap.size := (Array.getElem?_eq_some_iff.1 hl3).1
      refine ⟨_, _, run_endRound (P := P) none hl3, rfl, ⟨hI.turn _ hi3 (Nat.le_succ _) hl3 (hN rfl), ?_, (World.putObj_heap_other (by omega)).trans hd3⟩, (hkt2.trans hk3.kt).trans (KeepT.turn _ (Nat.le_succ _) hl3 (by rintro ⟨_, _, _, _, h⟩; cases h))⟩
      rw [World.putObj_heap_same hlt3, hr']
      rfl
    | ret => exact hp.elim
    | exit _ => exact hp.elim
    | goto _ => exact hp.elim
    | panic _ => exact hp.elim
    | outgrown => exact hp.elim
  · rintro e W ⟨⟨v, rfl⟩, XS, hfn, hi, hl, hk⟩
    have he := run_endLoop (P := P) hl (by rw [hr']; simp)
    have hp : (rec .ready).pending = none := by rw [hr']
    rw [hp] at he
    exact ⟨none, _, he, hdone _ _ XS hfn (Nat.le_refl _) (hI.turn _ hi (Nat.le_succ _) hl (hN rfl)) ((World.putObj_heap_other (by omega)).trans hk)⟩
end Go.Proofs.YtkfcilandmhomaaDoor

namespace Go.Proofs.YtkfcilandmhomaaDoor
open Go.RowKit
open Go.ChangeMaps (setBlock)
set_option maxRecDepth 8000
/-- a range over a map, under way: pre: the names that have come -/
def Rg (w : World) (b r : Nat) (E : List (ByteArray × Value)) (pre : List ByteArray) : Prop :=
  ∃ es clock since seen c0, w.heap[b]? = some (.map es clock) ∧ MpE es clock E ∧ w.heap[r]? = some (.mapIter (some b) since seen c0) ∧ (∀ x ∈ es.toList, x.born < since) ∧ since ≤ c0 ∧ since ≤ clock ∧
    (∀ e ∈ es.toList, (seen.contains e.born = true ↔ ∃ s ∈ pre, labV s = e.key)) ∧ pre.Nodup ∧ ∀ s ∈ pre, s ∈ E.map (·.1)
theorem Rg.ne {w : World} {b r : Nat} {E : List (ByteArray × Value)} {pre : List ByteArray} (h : Rg w b r E pre) : r ≠ b := by
  obtain ⟨es, ck, si, se, c0, h1, _, h2, _⟩ := h
  rintro rfl
  rw [h1] at h2
  cases h2
theorem Rg.kept {w w' : World} {b r : Nat} {E : List (ByteArray × Value)} {pre : List ByteArray} (h : Rg w b r E pre) (hb : w'.heap[b]? = w.heap[b]?) (hr : w'.heap[r]? = w.heap[r]?) : Rg w' b r E pre := by
  obtain ⟨es, ck, si, se, c0, h1, h2, h3, h4⟩ := h
  exact ⟨es, ck, si, se, c0, hb.trans h1, h2, hr.trans h3, h4⟩
theorem Rg.itr {w : World} {b r : Nat} {E : List (ByteArray × Value)} {pre : List ByteArray} (h : Rg w b r E pre) : ∃ o, w.heap[r]? = some o ∧ okI o := by
  obtain ⟨es, ck, si, se, c0, _, _, h3, _⟩ := h
  exact ⟨_, h3, _, _, _, _, rfl⟩
theorem Rg.map {w : World} {b r : Nat} {E : List (ByteArray × Value)} {pre : List ByteArray} (h : Rg w b r E pre) : MpI w b E := by
  obtain ⟨es, ck, si, se, c0, h1, h2, _⟩ := h
  exact ⟨es, ck, h1, h2⟩
/-- the range begins -/
theorem run_rng {w : World} {b : Nat} {E : List (ByteArray × Value)} (h : MpI w b E) :
    ∃ o, (Instr.range 59 (.map (some b))).run Tryd.prog w = .ok (.pointer (some ⟨w.heap.size, 0, none⟩)) (w.alloc o) ∧ Rg (w.alloc o) b w.heap.size E [] := by
  have hlt := h.lt
  obtain ⟨es, ck, hb, hE⟩ := h
  refine ⟨_, run_range_map w 59 69 72 b es ck Tryd.underlying59 hb, es, ck, ck, #[], ck, (Below.heap_alloc _ _ _ hlt).trans hb, hE, World.alloc_heap_new w _, hE.st.1, Nat.le_refl _, Nat.le_refl _, fun e _ => by simp, List.nodup_nil, fun s hs => by cases hs⟩
/-- the next one -/
theorem run_nxt {w : World} {b r : Nat} {E : List (ByteArray × Value)} {pre : List ByteArray} (h : Rg w b r E pre) (ty : TypeId) :
    (pre.Perm (E.map (·.1)) ∧ (Instr.next (.pointer (some ⟨r, 0, none⟩)) false ty).run Tryd.prog w = .ok (.tuple #[.bool false]) w) ∨
    ∃ s v w', (s, v) ∈ E ∧ s ∉ pre ∧ (Instr.next (.pointer (some ⟨r, 0, none⟩)) false ty).run Tryd.prog w = .ok (.tuple #[.bool true, labV s, v]) w' ∧ Rg w' b r E (pre ++ [s]) ∧ But (fun k => k = r) w w' ∧ w'.heap.size = w.heap.size ∧ w'.rangeLeft b r < w.rangeLeft b r ∧
      (Instr.entry (.pointer (some ⟨r, 0, none⟩))).run Tryd.prog w' = .ok (.tuple #[labV s, v]) w' := by
  have hne := h.ne
  obtain ⟨es, ck, si, seen, c0, hb, hE, hr, hold, hsc, hsk, hsn, hnd, hsub⟩ := h
  rcases run_next_at (P := Tryd.prog) w ty r b si c0 seen es ck hr hb hold hsc with ⟨h0, hrun⟩ | ⟨e, he, w1, hal, hrun⟩
  · refine .inl ⟨(List.perm_ext_iff_of_nodup hnd hE.nodup).2 fun s => ⟨hsub s, fun hs => ?_⟩, hrun⟩
    obtain ⟨p, hp, rfl⟩ := List.mem_map.1 hs
    have h1 : (labV p.1, p.2) ∈ E.map (fun p => (labV p.1, p.2)) := List.mem_map.2 ⟨p, hp, rfl⟩
    rw [← hE.eq] at h1
    obtain ⟨x, hx, hxe⟩ := List.mem_map.1 h1
    obtain ⟨s, hs1, hs2⟩ := (hsn x hx).1 (all_seen es seen h0 x hx)
    obtain ⟨p', hp', e'⟩ := List.mem_map.1 (hsub s hs1)
    have : s = p.1 := lab_eq (by have := hE.nm p' hp'; rw [e'] at this; exact this) (hE.nm p hp) (hs2.trans (Prod.mk.inj hxe).1)
    rw [← this]; exact hs1
  · obtain ⟨hem, hes⟩ := mem_left he
    have h1 : (e.key, e.val) ∈ es.toList.map (fun e => (e.key, e.val)) := List.mem_map.2 ⟨e, hem, rfl⟩
    rw [hE.eq] at h1
    obtain ⟨p, hp, hpe⟩ := List.mem_map.1 h1
    have hk : e.key = labV p.1 := (Prod.mk.inj hpe).1.symm
    have hv : e.val = p.2 := (Prod.mk.inj hpe).2.symm
    have hr1 : w1.heap[r]? = some (.mapIter (some b) si seen c0) := by rcases hal with rfl | rfl <;> exact hr
    have hb1 : w1.heap[b]? = some (.map es ck) := by rcases hal with rfl | rfl <;> exact hb
    have hrl : r < w1.heap.size := (Array.getElem?_eq_some_iff.1 hr1).1
    have hbw : But (fun k => k = r) w w1 := by rcases hal with rfl | rfl; exact But.refl _ _; exact (But.refl _ _).drew
    have hset := setBlock_at (w := w1) (.mapIter (some b) si (seen.push e.born) ck) hrl
    have hb' : (setBlock w1 r (.mapIter (some b) si (seen.push e.born) ck)).heap[b]? = some (.map es ck) := ((But.block1 _).block b (Array.getElem?_eq_some_iff.1 hb1).1 (fun e => hne e.symm)).trans hb1
    have hnp : p.1 ∉ pre := fun hm => by
      have := (hsn e hem).2 ⟨p.1, hm, hk.symm⟩
      rw [hes] at this; cases this
    refine .inr ⟨p.1, p.2, _, hp, hnp, ?_, ⟨es, ck, si, seen.push e.born, ck, hb', hE, hset, hold, hsk, hsk, fun x hx => ?_, ?_, fun s hs => ?_⟩, hbw.trans (But.block1 _), ?_, ?_, ?_⟩
    · rw [hrun, hk, hv]
    · rw [contains_push, Bool.or_eq_true, hsn x hx]
      constructor
      · rintro (⟨s, h1, h2⟩ | h1)
        · exact ⟨s, List.mem_append_left _ h1, h2⟩
        · have : x = e := born_inj hE.st.2.1 hx hem (by simpa using h1)
          exact ⟨p.1, by simp, by rw [this]; exact hk.symm⟩
      · rintro ⟨s, h1, h2⟩
        rcases List.mem_append.1 h1 with h1 | h1
        · exact .inl ⟨s, h1, h2⟩
        · right
          obtain rfl : s = p.1 := by simpa using h1
          have hst := (MapKept.stamped_iff es ck).1 hE.st
          have : x = e := entry_eq_of_key hst.2.2 hx hem (by rw [← h2, hk])
          rw [this]; simp
    · rw [List.nodup_append]
      exact ⟨hnd, by simp, fun a ha b hb e => hnp (by simp at hb; rw [← hb, ← e]; exact ha)⟩
    · rcases List.mem_append.1 hs with h1 | h1
      · exact hsub s h1
      · obtain rfl : s = p.1 := by simpa using h1
        exact List.mem_map.2 ⟨p, hp, rfl⟩
    · rcases hal with rfl | rfl <;> simp [setBlock]
    · have h1 : (setBlock w1 r (.mapIter (some b) si (seen.push e.born) ck)).rangeLeft b r = (leftOf es (seen.push e.born)).size := by simp only [World.rangeLeft, hb', hset]
      have h2 : w.rangeLeft b r = (leftOf es seen).size := by simp only [World.rangeLeft, hb, hr]
      rw [h1, h2]
      exact left_shrinks es seen e he
    · have := run_entry_at (P := Tryd.prog) _ r b si seen es ck e hset hb' hem ((MapKept.stamped_iff es ck).1 hE.st).2.1
      rw [this, hk, hv]
theorem rangeLeft_kept {w w' : World} {b r : Nat} (hb : w'.heap[b]? = w.heap[b]?) (hr : w'.heap[r]? = w.heap[r]?) : w'.rangeLeft b r = w.rangeLeft b r := by
  simp only [World.rangeLeft, hb, hr]
section
variable {w : World} {ops : Array Oper} {rest : List Oper} {o : Oper} {a : Act} {Q : Exit → Act → World → Prop}
theorem wpList_rng (hg : o.guard = none) (m : Operand) (hop : o.op = Op.range 59 m) {b : Nat} {E : List (ByteArray × Value)} (hm : a.eval m = .map (some b)) (h : MpI w b E)
    (hK : ∀ w', Rg w' b w.heap.size E [] → Below w.heap.size w w' → wpList Tryd.prog ops Q rest (a.put o.dst (.pointer (some ⟨w.heap.size, 0, none⟩))) w') :
    wpList Tryd.prog ops Q (o :: rest) a w := by
  refine wpList_plain hg fun K' hK' => ?_
  obtain ⟨ob, hrun, h1⟩ := run_rng h
  unfold Oper.wp
  simp [execOp, hop, hm, hrun, Result.andThen]
  exact hK' _ _ (hK _ h1 ((Below.refl _ _).alloc (Nat.le_refl _) _))
theorem wpList_nxt (hg : o.guard = none) (it : Operand) (hop : o.op = Op.next it false) {b r : Nat} {E : List (ByteArray × Value)} {pre : List ByteArray} (hit : a.eval it = .pointer (some ⟨r, 0, none⟩)) (h : Rg w b r E pre)
    (hD : pre.Perm (E.map (·.1)) → wpList Tryd.prog ops Q rest (a.put o.dst (.tuple #[.bool false])) w)
    (hM : ∀ s v w', (s, v) ∈ E → s ∉ pre → Rg w' b r E (pre ++ [s]) → But (fun k => k = r) w w' → w'.heap.size = w.heap.size → w'.rangeLeft b r < w.rangeLeft b r → (Instr.entry (.pointer (some ⟨r, 0, none⟩))).run Tryd.prog w' = .ok (.tuple #[labV s, v]) w' →
      wpList Tryd.prog ops Q rest (a.put o.dst (.tuple #[.bool true, labV s, v])) w') :
    wpList Tryd.prog ops Q (o :: rest) a w := by
  refine wpList_plain hg fun K' hK' => ?_
  unfold Oper.wp
  rcases run_nxt h o.type with ⟨h0, hrun⟩ | ⟨s, v, w', h1, h2, hrun, h3, h4, h5, h6, h7⟩
  · simp [execOp, hop, hit, hrun, Result.andThen]
    exact hK' _ _ (hD h0)
  · simp [execOp, hop, hit, hrun, Result.andThen]
    exact hK' _ _ (hM s v w' h1 h2 h3 h4 h5 h6 h7)
end
end Go.Proofs.YtkfcilandmhomaaDoor
