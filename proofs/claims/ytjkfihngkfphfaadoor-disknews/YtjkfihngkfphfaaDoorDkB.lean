import Derived.Test.YtjkfihngkfphfaaDoorDkA
import Derived.WideKeyElems
import Derived.Maps.RangeRun
namespace Go.Proofs.YtjkfihngkfphfaaDoor
open Go.RowKit
open Go.ChangeMaps (setBlock)
set_option maxRecDepth 8000
/-- what the entries of a map tell: names and what stands at them -/
structure MpE (es : Array MapEntry) (clock : Nat) (E : List (ByteArray × Value)) : Prop where
  st : MapKept.Stamped es clock
  eq : es.toList.map (fun e => (e.key, e.val)) = E.map (fun p => (labV p.1, p.2))
  nm : ∀ p ∈ E, Nm p.1
/-- a map in memory -/
def MpI (w : World) (b : Nat) (E : List (ByteArray × Value)) : Prop := ∃ es clock, w.heap[b]? = some (.map es clock) ∧ MpE es clock E
theorem MpI.lt {w : World} {b : Nat} {E : List (ByteArray × Value)} (h : MpI w b E) : b < w.heap.size := by
  obtain ⟨es, c, h, _⟩ := h
  exact (Array.getElem?_eq_some_iff.1 h).1
theorem MpI.kept {w w' : World} {b : Nat} {E : List (ByteArray × Value)} (h : MpI w b E) (hb : w'.heap[b]? = w.heap[b]?) : MpI w' b E := by
  obtain ⟨es, c, h, hE⟩ := h
  exact ⟨es, c, hb.trans h, hE⟩
theorem MpE.keys {es : Array MapEntry} {c : Nat} {E : List (ByteArray × Value)} (h : MpE es c E) : ∀ e ∈ es.toList, ∃ l, keyOf Tryd.prog 50 e.key = some l := fun e he => by
  have h1 : (e.key, e.val) ∈ es.toList.map (fun e => (e.key, e.val)) := List.mem_map.2 ⟨e, he, rfl⟩
  rw [h.eq] at h1
  obtain ⟨p, _, hp⟩ := List.mem_map.1 h1
  rw [← (Prod.mk.inj hp).1]
  exact lab_key _
theorem MpE.nodup {es : Array MapEntry} {c : Nat} {E : List (ByteArray × Value)} (h : MpE es c E) : (E.map (·.1)).Nodup := by
  have h1 := h.st.2.2
  have h2 : es.toList.map (·.key) = E.map (fun p => labV p.1) := by
    have := congrArg (List.map Prod.fst) h.eq
    simpa [List.map_map, Function.comp_def] using this
  rw [h2] at h1
  have h3 : (E.map (fun p => labV p.1)) = (E.map (·.1)).map labV := by simp [List.map_map, Function.comp_def]
  rw [h3] at h1
  exact (List.pairwise_map.1 h1).imp fun hne e => hne (congrArg labV e)
theorem MpE.size {es : Array MapEntry} {c : Nat} {E : List (ByteArray × Value)} (h : MpE es c E) : es.size = E.length := by
  have := congrArg List.length h.eq
  simpa using this
/-- what stands at a name -/
def lk (E : List (ByteArray × Value)) (s : ByteArray) : Option Value := (E.find? (fun p => decide (p.1 = s))).map (·.2)
theorem lk_none {E : List (ByteArray × Value)} {s : ByteArray} : lk E s = none ↔ ∀ p ∈ E, p.1 ≠ s := by
  simp [lk, List.find?_eq_none]
theorem lk_some {E : List (ByteArray × Value)} (hn : (E.map (·.1)).Nodup) {s : ByteArray} {v : Value} : lk E s = some v ↔ (s, v) ∈ E := by
  induction E with
  | nil => simp [lk]
  | cons p E ih =>
    simp only [List.map_cons, List.nodup_cons] at hn
    by_cases h : p.1 = s
    · simp only [lk, List.find?_cons, h, decide_true, Option.map_some, Option.some.injEq, List.mem_cons]
      constructor
      · intro e; left; rw [← h, ← e]
      · rintro (e | e)
        · rw [← e]
        · exact absurd (List.mem_map.2 ⟨(s, v), e, rfl⟩) (h ▸ hn.1)
    · have : lk (p :: E) s = lk E s := by simp [lk, h]
      rw [this, ih hn.2, List.mem_cons]
      constructor
      · exact .inr
      · rintro (e | e)
        · exact absurd (by rw [← e]) h
        · exact e
theorem MpE.find {es : Array MapEntry} {c : Nat} {E : List (ByteArray × Value)} (h : MpE es c E) (w : World) {s : ByteArray} (hs : Nm s) :
    ((Instr.findKey 50 (labV s) es.toList).run Tryd.prog w = .ok none w ∧ (∀ e ∈ es.toList, e.key ≠ labV s) ∧ lk E s = none) ∨
    ∃ j e0, (Instr.findKey 50 (labV s) es.toList).run Tryd.prog w = .ok (some (j, e0.val)) w ∧ es.toList[j]? = some e0 ∧ e0.key = labV s ∧ E[j]? = some (s, e0.val) ∧ lk E s = some e0.val := by
  obtain ⟨l, hl⟩ := lab_key s
  rcases labLaw.find w hl es.toList h.keys with ⟨h1, h2⟩ | ⟨j, e0, h1, h2, h3⟩
  · refine .inl ⟨h1, h2, lk_none.2 fun p hp e => ?_⟩
    have h4 : (labV p.1, p.2) ∈ E.map (fun p => (labV p.1, p.2)) := List.mem_map.2 ⟨p, hp, rfl⟩
    rw [← h.eq] at h4
    obtain ⟨x, hx, hxe⟩ := List.mem_map.1 h4
    exact h2 x hx (by rw [(Prod.mk.inj hxe).1, e])
  · have h4 : (es.toList.map (fun e => (e.key, e.val)))[j]? = some (labV s, e0.val) := by rw [List.getElem?_map, h2, Option.map_some, h3]
    rw [h.eq, List.getElem?_map] at h4
    obtain ⟨p, hp, hpe⟩ := Option.map_eq_some_iff.1 h4
    have hpm := List.mem_of_getElem? hp
    have e1 : p.1 = s := lab_eq (h.nm p hpm) hs (Prod.mk.inj hpe).1
    have e2 : p = (s, e0.val) := Prod.ext e1 (Prod.mk.inj hpe).2
    exact .inr ⟨j, e0, h1, h2, h3, by rw [hp, e2], (lk_some h.nodup).2 (e2 ▸ hpm)⟩
theorem run_look {w : World} {b : Nat} {E : List (ByteArray × Value)} (h : MpI w b E) {s : ByteArray} (hs : Nm s) (c : Bool) :
    (Instr.lookup 52 (.map (some b)) (labV s) c).run Tryd.prog w = .ok (if c = true then .tuple #[(lk E s).getD (.pointer none), .bool (lk E s).isSome] else (lk E s).getD (.pointer none)) w := by
  obtain ⟨es, ck, hb, hE⟩ := h
  obtain ⟨l, hl⟩ := lab_key s
  rcases hE.find w hs with ⟨h1, _, h3⟩ | ⟨j, e0, h1, _, _, _, h3⟩
  · simp [Instr.lookup, run_underlying Tryd.underlying52, MapKept.run_getObj_map hb, labLaw.check w _ hl, h1, Result.andThen, h3]
  · simp [Instr.lookup, run_underlying Tryd.underlying52, MapKept.run_getObj_map hb, labLaw.check w _ hl, h1, Result.andThen, h3]
/-- what a change of one block leaves -/
theorem But.block1 {w : World} {b : Nat} (o : Obj) : But (fun k => k = b) w (setBlock w b o) := by
  refine ⟨rfl, rfl, rfl, by simp [setBlock], fun k _ hx => ?_⟩
  show (setBlock w b o).heap[k]? = _
  have hne : k ≠ b := hx
  simp only [setBlock]
  rw [Array.getElem?_setIfInBounds_ne (fun e => hne e.symm)]
theorem setBlock_at {w : World} {b : Nat} (o : Obj) (hb : b < w.heap.size) : (setBlock w b o).heap[b]? = some o := by
  simp [setBlock, hb]
/-- a name that was not there -/
theorem run_updNew {w : World} {b : Nat} {E : List (ByteArray × Value)} (h : MpI w b E) {s : ByteArray} (hs : Nm s) (v : Value) (hn : lk E s = none) :
    ∃ o, (Instr.mapUpdate 52 (.map (some b)) (labV s) v).run Tryd.prog w = .ok () (setBlock w b o) ∧ MpI (setBlock w b o) b (E ++ [(s, v)]) := by
  have hlt := h.lt
  obtain ⟨es, ck, hb, hE⟩ := h
  obtain ⟨l, hl⟩ := lab_key s
  rcases hE.find w hs with ⟨h1, h2, h3⟩ | ⟨j, e0, h1, _, _, _, h3⟩
  · refine ⟨.map (es.push ⟨labV s, v, ck⟩) (ck + 1), ?_, es.push ⟨labV s, v, ck⟩, ck + 1, setBlock_at _ hlt, MapKept.stamped_push hE.st h2, ?_, fun p hp => ?_⟩
    · simp [Instr.mapUpdate, run_underlying Tryd.underlying52, MapKept.run_getObj_map hb, labLaw.check w false hl, h1, MapKept.run_setObj_map _ hb, Result.andThen, setBlock]
    · simp [hE.eq]
    · simp only [List.mem_append, List.mem_singleton] at hp
      rcases hp with hp | rfl
      · exact hE.nm p hp
      · exact hs
  · rw [hn] at h3; cases h3
/-- what was there already, laid again -/
theorem run_updSame {w : World} {b : Nat} {E : List (ByteArray × Value)} (h : MpI w b E) {s : ByteArray} (hs : Nm s) (v : Value) (hn : lk E s = some v) :
    ∃ o, (Instr.mapUpdate 52 (.map (some b)) (labV s) v).run Tryd.prog w = .ok () (setBlock w b o) ∧ MpI (setBlock w b o) b E := by
  have hlt := h.lt
  obtain ⟨es, ck, hb, hE⟩ := h
  obtain ⟨l, hl⟩ := lab_key s
  rcases hE.find w hs with ⟨h1, h2, h3⟩ | ⟨j, e0, h1, h2, h3, h4, h5⟩
  · rw [hn] at h3; cases h3
  · have hv : e0.val = v := by rw [hn] at h5; exact (Option.some.inj h5).symm
    have hj : es[j]? = some e0 := by simpa using h2
    have hid : (es.modify j fun e' => { e' with key := labV s, val := v }) = es := by
      apply Array.ext_getElem?
      intro i
      rw [Array.getElem?_modify]
      by_cases hij : j = i
      · subst hij
        rw [if_pos rfl, hj, Option.map_some, ← h3, ← hv]
      · rw [if_neg hij]
    refine ⟨.map (es.modify j fun e' => { e' with key := labV s, val := v }) ck, ?_, es, ck, ?_, hE⟩
    · simp [Instr.mapUpdate, run_underlying Tryd.underlying52, MapKept.run_getObj_map hb, labLaw.check w false hl, h1, hj, h3, labLaw.stays w hl, MapKept.run_setObj_map _ hb, Result.andThen, setBlock]
    · rw [hid]; exact setBlock_at _ hlt
theorem er_map2 {α β : Type} (f : α → β) : ∀ (l : List α) (i : Nat), (l.map f).eraseIdx i = (l.eraseIdx i).map f
  | [], _ => rfl
  | _ :: _, 0 => rfl
  | a :: l, i + 1 => by
    show f a :: (l.map f).eraseIdx i = f a :: (l.eraseIdx i).map f
    rw [er_map2 f l i]
theorem run_del {w : World} {b : Nat} {E : List (ByteArray × Value)} (h : MpI w b E) {s : ByteArray} (hs : Nm s) (ty : TypeId) :
    ∃ o, (Builtin.delete_ #[52, 50] ty #[.map (some b), labV s]).run Tryd.prog w = .ok (.tuple #[]) (setBlock w b o) ∧ MpI (setBlock w b o) b (E.filter fun p => !decide (p.1 = s)) := by
  have hlt := h.lt
  obtain ⟨es, ck, hb, hE⟩ := h
  obtain ⟨l, hl⟩ := lab_key s
  rcases hE.find w hs with ⟨h1, h2, h3⟩ | ⟨j, e0, h1, h2, h3, h4, h5⟩
  · refine ⟨.map es ck, ?_, es, ck, setBlock_at _ hlt, ?_⟩
    · simp [Builtin.delete_, run_underlying Tryd.underlying52, MapKept.run_getObj_map hb, labLaw.check w _ hl, h1, MapKept.run_setObj_map _ hb, Result.andThen, setBlock]
    · have : (E.filter fun p => !decide (p.1 = s)) = E := List.filter_eq_self.2 fun p hp => by simpa using lk_none.1 h3 p hp
      rw [this]; exact hE
  · have hjl : j < es.toList.length := (List.getElem?_eq_some_iff.1 h2).1
    have hjs : j < es.size := by simpa using hjl
    have hsub : (es.eraseIdxIfInBounds j).toList = es.toList.eraseIdx j := by
      unfold Array.eraseIdxIfInBounds
      rw [dif_pos hjs]
      simp
    have hnd := hE.nodup
    have hfil : (E.filter fun p => !decide (p.1 = s)) = E.eraseIdx j := by
      clear h1 h2 h3 hjl hjs hsub
      have key : ∀ (E : List (ByteArray × Value)) (j : Nat), (E.map (·.1)).Nodup → E[j]? = some (s, e0.val) → (E.filter fun p => !decide (p.1 = s)) = E.eraseIdx j := by
        intro E
        induction E with
        | nil => intro j _ h; simp at h
        | cons p E ih =>
          intro j hn hj
          simp only [List.map_cons, List.nodup_cons] at hn
          cases j with
          | zero =>
            simp only [List.getElem?_cons_zero, Option.some.injEq] at hj
            subst hj
            rw [List.filter_cons_of_neg (by simp), List.eraseIdx_cons_zero]
            refine List.filter_eq_self.2 fun p hp => ?_
            simp only [Bool.not_eq_true', decide_eq_false_iff_not]
            intro e
            exact hn.1 (List.mem_map.2 ⟨p, hp, e⟩)
          | succ j =>
            simp only [List.getElem?_cons_succ] at hj
            have hne : p.1 ≠ s := fun e => hn.1 (List.mem_map.2 ⟨(s, e0.val), List.mem_of_getElem? hj, e.symm⟩)
            rw [List.filter_cons_of_pos (by simpa using hne), List.eraseIdx_cons_succ, ih j hn.2 hj]
      exact key E j hnd h4
    refine ⟨.map (es.eraseIdxIfInBounds j) ck, ?_, es.eraseIdxIfInBounds j, ck, setBlock_at _ hlt, MapKept.stamped_erase hE.st j, ?_, fun p hp => hE.nm p (List.mem_filter.1 hp).1⟩
    · simp [Builtin.delete_, run_underlying Tryd.underlying52, MapKept.run_getObj_map hb, labLaw.check w _ hl, h1, MapKept.run_setObj_map _ hb, Result.andThen, setBlock]
    · rw [hsub, hfil, ← er_map2, ← er_map2, hE.eq]
theorem run_mlen {w : World} {b : Nat} {E : List (ByteArray × Value)} (h : MpI w b E) (ty : TypeId) : (Builtin.len_ #[52] ty #[.map (some b)]).run Tryd.prog w = .ok (.int .i64 (E.length : Int)) w := by
  obtain ⟨es, ck, hb, hE⟩ := h
  simp [Builtin.len_, run_underlying Tryd.underlying52, MapKept.run_getObj_map hb, Result.andThen, ← hE.size]
  rfl
end Go.Proofs.YtjkfihngkfphfaaDoor
