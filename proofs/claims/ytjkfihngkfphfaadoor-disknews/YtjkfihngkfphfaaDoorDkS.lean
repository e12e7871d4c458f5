import Derived.Test.YtjkfihngkfphfaaDoorDkB
import Derived.Test.YtjkfihngkfphfaaDoorDkR
import Derived.Maps.Range
namespace Go.Proofs.YtjkfihngkfphfaaDoor
open Go.RowKit
open Go.ChangeMaps (setBlock)
set_option maxRecDepth 8000
/-- a range over a map, under way: pre: the names that have come -/
def Rg (w : World) (b r : Nat) (E : List (ByteArray × Value)) (pre : List ByteArray) : Prop :=
  ∃ es clock since seen c0, w.heap[b]? = some (.map es clock) ∧ MpE es clock E ∧ w.heap[r]? = some (.mapIter (some b) since seen c0) ∧ (∀ x ∈ es.toList, x.born < since) ∧ since ≤ c0 ∧ since ≤ clock ∧
    (∀ e ∈ es.toList, (seen.contains e.born = true ↔ ∃ s ∈ pre, labV s = e.key)) ∧ pre.Nodup ∧ ∀ s ∈ pre, s ∈ E.map (·.1)
theorem Rg.ne {w : World} {b r : Nat} {E : List (ByteArray × Value)} {pre : List ByteArray} (h : Rg w b r E pre) : r ≠ b := by
  obtain ⟨es, ck, si, se, c0, h1, _, h2, _⟩ := h
  rintro rfl
  rw [h1] at h2
  cases h2
theorem Rg.kept {w w' : World} {b r : Nat} {E : List (ByteArray × Value)} {pre : List ByteArray} (h : Rg w b r E pre) (hb : w'.heap[b]? = w.heap[b]?) (hr : w'.heap[r]? = w.heap[r]?) : Rg w' b r E pre := by
  obtain ⟨es, ck, si, se, c0, h1, h2, h3, h4⟩ := h
  exact ⟨es, ck, si, se, c0, hb.trans h1, h2, hr.trans h3, h4⟩
theorem Rg.itr {w : World} {b r : Nat} {E : List (ByteArray × Value)} {pre : List ByteArray} (h : Rg w b r E pre) : ∃ o, w.heap[r]? = some o ∧ okI o := by
  obtain ⟨es, ck, si, se, c0, _, _, h3, _⟩ := h
  exact ⟨_, h3, _, _, _, _, rfl⟩
theorem Rg.map {w : World} {b r : Nat} {E : List (ByteArray × Value)} {pre : List ByteArray} (h : Rg w b r E pre) : MpI w b E := by
  obtain ⟨es, ck, si, se, c0, h1, h2, _⟩ := h
  exact ⟨es, ck, h1, h2⟩
/-- the range begins -/
theorem run_rng {w : World} {b : Nat} {E : List (ByteArray × Value)} (h : MpI w b E) :
    ∃ o, (Instr.range 52 (.map (some b))).run Tryd.prog w = .ok (.pointer (some ⟨w.heap.size, 0, none⟩)) (w.alloc o) ∧ Rg (w.alloc o) b w.heap.size E [] := by
  have hlt := h.lt
  obtain ⟨es, ck, hb, hE⟩ := h
  refine ⟨_, run_range_map w 52 50 51 b es ck Tryd.underlying52 hb, es, ck, ck, #[], ck, (Below.heap_alloc _ _ _ hlt).trans hb, hE, World.alloc_heap_new w _, hE.st.1, Nat.le_refl _, Nat.le_refl _, fun e _ => by simp, List.nodup_nil, fun s hs => by cases hs⟩
/-- the next one -/
theorem run_nxt {w : World} {b r : Nat} {E : List (ByteArray × Value)} {pre : List ByteArray} (h : Rg w b r E pre) (ty : TypeId) :
    (pre.Perm (E.map (·.1)) ∧ (Instr.next (.pointer (some ⟨r, 0, none⟩)) false ty).run Tryd.prog w = .ok (.tuple #[.bool false]) w) ∨
    ∃ s v w', (s, v) ∈ E ∧ s ∉ pre ∧ (Instr.next (.pointer (some ⟨r, 0, none⟩)) false ty).run Tryd.prog w = .ok (.tuple #[.bool true, labV s, v]) w' ∧ Rg w' b r E (pre ++ [s]) ∧ But (fun k => k = r) w w' ∧ w'.heap.size = w.heap.size ∧ w'.rangeLeft b r < w.rangeLeft b r ∧
      (Instr.entry (.pointer (some ⟨r, 0, none⟩))).run Tryd.prog w' = .ok (.tuple #[labV s, v]) w' := by
  have hne := h.ne
  obtain ⟨es, ck, si, seen, c0, hb, hE, hr, hold, hsc, hsk, hsn, hnd, hsub⟩ := h
  rcases run_next_at (P := Tryd.prog) w ty r b si c0 seen es ck hr hb hold hsc with ⟨h0, hrun⟩ | ⟨e, he, w1, hal, hrun⟩
  · refine .inl ⟨(List.perm_ext_iff_of_nodup hnd hE.nodup).2 fun s => ⟨hsub s, fun hs => ?_⟩, hrun⟩
    obtain ⟨p, hp, rfl⟩ := List.mem_map.1 hs
    have h1 : (labV p.1, p.2) ∈ E.map (fun p => (labV p.1, p.2)) := List.mem_map.2 ⟨p, hp, rfl⟩
    rw [← hE.eq] at h1
    obtain ⟨x, hx, hxe⟩ := List.mem_map.1 h1
    obtain ⟨s, hs1, hs2⟩ := (hsn x hx).1 (all_seen es seen h0 x hx)
    obtain ⟨p', hp', e'⟩ := List.mem_map.1 (hsub s hs1)
    have : s = p.1 := lab_eq (by have := hE.nm p' hp'; rw [e'] at this; exact this) (hE.nm p hp) (hs2.trans (Prod.mk.inj hxe).1)
    rw [← this]; exact hs1
  · obtain ⟨hem, hes⟩ := mem_left he
    have h1 : (e.key, e.val) ∈ es.toList.map (fun e => (e.key, e.val)) := List.mem_map.2 ⟨e, hem, rfl⟩
    rw [hE.eq] at h1
    obtain ⟨p, hp, hpe⟩ := List.mem_map.1 h1
    have hk : e.key = labV p.1 := (Prod.mk.inj hpe).1.symm
    have hv : e.val = p.2 := (Prod.mk.inj hpe).2.symm
    have hr1 : w1.heap[r]? = some (.mapIter (some b) si seen c0) := by rcases hal with rfl | rfl <;> exact hr
    have hb1 : w1.heap[b]? = some (.map es ck) := by rcases hal with rfl | rfl <;> exact hb
    have hrl : r < w1.heap.size := (Array.getElem?_eq_some_iff.1 hr1).1
    have hbw : But (fun k => k = r) w w1 := by rcases hal with rfl | rfl; exact But.refl _ _; exact (But.refl _ _).drew
    have hset := setBlock_at (w := w1) (.mapIter (some b) si (seen.push e.born) ck) hrl
    have hb' : (setBlock w1 r (.mapIter (some b) si (seen.push e.born) ck)).heap[b]? = some (.map es ck) := ((But.block1 _).block b (Array.getElem?_eq_some_iff.1 hb1).1 (fun e => hne e.symm)).trans hb1
    have hnp : p.1 ∉ pre := fun hm => by
      have := (hsn e hem).2 ⟨p.1, hm, hk.symm⟩
      rw [hes] at this; cases this
    refine .inr ⟨p.1, p.2, _, hp, hnp, ?_, ⟨es, ck, si, seen.push e.born, ck, hb', hE, hset, hold, hsk, hsk, fun x hx => ?_, ?_, fun s hs => ?_⟩, hbw.trans (But.block1 _), ?_, ?_, ?_⟩
    · rw [hrun, hk, hv]
    · rw [contains_push, Bool.or_eq_true, hsn x hx]
      constructor
      · rintro (⟨s, h1, h2⟩ | h1)
        · exact ⟨s, List.mem_append_left _ h1, h2⟩
        · have : x = e := born_inj hE.st.2.1 hx hem (by simpa using h1)
          exact ⟨p.1, by simp, by rw [this]; exact hk.symm⟩
      · rintro ⟨s, h1, h2⟩
        rcases List.mem_append.1 h1 with h1 | h1
        · exact .inl ⟨s, h1, h2⟩
        · right
          obtain rfl : s = p.1 := by simpa using h1
          have hst := (MapKept.stamped_iff es ck).1 hE.st
          have : x = e := entry_eq_of_key hst.2.2 hx hem (by rw [← h2, hk])
          rw [this]; simp
    · rw [List.nodup_append]
      exact ⟨hnd, by simp, fun a ha b hb e => hnp (by simp at hb; rw [← hb, ← e]; exact ha)⟩
    · rcases List.mem_append.1 hs with h1 | h1
      · exact hsub s h1
      · obtain rfl : s = p.1 := by simpa using h1
        exact List.mem_map.2 ⟨p, hp, rfl⟩
    · rcases hal with rfl | rfl <;> simp [setBlock]
    · have h1 : (setBlock w1 r (.mapIter (some b) si (seen.push e.born) ck)).rangeLeft b r = (leftOf es (seen.push e.born)).size := by simp only [World.rangeLeft, hb', hset]
      have h2 : w.rangeLeft b r = (leftOf es seen).size := by simp only [World.rangeLeft, hb, hr]
      rw [h1, h2]
      exact left_shrinks es seen e he
    · have := run_entry_at (P := Tryd.prog) _ r b si seen es ck e hset hb' hem ((MapKept.stamped_iff es ck).1 hE.st).2.1
      rw [this, hk, hv]
theorem rangeLeft_kept {w w' : World} {b r : Nat} (hb : w'.heap[b]? = w.heap[b]?) (hr : w'.heap[r]? = w.heap[r]?) : w'.rangeLeft b r = w.rangeLeft b r := by
  simp only [World.rangeLeft, hb, hr]
section
variable {w : World} {ops : Array Oper} {rest : List Oper} {o : Oper} {a : Act} {Q : Exit → Act → World → Prop}
theorem wpList_rng (hg : o.guard = none) (m : Operand) (hop : o.op = Op.range 52 m) {b : Nat} {E : List (ByteArray × Value)} (hm : a.eval m = .map (some b)) (h : MpI w b E)
    (hK : ∀ w', Rg w' b w.heap.size E [] → Below w.heap.size w w' → wpList Tryd.prog ops Q rest (a.put o.dst (.pointer (some ⟨w.heap.size, 0, none⟩))) w') :
    wpList Tryd.prog ops Q (o :: rest) a w := by
  refine wpList_plain hg fun K' hK' => ?_
  obtain ⟨ob, hrun, h1⟩ := run_rng h
  unfold Oper.wp
  simp [execOp, hop, hm, hrun, Result.andThen]
  exact hK' _ _ (hK _ h1 ((Below.refl _ _).alloc (Nat.le_refl _) _))
theorem wpList_nxt (hg : o.guard = none) (it : Operand) (hop : o.op = Op.next it false) {b r : Nat} {E : List (ByteArray × Value)} {pre : List ByteArray} (hit : a.eval it = .pointer (some ⟨r, 0, none⟩)) (h : Rg w b r E pre)
    (hD : pre.Perm (E.map (·.1)) → wpList Tryd.prog ops Q rest (a.put o.dst (.tuple #[.bool false])) w)
    (hM : ∀ s v w', (s, v) ∈ E → s ∉ pre → Rg w' b r E (pre ++ [s]) → But (fun k => k = r) w w' → w'.heap.size = w.heap.size → w'.rangeLeft b r < w.rangeLeft b r → (Instr.entry (.pointer (some ⟨r, 0, none⟩))).run Tryd.prog w' = .ok (.tuple #[labV s, v]) w' →
      wpList Tryd.prog ops Q rest (a.put o.dst (.tuple #[.bool true, labV s, v])) w') :
    wpList Tryd.prog ops Q (o :: rest) a w := by
  refine wpList_plain hg fun K' hK' => ?_
  unfold Oper.wp
  rcases run_nxt h o.type with ⟨h0, hrun⟩ | ⟨s, v, w', h1, h2, hrun, h3, h4, h5, h6, h7⟩
  · simp [execOp, hop, hit, hrun, Result.andThen]
    exact hK' _ _ (hD h0)
  · simp [execOp, hop, hit, hrun, Result.andThen]
    exact hK' _ _ (hM s v w' h1 h2 h3 h4 h5 h6 h7)
end
end Go.Proofs.YtjkfihngkfphfaaDoor
