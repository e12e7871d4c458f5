import Derived.Test.YtbcnlfbclgkeiaaLstG
import Derived.Conc.LoneCalls
import Derived.Conc.LoneSelect
import Derived.Conc.LoneSelectN
namespace Go.Proofs.Ytbcnlfbclgkeiaa
open Go.RowKit Go.Conc
set_option maxRecDepth 8000
section
variable {P : Program} {ops : Array Oper} {Q : Exit → Act → World → Prop} {a : Act} {w : World}
/-- a communication, whatever the frame's kind -/
theorem stepG_comm' {b : Frame} {k : List Item} {cs : List Frame} {i : Nat} {rest : List Nat} {o : Oper} {cases : Array CommCase} {blocking : Bool} {shape : CommShape} {w' : World} (ho : ops[i]? = some o) (hw : Region.wanted o (yielded ops a.tmps) = true)
    (hr : (execOp a.eval o).run P w = .ok (.comm cases blocking shape) w') :
    ∃ es, stepG P true (G (b.at a (.inRegion ops (i :: rest) :: k)) cs) w = .comm (G (b.at a (.inRegion ops (i :: rest) :: k)) cs) cases blocking shape w' es := by
  rw [stepG_oper ho hw]
  simp [stepG.apply, hr, G, Frame.at, GStep.after]
/-- what is left of a region does this -/
def OpsDo (P : Program) (ops : Array Oper) (Q : Exit → Act → World → Prop) (l : List Nat) (a : Act) (w : World) : Prop :=
  ∀ (b : Frame) (k : List Item) (cs : List Frame), ∃ e a' w', Q e a' w' ∧ Arrives P (lone (b.at a (.inRegion ops l :: k)) cs w) b k cs e a' w'
theorem opsDo_region {id : Nat} (h : OpsDo P ops Q (List.range ops.size) a w) : (Code.region id ops false).wp P Q a w :=
  fun b k cs => let ⟨e, a', w', q, r⟩ := h b k cs; ⟨e, a', w', q, .of_steps (.one step_region) r⟩
theorem opsDo_value {i : Nat} {rest : List Nat} {o : Oper} {v : Value} {w' : World} (ho : ops[i]? = some o) (hw : Region.wanted o (yielded ops a.tmps) = true) (hr : (execOp a.eval o).run P w = .ok (.value v) w')
    (h : OpsDo P ops Q rest (a.put o.dst v) w') : OpsDo P ops Q (i :: rest) a w := fun b k cs => by
  obtain ⟨e, a', w2, hq, harr⟩ := h b k cs
  refine ⟨e, a', w2, hq, .of_steps (.one (step_lone_go ?_)) harr⟩
  have hfin : (b.at a (.inRegion ops (i :: rest) :: k)).finish v = b.at (a.put o.dst v) (.inRegion ops rest :: k) := by rw [Frame.finish_at, ho]; rfl
  rw [stepG_op ho hw, ← hfin]; simp [stepG.apply, hr]
theorem opsDo_comm {i : Nat} {rest : List Nat} {o : Oper} {cases : Array CommCase} {blocking : Bool} {shape : CommShape} {w1 w2 : World} {v : Value} (ho : ops[i]? = some o) (hw : Region.wanted o (yielded ops a.tmps) = true)
    (hr : (execOp a.eval o).run P w = .ok (.comm cases blocking shape) w1)
    (hst : ∀ (fr : Frame) (cs : List Frame) (es : Array Event), stepG P true (G fr cs) w = .comm (G fr cs) cases blocking shape w1 es → step P (solo (G fr cs) w) = .next (solo (G (fr.finish v) cs) w2))
    (h : OpsDo P ops Q rest (a.put o.dst v) w2) : OpsDo P ops Q (i :: rest) a w := fun b k cs => by
  obtain ⟨e, a', w', hq, harr⟩ := h b k cs
  obtain ⟨es, hg⟩ := stepG_comm' (P := P) (b := b) (k := k) (cs := cs) (rest := rest) ho hw hr
  have hfin : (b.at a (.inRegion ops (i :: rest) :: k)).finish v = b.at (a.put o.dst v) (.inRegion ops rest :: k) := by rw [Frame.finish_at, ho]; rfl
  have hs := hst _ _ _ hg
  rw [hfin] at hs
  exact ⟨e, a', w', hq, .of_steps (.one hs) harr⟩
theorem opsDo_list {l : List Oper} {k : Nat} {idx : List Nat} (hi : idx = List.range' k l.length) (hl : ∀ j, l[j]? = ops[k + j]?) (h : wpList P ops Q l a w) : OpsDo P ops Q idx a w := by
  subst hi
  rw [← wpOps_eq_wpList l k hl] at h
  exact wp_ops _ a w h
end
section
variable {P : Program} {Q : Exit → Act → World → Prop} {a : Act} {w w1 w2 : World} {id : Nat} {o o0 o1 : Oper} {rest : List Oper} {cases : Array CommCase} {blocking : Bool} {shape : CommShape} {v v0 v1 : Value}
/-- a region whose first operation is a communication -/
theorem wp_comm1 (hg : o.guard = none) (hr : (execOp a.eval o).run P w = .ok (.comm cases blocking shape) w1)
    (hst : ∀ (fr : Frame) (cs : List Frame) (es : Array Event), stepG P true (G fr cs) w = .comm (G fr cs) cases blocking shape w1 es → step P (solo (G fr cs) w) = .next (solo (G (fr.finish v) cs) w2))
    (h : wpList P (o :: rest).toArray Q rest (a.put o.dst v) w2) : (Code.region id (o :: rest).toArray false).wp P Q a w := by
  refine opsDo_region ?_
  rw [show List.range ((o :: rest).toArray.size) = 0 :: List.range' 1 rest.length by rw [List.size_toArray, List.length_cons, List.range_eq_range', List.range'_succ]]
  refine opsDo_comm (o := o) rfl (by simp [Region.wanted, hg]) hr hst ?_
  exact opsDo_list rfl (fun j => by simp [Nat.add_comm 1 j]) h
/-- a region of two operations and a communication -/
theorem wp_comm3 (hg0 : o0.guard = none) (hg1 : o1.guard = none) (hg : o.guard = none) (hr0 : (execOp a.eval o0).run P w = .ok (.value v0) w) (hr1 : (execOp (a.put o0.dst v0).eval o1).run P w = .ok (.value v1) w)
    (hr : (execOp ((a.put o0.dst v0).put o1.dst v1).eval o).run P w = .ok (.comm cases blocking shape) w1)
    (hst : ∀ (fr : Frame) (cs : List Frame) (es : Array Event), stepG P true (G fr cs) w = .comm (G fr cs) cases blocking shape w1 es → step P (solo (G fr cs) w) = .next (solo (G (fr.finish v) cs) w2))
    (h : Q .normal (((a.put o0.dst v0).put o1.dst v1).put o.dst v) w2) : (Code.region id [o0, o1, o].toArray false).wp P Q a w := by
  refine opsDo_region ?_
  show OpsDo P _ Q [0, 1, 2] a w
  refine opsDo_value (o := o0) rfl (by simp [Region.wanted, hg0]) hr0 ?_
  refine opsDo_value (o := o1) rfl (by simp [Region.wanted, hg1]) hr1 ?_
  refine opsDo_comm (o := o) rfl (by simp [Region.wanted, hg]) hr hst ?_
  exact opsDo_list (k := 3) (l := []) rfl (fun j => by simp) h
end
section
variable {P : Program} {fr : Frame} {cs : List Frame} {w w₁ : World} {es : Array Event} {c cap s r : Nat} {x z v : Value} {L : List Value} {tm closed : Bool}
theorem sel_recv (h : stepG P true (G fr cs) w = .comm (G fr cs) #[rcase c z] false .select w₁ es) (hc : w₁.heap[c]? = some (.chan cap (x :: L).toArray closed s r tm)) :
    step P (solo (G fr cs) w) = .next (solo (G (fr.finish (.tuple #[goInt 0, .bool true, x])) cs) (w₁.setChan c cap L.toArray closed s (r + 1) tm)) := by
  have := step_lone_select_recv_buf h hc (by simp)
  rw [this, show (x :: L).toArray.getD 0 undef = x by simp, show (x :: L).toArray.extract 1 (x :: L).toArray.size = L.toArray by simp]
theorem sel_send (h : stepG P true (G fr cs) w = .comm (G fr cs) #[scase c v z] false .select w₁ es) (hc : w₁.heap[c]? = some (.chan cap L.toArray false s r tm)) (hroom : L.length < cap) :
    step P (solo (G fr cs) w) = .next (solo (G (fr.finish (.tuple #[goInt 0, .bool false])) cs) (w₁.setChan c cap (L ++ [v]).toArray false (s + 1) r tm)) := by
  have := step_lone_select_send_room h hc (by simpa using hroom)
  rw [this, show L.toArray.push v = (L ++ [v]).toArray by simp]
theorem sel_full (h : stepG P true (G fr cs) w = .comm (G fr cs) #[scase c v z] false .select w₁ es) (hc : w₁.heap[c]? = some (.chan cap L.toArray false s r tm)) (hroom : cap ≤ L.length) :
    step P (solo (G fr cs) w) = .next (solo (G (fr.finish (.tuple #[goInt (-1), .bool false])) cs) w₁) :=
  step_lone_select_send_full h hc (by simpa using hroom)
theorem one_recv (h : stepG P true (G fr cs) w = .comm (G fr cs) #[rcase c z] true (.recv true) w₁ es) (hc : w₁.heap[c]? = some (.chan cap (x :: L).toArray closed s r tm)) :
    step P (solo (G fr cs) w) = .next (solo (G (fr.finish (.tuple #[x, .bool true])) cs) (w₁.setChan c cap L.toArray closed s (r + 1) tm)) := by
  have := step_lone_recv_buf true h hc (by simp)
  rw [this, show (x :: L).toArray.getD 0 undef = x by simp, show (x :: L).toArray.extract 1 (x :: L).toArray.size = L.toArray by simp]
  rfl
theorem one_shut (h : stepG P true (G fr cs) w = .comm (G fr cs) #[rcase c z] true (.recv true) w₁ es) (hc : w₁.heap[c]? = some (.chan cap #[] true s r tm)) :
    step P (solo (G fr cs) w) = .next (solo (G (fr.finish (.tuple #[z, .bool false])) cs) w₁) := step_lone_recv_shut true h hc
theorem one_send (h : stepG P true (G fr cs) w = .comm (G fr cs) #[scase c v z] true .send w₁ es) (hc : w₁.heap[c]? = some (.chan cap L.toArray false s r tm)) (hroom : L.length < cap) :
    step P (solo (G fr cs) w) = .next (solo (G (fr.finish undef) cs) (w₁.setChan c cap (L ++ [v]).toArray false (s + 1) r tm)) := by
  have := step_lone_send_room h hc (by simpa using hroom)
  rw [this, show L.toArray.push v = (L ++ [v]).toArray by simp]
end
end Go.Proofs.Ytbcnlfbclgkeiaa
