import Derived.Test.YtbeibhmbaofjhaaYkF
namespace Go.Proofs.Ytbeibhmbaofjhaa
open Go.RowKit
set_option maxRecDepth 8000
/-- what a book's rows tell while lists wait to be looked at: rest -/
structure YbT (b : Yb) (outs told waits notes : List YS) (marks lefts : List Int) (rest : List YS) : Prop where
  x0 : b.X 0 = outs.map YS.val
  x1 : b.X 1 = told.map YS.val
  x2 : b.X 2 = waits.map YS.val
  x3 : b.X 3 = notes.map YS.val
  x4 : b.X 4 = ints marks
  x5 : b.X 5 = ints lefts
  so : told.map YS.zs = outs.map YS.zs
  sn : notes.map YS.zs = waits.map YS.zs
  lm : marks.length = waits.length
  ll : lefts.length = waits.length
  lp : ∀ l ∈ lefts, 1 ≤ l ∧ l ≤ 9
  mp : ∀ m ∈ marks, -1000000000 ≤ m ∧ m ≤ 1000000000
  ow : b.own = waits ++ rest
  rd : ∀ x, x ∈ outs ∨ x ∈ told ∨ x ∈ notes → x ∈ b.rd
  le : outs.length + 2 * (waits.length + rest.length) ≤ 2 * b.sn.toNat
  s0 : 0 ≤ b.sn ∧ b.sn ≤ 1000000
  wz : ∀ x ∈ waits ++ rest, x.zs.length ≤ 100000
theorem YbT.done {b : Yb} {outs told waits notes : List YS} {marks lefts : List Int} (h : YbT b outs told waits notes marks lefts []) : YbL b outs told waits notes marks lefts :=
  ⟨h.x0, h.x1, h.x2, h.x3, h.x4, h.x5, h.so, h.sn, h.lm, h.ll, h.lp, h.mp, by rw [h.ow, List.append_nil], h.rd, by have := h.le; simpa using this, h.s0⟩
section
variable {w : World} {Z : Nat → Prop} {kb : Nat} {b : Yb}
theorem YbM.addZ (h : YbM w Z kb b) {U : Nat → Prop} (hU : ∀ k, U k → k < w.heap.size ∧ k ∉ b.hot kb ∧ ¬ b.cold k) : YbM w (fun k => Z k ∨ U k) kb b :=
  ⟨h.bx, h.row, h.cc, h.cw, h.d1, h.d2, h.d3, h.d4, h.d5, h.hc, fun k hk e => e.elim (h.zh k hk) fun e => (hU k e).2.1 hk, fun k hk e => e.elim (h.zc k hk) fun e => (hU k e).2.2 hk, fun k e => e.elim (h.zl k) fun e => (hU k e).1⟩
theorem ybF_bad (F : Nat → Value) (sn : Int) : (ybF F sn).setIfInBounds 1 (.bool false) = ybF F sn := by simp [ybF, ybC]
theorem ybF_seen (F : Nat → Value) (sn x : Int) : (ybF F sn).setIfInBounds 8 (.int .i64 x) = ybF F x := by simp [ybF, ybC]
/-- a cell of the book's block that is no row -/
theorem YbM.cell {i : Nat} {u : Value} {b' : Yb} (h : YbM w Z kb b) (hF : b'.F = b.F) (hX : b'.X = b.X) (ho : b'.own = b.own) (hr : b'.rd = b.rd) (hc : (ybF b.F b.sn).setIfInBounds i u = ybF b.F b'.sn) : YbM (w.setCell ⟨kb, i, none⟩ u) Z kb b' ∧ Fr Z w (w.setCell ⟨kb, i, none⟩ u) := by
  obtain ⟨F', X', sn', own', rd'⟩ := b'
  simp only at hF hX ho hr hc
  subst hF hX ho hr
  have hb : But (fun k => k = kb) w (w.setCell ⟨kb, i, none⟩ u) := (But.one _ _).setAt i _
  have same : ∀ k, k < w.heap.size → k ≠ kb → (w.setCell ⟨kb, i, none⟩ u).heap[k]? = w.heap[k]? := fun k hl hk => hb.block k hl hk
  refine ⟨⟨by show Box _ kb (ybF b.F sn') 48; rw [← hc]; exact h.bx.set i u, fun j hj => own_kept (h.row j hj) fun k hk => same k (own_lt (h.row j hj) hk) fun e => by subst e; exact h.d1 j hj hk, fun x hx => YS.ok_kept (h.cc x hx) hb.size fun k hk hl => same k hl fun e => by subst e; exact h.hc k YbM.hot_kb ⟨x, hx, hk⟩, fun x hx => ⟨own_kept (h.cw x hx).1 fun k hk => same k (own_lt (h.cw x hx).1 hk) fun e => by subst e; exact h.d3 x hx hk, (h.cw x hx).2⟩, h.d1, h.d2, h.d3, h.d4, h.d5, h.hc, h.zh, h.zc, fun k hk => Nat.lt_of_lt_of_le (h.zl k hk) hb.size⟩, hb.mono fun k _ e hz => by subst e; exact h.zh k YbM.hot_kb hz⟩
theorem YbM.bad (h : YbM w Z kb b) : YbM (w.setCell ⟨kb, 1, none⟩ (.bool false)) Z kb b ∧ Fr Z w (w.setCell ⟨kb, 1, none⟩ (.bool false)) := h.cell rfl rfl rfl rfl (ybF_bad _ _)
/-- a row is empty now -/
theorem YbM.nil (h : YbM w Z kb b) {i : Nat} (hi : i < 6) : YbM (w.setCell ⟨kb, i + 2, none⟩ (.slice none 0 0)) Z kb (b.put i (.slice none 0 0) []) ∧ Fr Z w (w.setCell ⟨kb, i + 2, none⟩ (.slice none 0 0)) :=
  h.put hi (World.ownsRow_nil _ _ _ _) (But.refl _ _) fun k hk => by simp [ob, Value.ownBlock] at hk
end
/-- the book with its four waiting rows empty -/
def Yb.emp (b : Yb) : Yb := (((b.put 2 (.slice none 0 0) []).put 3 (.slice none 0 0) []).put 4 (.slice none 0 0) []).put 5 (.slice none 0 0) []
theorem emp_F (b : Yb) (i : Nat) (h : i = 0 ∨ i = 1) : b.emp.F i = b.F i := by
  rcases h with rfl | rfl <;> rfl
theorem emp_nil (b : Yb) (i : Nat) (h : 2 ≤ i ∧ i < 6) : b.emp.F i = .slice none 0 0 := by
  obtain ⟨h1, h2⟩ := h
  match i, h1, h2 with
  | 2, _, _ => rfl
  | 3, _, _ => rfl
  | 4, _, _ => rfl
  | 5, _, _ => rfl
/-- behind the four stores: the old rows are others' -/
theorem YbM.emp {w : World} {Z : Nat → Prop} {kb : Nat} {b : Yb} (h : YbM w Z kb b) : ∀ w', w' = (((w.setCell ⟨kb, 4, none⟩ (.slice none 0 0)).setCell ⟨kb, 5, none⟩ (.slice none 0 0)).setCell ⟨kb, 6, none⟩ (.slice none 0 0)).setCell ⟨kb, 7, none⟩ (.slice none 0 0) →
    YbM w' (fun k => Z k ∨ ∃ i, 2 ≤ i ∧ i < 6 ∧ k ∈ ob (b.F i)) kb b.emp ∧ Fr (fun k => Z k ∨ ∃ i, 2 ≤ i ∧ i < 6 ∧ k ∈ ob (b.F i)) w w' := by
  intro w' hw
  have h1 := h.nil (i := 2) (by decide)
  have h2 := h1.1.nil (i := 3) (by decide)
  have h3 := h2.1.nil (i := 4) (by decide)
  have h4 := h3.1.nil (i := 5) (by decide)
  have hM : YbM w' Z kb b.emp := by rw [hw]; exact h4.1
  have hb : But (fun k => k = kb) w w' := by rw [hw]; exact ((((But.refl (fun k => k = kb) w).setCell (p := ⟨kb, 4, none⟩) (fun _ => rfl) _).setCell (p := ⟨kb, 5, none⟩) (fun _ => rfl) _).setCell (p := ⟨kb, 6, none⟩) (fun _ => rfl) _).setCell (p := ⟨kb, 7, none⟩) (fun _ => rfl) _
  refine ⟨hM.addZ fun k ⟨i, h2, h6, hk⟩ => ⟨Nat.lt_of_lt_of_le (own_lt (h.row i h6) hk) hb.size, fun e => ?_, fun e => h.hc k (YbM.hot_row h6 hk) e⟩, hb.mono fun k _ e hz => ?_⟩
  · rcases Yb.mem_hot.1 e with rfl | ⟨j, hj, e⟩ | ⟨x, hx, e⟩
    · exact h.d1 i h6 hk
    · by_cases hj2 : 2 ≤ j
      · rw [emp_nil b j ⟨hj2, hj⟩] at e
        simp [ob, Value.ownBlock] at e
      · rw [emp_F b j (by omega)] at e
        exact h.d2 j i hj h6 (by omega) k e hk
    · exact h.d4 i h6 x hx k hk e
  · subst e
    rcases hz with hz | ⟨i, _, h6, hk⟩
    · exact h.zh k YbM.hot_kb hz
    · exact h.d1 i h6 hk
end Go.Proofs.Ytbeibhmbaofjhaa
