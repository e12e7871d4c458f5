import Derived.Test.YtjkfihngkfphfaaDoorEbA
namespace Go.Proofs.YtjkfihngkfphfaaDoor
open Go.RowKit
set_option maxRecDepth 8000
def fitF (n : Nat) (sy : Int) : Bool := decide (n ≤ 65536) && (decide (0 ≤ sy) && decide (sy ≤ (n : Int)))
set_option maxHeartbeats 1000000 in
theorem dfits_any (s : ByteArray) (p : Option Addr) (n c : Nat) (sy : Int) (w : World) : Calls Tryd.prog 22 #[.agg #[.string s, .slice p n c, .int .i64 sy]] w fun e w' => e = .returned (.bool (fitF n sy)) ∧ Below w.heap.size w w' := by
  obtain ⟨W, hW⟩ : ∃ V, V = w.alloc (.cells #[.string s, .slice p n c, .int .i64 sy] 35) := ⟨_, rfl⟩
  have hB : Below w.heap.size w W := by rw [hW]; exact (Below.refl _ _).alloc (Nat.le_refl _) _
  have hX : Box W w.heap.size #[.string s, .slice p n c, .int .i64 sy] 35 := by rw [hW]; exact Box.new _ _ _
  have q0 := hX.cell 0
  have q1 := hX.cell 1
  have q2 := hX.cell 2
  have ql := hX.lt
  simp at q0 q1 q2
  have HW := hid hW
  have HB := hid hB
  clear hW hB hX
  by_cases h1 : n ≤ 65536
  · have h1' : (n : Int) ≤ 65536 := by omega
    by_cases h2 : 0 ≤ sy
    · by_cases h3 : sy ≤ (n : Int)
      · have HF : Hid (fitF n sy = true) := by show fitF n sy = true; simp [fitF, h1, h2, h3]
        go_enter Tryd.func22, Tryd.ntmps22
        go_upto_region 1 with fail
        rw [← HW.out]
        go_wp2
        exact bodyPost_ret (v := .bool true) (by simp [results, Tryd.results22, go_sem]) rfl ⟨by rw [HF.out], HB.out⟩
      · have HF : Hid (fitF n sy = false) := by show fitF n sy = false; simp [fitF, h1, h2, h3]
        go_enter Tryd.func22, Tryd.ntmps22
        go_upto_region 1 with fail
        rw [← HW.out]
        go_wp2
        exact bodyPost_ret (v := .bool false) (by simp [results, Tryd.results22, go_sem]) rfl ⟨by rw [HF.out], HB.out⟩
    · have HF : Hid (fitF n sy = false) := by show fitF n sy = false; simp [fitF, h1, h2]
      go_enter Tryd.func22, Tryd.ntmps22
      go_upto_region 1 with fail
      rw [← HW.out]
      go_wp2
      exact bodyPost_ret (v := .bool false) (by simp [results, Tryd.results22, go_sem]) rfl ⟨by rw [HF.out], HB.out⟩
  · have h1' : ¬ (n : Int) ≤ 65536 := by omega
    have HF : Hid (fitF n sy = false) := by show fitF n sy = false; simp [fitF, h1]
    go_enter Tryd.func22, Tryd.ntmps22
    go_upto_region 1 with fail
    rw [← HW.out]
    go_wp2
    exact bodyPost_ret (v := .bool false) (by simp [results, Tryd.results22, go_sem]) rfl ⟨by rw [HF.out], HB.out⟩
/-- a call behind a guard in a region that draws -/
theorem step_callG {ops : Array Oper} {o : Oper} {a : Act} {w : World} {K : Act → World → Prop} {Q : Exit → Act → World → Prop} {E : Prop}
    (hw : Region.wanted o (yielded ops a.tmps) = true) (f : Nat) (xs : Array Operand) (ts : Array TypeId) (hop : o.op = Op.call { callee := Callee.value (Operand.func f), args := xs, argTypes := ts })
    (F : Func) (hF : Tryd.prog.funcs[f]? = some F) (hN : (F.name == "runtime.NumGoroutine") = false) (hB : F.body.isNone = false) (vs : Array Value) (hvl : xs.toList.map a.eval = vs.toList) (R : Ending → World → Prop) (hC : Calls Tryd.prog f vs w R) (hK : ∀ e w', R e w' → ∃ v, e = .returned v ∧ K (a.put o.dst v) w') :
    if Region.wanted o (yielded ops a.tmps) = true then Oper.wp Tryd.prog o a w K Q else E := by
  rw [if_pos hw]
  have hvs : xs.map a.eval = vs := by
    obtain ⟨xl⟩ := xs
    obtain ⟨vl⟩ := vs
    simp only at hvl
    rw [List.map_toArray, hvl]
  have hrun : (execOp a.eval o).run Tryd.prog w = .ok (.enter f vs) w := by
    have h1 : ¬ F.name = "runtime.NumGoroutine" := by simpa using hN
    have h2 : ¬ F.body = none := by intro h; rw [h] at hB; cases hB
    simp [execOp, hop, resolve, invoke, hvs, Deferred.ofValue, Act.eval, callFunc, Result.andThen, go_sem, hF, h1, h2]
  unfold Oper.wp
  rw [hrun, Oper.upon_enter]
  refine hC.mono fun e w' h => ?_
  obtain ⟨v, rfl, hk⟩ := hK e w' h
  exact hk
section
variable {w : World} {ops : Array Oper} {rest : List Oper} {o : Oper} {a : Act} {Q : Exit → Act → World → Prop}
/-- what stands at a name, as the program has it -/
theorem wpList_look (hg : o.guard = none) (m x : Operand) (hop : o.op = Op.lookup 52 m x false) {b : Nat} {E : List (ByteArray × Value)} {s : ByteArray} (hm : a.eval m = .map (some b)) (hx : a.eval x = labV s) (h : MpI w b E) (hs : Nm s)
    (hK : wpList Tryd.prog ops Q rest (a.put o.dst ((lk E s).getD (.pointer none))) w) :
    wpList Tryd.prog ops Q (o :: rest) a w := by
  refine wpList_plain hg fun K' hK' => ?_
  have hrun := run_look h hs false
  unfold Oper.wp
  simp [execOp, hop, hm, hx, hrun, Result.andThen]
  exact hK' _ _ hK
theorem step_upd {E : Prop} {w : World} {ops : Array Oper} {o : Oper} {a : Act} {K : Act → World → Prop} {Q : Exit → Act → World → Prop} (hg : o.guard = none) (m x v : Operand) (hop : o.op = Op.mapUpdate 52 m x v) {b : Nat} {Es : List (ByteArray × Value)} {s : ByteArray} {u : Value} (hm : a.eval m = .map (some b)) (hx : a.eval x = labV s) (hv : a.eval v = u) (h : MpI w b Es) (hs : Nm s) (hn : lk Es s = none)
    (hK : ∀ w', MpI w' b (Es ++ [(s, u)]) → But (fun k => k = b) w w' → K (a.put o.dst undef) w') :
    if Region.wanted o (yielded ops a.tmps) = true then Oper.wp Tryd.prog o a w K Q else E := by
  have hw : Region.wanted o (yielded ops a.tmps) = true := by simp [Region.wanted, hg]
  rw [if_pos hw]
  obtain ⟨ob, hrun, h1⟩ := run_updNew h hs u hn
  unfold Oper.wp
  simp [execOp, hop, hm, hx, hv, hrun, Result.andThen, Oper.upon]
  exact hK _ h1 (But.block1 _)
end
end Go.Proofs.YtjkfihngkfphfaaDoor
