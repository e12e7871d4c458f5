import Derived.Test.YtikfpoabaaiegaaPack0
namespace Go.Proofs.Ytikfpoabaaiegaa
open Go.RowKit
set_option maxRecDepth 8000
theorem step_call {ops : Array Oper} {o : Oper} {a : Act} {w : World} {K : Act → World → Prop} {Q : Exit → Act → World → Prop} {E : Prop}
    (hgd : o.guard = none) (f : Nat) (xs : Array Operand) (ts : Array TypeId) (hop : o.op = Op.call { callee := Callee.value (Operand.func f), args := xs, argTypes := ts })
    (F : Func) (hF : Try.prog.funcs[f]? = some F) (hN : (F.name == "runtime.NumGoroutine") = false) (hB : F.body.isNone = false) (vs : Array Value) (hvl : xs.toList.map a.eval = vs.toList) (R : Ending → World → Prop) (hC : Calls Try.prog f vs w R) (hK : ∀ e w', R e w' → ∃ v, e = .returned v ∧ K (a.put o.dst v) w') :
    if Region.wanted o (yielded ops a.tmps) = true then Oper.wp Try.prog o a w K Q else E := by
  have hw : Region.wanted o (yielded ops a.tmps) = true := by simp [Region.wanted, hgd]
  rw [if_pos hw]
  have hvs : xs.map a.eval = vs := by
    obtain ⟨xl⟩ := xs
    obtain ⟨vl⟩ := vs
    simp only at hvl
    rw [List.map_toArray, hvl]
  have hrun : (execOp a.eval o).run Try.prog w = .ok (.enter f vs) w := by
    have h1 : ¬ F.name = "runtime.NumGoroutine" := by simpa using hN
    have h2 : ¬ F.body = none := by intro h; rw [h] at hB; cases hB
    simp [execOp, hop, resolve, invoke, hvs, Deferred.ofValue, Act.eval, callFunc, Result.andThen, go_sem, hF, h1, h2]
  unfold Oper.wp
  rw [hrun, Oper.upon_enter]
  refine hC.mono fun e w' h => ?_
  obtain ⟨v, rfl, hk⟩ := hK e w' h
  exact hk
end Go.Proofs.Ytikfpoabaaiegaa
