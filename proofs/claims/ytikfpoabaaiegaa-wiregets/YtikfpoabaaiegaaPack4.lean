import Derived.Test.YtikfpoabaaiegaaPack2
import Derived.Lib.Strings
import Derived.Test.YtikfpoabaaiegaaPack3
import Derived.Test.YtikfpoabaaiegaaPack0
namespace Go.Proofs.Ytikfpoabaaiegaa
open Go.RowKit
set_option maxRecDepth 8000

end Go.Proofs.Ytikfpoabaaiegaa

namespace Go.Proofs.Ytikfpoabaaiegaa
open Go.RowKit
set_option maxRecDepth 8000
end Go.Proofs.Ytikfpoabaaiegaa

namespace Go.Proofs.Ytikfpoabaaiegaa
open Go.RowKit
set_option maxRecDepth 8000

def chkL (d q : Nat) (l : List VT) : Nat × Nat := stepN (fun j m => chk (l.getD j .nil) (d + 1) m) q l.length
theorem chkL_app {d q q1 q2 : Nat} {l : List VT} {v : VT} (h : chkL d q l = (0, q1)) (hv : chk v (d + 1) q1 = (0, q2)) : chkL d q (l ++ [v]) = (0, q2) := by
  have e : stepN (fun j m => chk ((l ++ [v]).getD j .nil) (d + 1) m) q l.length = (0, q1) := by
    rw [← h]
    exact stepN_congr _ (fun j hj m => by simp [List.getD_eq_getElem?_getD, List.getElem?_append_left hj])
  unfold chkL
  rw [List.length_append, List.length_singleton, stepN_succ (by rw [e]), e]
  simp only [List.getD_eq_getElem?_getD]
  rw [List.getElem?_append_right (Nat.le_refl _)]
  simpa using hv
theorem chk_mkL {d q : Nat} {l : List VT} (h6 : l.length ≤ 6) (hd : d < 3) (hq : q < 12) : chk (mkL l) d q = chkL d (q + 1) l := by
  unfold mkL
  rw [chk_eq, if_neg (by omega), if_neg (by simp [fitB]), if_neg (by omega), if_neg (by decide), if_neg (by omega)]
  rfl
theorem chk_leaf {k i : Int} {s : ByteArray} {d q : Nat} (hk : k ≠ 3) (hf : fitB k i s 0 = true) (hs : s.size ≤ 24) (hq : q < 12) : chk (.mk k i s 0 none 0 fun _ => .nil) d q = (0, q + 1) := by
  rw [chk_eq, if_neg (by omega), if_neg (by rw [hf]; decide), if_neg (fun h => hk h.1), if_neg (by omega), if_neg (by omega)]
  rfl
theorem chk_mkN {d q : Nat} (hq : q < 12) : chk mkN d q = (0, q + 1) := chk_leaf (by decide) (by simp [fitB]) (by decide) hq
theorem chk_mkI {d q : Nat} (i : Int) (hq : q < 12) : chk (mkI i) d q = (0, q + 1) := chk_leaf (by decide) (by simp [fitB]) (by decide) hq
theorem chk_mkT {d q : Nat} {s : ByteArray} (hs : s.size ≤ 24) (hq : q < 12) : chk (mkT s) d q = (0, q + 1) := chk_leaf (by decide) (by simp [fitB]) hs hq

theorem bytesAt_app (f : Nat → Int) (a m k : Nat) : bytesAt f a (m + k) = bytesAt f a m ++ bytesAt f (a + m) k := by
  unfold bytesAt
  rw [List.range_add, List.map_append, List.map_map]
  congr 1
  apply List.map_congr_left
  intro j _
  simp [Nat.add_assoc]
theorem bytesAt_len (f : Nat → Int) (a m : Nat) : (bytesAt f a m).length = m := by simp [bytesAt]
theorem bytesAt_one (f : Nat → Int) (a : Nat) : bytesAt f a 1 = [f a] := by simp [bytesAt]
theorem bytesAt_cons (f : Nat → Int) (a m : Nat) : bytesAt f a (m + 1) = f a :: bytesAt f (a + 1) m := by
  rw [Nat.add_comm m 1, bytesAt_app, bytesAt_one]
  rfl
theorem range_getD (l : List VT) (g : VT → List Int) : ((List.range l.length).flatMap fun j => g (l.getD j .nil)) = l.flatMap g := by
  have e : (List.range l.length).map (fun j => l.getD j .nil) = l := by
    apply List.ext_getElem
    · simp
    · intro i h1 h2
      simp [List.getD_eq_getElem?_getD, List.getElem?_eq_getElem h2]
  have h := congrArg (fun z => z.flatMap g) e
  simpa [List.flatMap_map] using h
theorem enc_mkL (l : List VT) : encB (mkL l) = 3 :: (l.length : Int) :: l.flatMap encB := by
  unfold mkL
  rw [encB_eq, ← range_getD l encB]
  simp

theorem or_plus {u x i : Nat} (h : u < 2 ^ (7 * i)) : u ||| x * 2 ^ (7 * i) = u + x * 2 ^ (7 * i) := by
  have h1 := Nat.shiftLeft_add_eq_or_of_lt h x
  rw [Nat.shiftLeft_eq] at h1
  rw [Nat.or_comm, ← h1, Nat.add_comm]
theorem pow7 (i : Nat) : 2 ^ (7 * (i + 1)) = 128 * 2 ^ (7 * i) := by
  rw [Nat.mul_add, Nat.pow_add]
  simp [Nat.mul_comm]
theorem grp_sound (f : Nat → Int) (n : Nat) (hf : ∀ j, j < n → 0 ≤ f j ∧ f j ≤ 255) : ∀ k a i u r a', grpS f n k a i u = some (r, a') → u < 2 ^ (7 * i) →
    ∃ m, r = u + m * 2 ^ (7 * i) ∧ grpB m = bytesAt f a (a' - a) ∧ a < a' ∧ a' ≤ n ∧ (0 < i → 1 ≤ m) := by
  intro k
  induction k with
  | zero => intro a i u r a' h; cases h
  | succ k ih =>
    intro a i u r a' h hu
    rw [grpS] at h
    by_cases h1 : n ≤ a
    · rw [if_pos h1] at h; cases h
    rw [if_neg h1] at h
    obtain ⟨hf0, hf1⟩ := hf a (by omega)
    obtain ⟨c, hc⟩ := Int.eq_ofNat_of_zero_le hf0
    rw [hc] at h
    simp only [Int.toNat_natCast] at h
    split at h
    · cases h
    rename_i h2
    rw [or_plus hu] at h
    split at h
    · rename_i h3
      simp only [Option.some.injEq, Prod.mk.injEq] at h
      obtain ⟨h4, h5⟩ := h
      refine ⟨c, by rw [← h4, Nat.mod_eq_of_lt h3], ?_, by omega, by omega, fun hi => by omega⟩
      rw [grpB_small h3, ← h5, show a + 1 - a = 1 by omega, bytesAt_one, hc]
    · rename_i h3
      have hu2 : u + c % 128 * 2 ^ (7 * i) < 2 ^ (7 * (i + 1)) := by
        rw [pow7]
        have hp : 0 < 2 ^ (7 * i) := Nat.two_pow_pos _
        have hm : c % 128 * 2 ^ (7 * i) ≤ 127 * 2 ^ (7 * i) := Nat.mul_le_mul (by omega) (Nat.le_refl _)
        omega
      obtain ⟨m, e1, e2, e3, e4, e5⟩ := ih _ _ _ _ _ h hu2
      have e5 := e5 (by omega)
      refine ⟨c % 128 + 128 * m, ?_, ?_, by omega, e4, fun _ => by omega⟩
      · rw [e1, pow7, Nat.add_mul]
        have : m * (128 * 2 ^ (7 * i)) = 128 * m * 2 ^ (7 * i) := by rw [← Nat.mul_assoc, Nat.mul_comm m 128]
        omega
      · rw [grpB_great (by omega), show a' - a = (a' - (a + 1)) + 1 by omega, bytesAt_cons, hc, ← e2]
        congr 1
        · omega
        · congr 1; omega
theorem fold_unfold (u : Nat) : foldN (unfoldI u) = u := by
  unfold unfoldI foldN
  by_cases h : u % 2 = 1
  · rw [if_pos h, if_pos (by omega)]; omega
  · rw [if_neg h, if_neg (by omega)]; omega
end Go.Proofs.Ytikfpoabaaiegaa

namespace Go.Proofs.Ytikfpoabaaiegaa
open Go.RowKit
set_option maxRecDepth 8000
theorem step_call {ops : Array Oper} {o : Oper} {a : Act} {w : World} {K : Act → World → Prop} {Q : Exit → Act → World → Prop} {E : Prop}
    (hgd : o.guard = none) (f : Nat) (xs : Array Operand) (ts : Array TypeId) (hop : o.op = Op.call { callee := Callee.value (Operand.func f), args := xs, argTypes := ts })
    (F : Func) (hF : Try.prog.funcs[f]? = some F) (hN : (F.name == "runtime.NumGoroutine") = false) (hB : F.body.isNone = false) (vs : Array Value) (hvl : xs.toList.map a.eval = vs.toList) (R : Ending → World → Prop) (hC : Calls Try.prog f vs w R) (hK : ∀ e w', R e w' → ∃ v, e = .returned v ∧ K (a.put o.dst v) w') :
    if Region.wanted o (yielded ops a.tmps) = true then Oper.wp Try.prog o a w K Q else E := by
  have hw : Region.wanted o (yielded ops a.tmps) = true := by simp [Region.wanted, hgd]
  rw [if_pos hw]
  have hvs : xs.map a.eval = vs := by
    obtain ⟨xl⟩ := xs
    obtain ⟨vl⟩ := vs
    simp only at hvl
    rw [List.map_toArray, hvl]
  have hrun : (execOp a.eval o).run Try.prog w = .ok (.enter f vs) w := by
    have h1 : ¬ F.name = "runtime.NumGoroutine" := by simpa using hN
    have h2 : ¬ F.body = none := by intro h; rw [h] at hB; cases hB
    simp [execOp, hop, resolve, invoke, hvs, Deferred.ofValue, Act.eval, callFunc, Result.andThen, go_sem, hF, h1, h2]
  unfold Oper.wp
  rw [hrun, Oper.upon_enter]
  refine hC.mono fun e w' h => ?_
  obtain ⟨v, rfl, hk⟩ := hK e w' h
  exact hk
end Go.Proofs.Ytikfpoabaaiegaa
