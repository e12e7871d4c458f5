import Derived.Test.YtehpdhhlggegdaaPack15
import Derived.Test.YtehpdhhlggegdaaPack19
import Derived.Test.YtehpdhhlggegdaaPack9
namespace Go.Proofs.Ytehpdhhlggegdaa
open Go.RowKit
set_option maxRecDepth 8000

def mkN : VT := .mk 0 0 ⟨#[]⟩ 0 none 0 (fun _ => .nil)
def mkI (i : Int) : VT := .mk 1 i ⟨#[]⟩ 0 none 0 (fun _ => .nil)
def mkT (s : ByteArray) : VT := .mk 2 0 s 0 none 0 (fun _ => .nil)
def mkL (l : List VT) : VT := .mk 3 0 ⟨#[]⟩ l.length none 0 (fun j => l.getD j .nil)
/-- what reading comes to: an error's number, or the value, where it ends, how many parts there are -/
abbrev DR := Except Nat (VT × Nat × Nat)
/-- the first m items -/
def itemsS (g : Nat → Nat → DR) : Nat → Nat → Nat → Except Nat (List VT × Nat × Nat)
  | 0, a, q => .ok ([], a, q)
  | m + 1, a, q =>
    match itemsS g m a q with
    | .error e => .error e
    | .ok (l, a', q') =>
      match g a' q' with
      | .error e => .error e
      | .ok (v, a2, q2) => .ok (l ++ [v], a2, q2)
def bytesAt (f : Nat → Int) (a m : Nat) : List Int := (List.range m).map fun j => f (a + j)
/-- a part that stands in d lists; g reads an item -/
def partS (f : Nat → Int) (n : Nat) (g : Nat → Nat → DR) (d a q : Nat) : DR :=
  if n ≤ a then .error 28 else if 12 < q + 1 then .error 22 else if 3 < (f a).toNat then .error 28 else if (f a).toNat = 3 ∧ 3 ≤ d then .error 23
  else if (f a).toNat = 0 then .ok (mkN, a + 1, q + 1)
  else if (f a).toNat = 1 then (match grpS f n 10 (a + 1) 0 0 with | none => .error 28 | some (u, a') => .ok (mkI (unfoldI u), a', q + 1))
  else if n ≤ a + 1 then .error 28
  else if (f a).toNat = 2 then (if 24 < (f (a + 1)).toNat then .error 21 else if n < a + 2 + (f (a + 1)).toNat then .error 28 else .ok (mkT (strOf (bytesAt f (a + 2) (f (a + 1)).toNat)), a + 2 + (f (a + 1)).toNat, q + 1))
  else if 6 < (f (a + 1)).toNat then .error 22
  else (match itemsS g (f (a + 1)).toNat (a + 2) (q + 1) with | .error e => .error e | .ok (l, a', q') => .ok (mkL l, a', q'))
def decS (f : Nat → Int) (n : Nat) : Nat → Nat → Nat → Nat → DR
  | 0, d, a, q => partS f n (fun _ _ => .error 23) d a q
  | k + 1, d, a, q => partS f n (decS f n k (d + 1)) d a q

theorem grpS_le (f : Nat → Int) (n : Nat) : ∀ k a i u r, grpS f n k a i u = some r → r.2 ≤ n ∧ (u < 2 ^ 64 → i ≤ 9 → k ≤ 10 - i → r.1 < 2 ^ 64) := by
  intro k
  induction k with
  | zero => intro a i u r h; cases h
  | succ k ih =>
    intro a i u r h
    rw [grpS] at h
    split at h
    · cases h
    · split at h
      · cases h
      · rename_i h1 h2
        have key : u < 2 ^ 64 → i ≤ 9 → (u ||| (f a).toNat % 128 * 2 ^ (7 * i)) < 2 ^ 64 := fun hu hi => Nat.or_lt_two_pow hu (grp_fits hi (fun h9 => by omega))
        split at h
        · cases h
          exact ⟨by omega, fun hu hi _ => key hu hi⟩
        · have h3 := ih _ _ _ _ h
          refine ⟨h3.1, fun hu hi hk => ?_⟩
          by_cases h9 : i = 9
          · omega
          · exact h3.2 (key hu hi) (by omega) (by omega)
theorem itemsS_le {g : Nat → Nat → DR} {n : Nat} (hg : ∀ a q v a' q', g a q = .ok (v, a', q') → a ≤ n → a' ≤ n) : ∀ m a q l a' q', itemsS g m a q = .ok (l, a', q') → a ≤ n → a' ≤ n ∧ l.length = m := by
  intro m
  induction m with
  | zero => intro a q l a' q' h ha; simp only [itemsS, Except.ok.injEq, Prod.mk.injEq] at h; obtain ⟨rfl, rfl, rfl⟩ := h; exact ⟨ha, rfl⟩
  | succ m ih =>
    intro a q l a' q' h ha
    rw [itemsS] at h
    split at h
    · cases h
    · rename_i l1 a1 q1 h1
      split at h
      · cases h
      · rename_i v a2 q2 h2
        simp only [Except.ok.injEq, Prod.mk.injEq] at h
        obtain ⟨rfl, rfl, rfl⟩ := h
        have h3 := ih _ _ _ _ _ h1 ha
        exact ⟨hg _ _ _ _ _ h2 h3.1, by simp [h3.2]⟩
theorem partS_le {f : Nat → Int} {n : Nat} {g : Nat → Nat → DR} (hg : ∀ a q v a' q', g a q = .ok (v, a', q') → a ≤ n → a' ≤ n) {d a q a' q' : Nat} {v : VT} (h : partS f n g d a q = .ok (v, a', q')) : a' ≤ n := by
  unfold partS at h
  split at h
  · cases h
  split at h
  · cases h
  split at h
  · cases h
  split at h
  · cases h
  split at h
  · simp only [Except.ok.injEq, Prod.mk.injEq] at h; omega
  split at h
  · split at h
    · cases h
    · rename_i u a2 h2
      simp only [Except.ok.injEq, Prod.mk.injEq] at h
      have := (grpS_le _ _ _ _ _ _ _ h2).1
      simp only at this
      omega
  split at h
  · cases h
  split at h
  · split at h
    · cases h
    split at h
    · cases h
    · simp only [Except.ok.injEq, Prod.mk.injEq] at h; omega
  split at h
  · cases h
  split at h
  · cases h
  · rename_i l a2 q2 h2
    simp only [Except.ok.injEq, Prod.mk.injEq] at h
    have := (itemsS_le hg _ _ _ _ _ _ h2 (by omega)).1
    omega
theorem decS_le {f : Nat → Int} {n : Nat} : ∀ (k d a q : Nat) (v : VT) (a' q' : Nat), decS f n k d a q = .ok (v, a', q') → a' ≤ n := by
  intro k
  induction k with
  | zero => intro d a q v a' q' h; exact partS_le (fun _ _ _ _ _ h => by cases h) h
  | succ k ih => intro d a q v a' q' h; exact partS_le (fun a q v a' q' h _ => ih _ _ _ _ _ _ h) h
theorem itemsS_stuck {g : Nat → Nat → DR} {a q j e a' q' : Nat} {l : List VT} (h : itemsS g j a q = .ok (l, a', q')) (hg : g a' q' = .error e) : ∀ {m : Nat}, j < m → itemsS g m a q = .error e := by
  intro m
  induction m with
  | zero => intro h2; omega
  | succ m ih =>
    intro h2
    by_cases hj : j = m
    · subst hj
      rw [itemsS, h]
      simp only [hg]
    · rw [itemsS, ih (by omega)]
theorem itemsS_next {g : Nat → Nat → DR} {a q j a' q' a2 q2 : Nat} {l : List VT} {v : VT} (h : itemsS g j a q = .ok (l, a', q')) (hg : g a' q' = .ok (v, a2, q2)) : itemsS g (j + 1) a q = .ok (l ++ [v], a2, q2) := by
  rw [itemsS, h]
  simp only [hg]
theorem itemsS_q {g : Nat → Nat → DR} (hg : ∀ a q v a' q', g a q = .ok (v, a', q') → q' ≤ 12) : ∀ m a q l a' q', itemsS g m a q = .ok (l, a', q') → q ≤ 12 → q' ≤ 12 := by
  intro m
  induction m with
  | zero => intro a q l a' q' h ha; simp only [itemsS, Except.ok.injEq, Prod.mk.injEq] at h; omega
  | succ m ih =>
    intro a q l a' q' h ha
    rw [itemsS] at h
    split at h
    · cases h
    · split at h
      · cases h
      · rename_i v a2 q2 h2
        simp only [Except.ok.injEq, Prod.mk.injEq] at h
        obtain ⟨rfl, rfl, rfl⟩ := h
        exact hg _ _ _ _ _ h2
theorem partS_q {f : Nat → Int} {n : Nat} {g : Nat → Nat → DR} (hg : ∀ a q v a' q', g a q = .ok (v, a', q') → q' ≤ 12) {d a q a' q' : Nat} {v : VT} (h : partS f n g d a q = .ok (v, a', q')) : q' ≤ 12 := by
  unfold partS at h
  split at h
  · cases h
  split at h
  · cases h
  split at h
  · cases h
  split at h
  · cases h
  split at h
  · simp only [Except.ok.injEq, Prod.mk.injEq] at h; omega
  split at h
  · split at h
    · cases h
    · simp only [Except.ok.injEq, Prod.mk.injEq] at h; omega
  split at h
  · cases h
  split at h
  · split at h
    · cases h
    split at h
    · cases h
    · simp only [Except.ok.injEq, Prod.mk.injEq] at h; omega
  split at h
  · cases h
  split at h
  · cases h
  · rename_i l a2 q2 h2
    simp only [Except.ok.injEq, Prod.mk.injEq] at h
    have := itemsS_q hg _ _ _ _ _ _ h2 (by omega)
    omega
theorem decS_q {f : Nat → Int} {n : Nat} : ∀ (k d a q : Nat) (v : VT) (a' q' : Nat), decS f n k d a q = .ok (v, a', q') → q' ≤ 12 := by
  intro k
  induction k with
  | zero => intro d a q v a' q' h; exact partS_q (fun _ _ _ _ _ h => by cases h) h
  | succ k ih => intro d a q v a' q' h; exact partS_q (fun a q v a' q' h => ih _ _ _ _ _ _ h) h
def DPost (w : World) (db : Nat) (p : Option Addr) (n c : Nat) (r : DR) (x : Ending) (w' : World) : Prop :=
  (∀ t a' q', r = .ok (t, a', q') → ∃ u, x = .returned u.val ∧ VT.Alike t u ∧ VT.In w' (fun b => w.heap.size ≤ b) u ∧ Box w' db #[.slice p n c, .int .i64 (a' : Int), .int .i64 (q' : Int)] 100 ∧ But (fun y => y = db) w w') ∧ (∀ e : Nat, r = .error e → Fails e x ∧ But (fun y => y = db) w w')
end Go.Proofs.Ytehpdhhlggegdaa

namespace Go.Proofs.Ytehpdhhlggegdaa
open Go.RowKit
set_option maxRecDepth 8000
theorem step_call {ops : Array Oper} {o : Oper} {a : Act} {w : World} {K : Act → World → Prop} {Q : Exit → Act → World → Prop} {E : Prop}
    (hgd : o.guard = none) (f : Nat) (xs : Array Operand) (ts : Array TypeId) (hop : o.op = Op.call { callee := Callee.value (Operand.func f), args := xs, argTypes := ts })
    (F : Func) (hF : Try.prog.funcs[f]? = some F) (hN : (F.name == "runtime.NumGoroutine") = false) (hB : F.body.isNone = false) (vs : Array Value) (hvl : xs.toList.map a.eval = vs.toList) (R : Ending → World → Prop) (hC : Calls Try.prog f vs w R) (hK : ∀ e w', R e w' → ∃ v, e = .returned v ∧ K (a.put o.dst v) w') :
    if Region.wanted o (yielded ops a.tmps) = true then Oper.wp Try.prog o a w K Q else E := by
  have hw : Region.wanted o (yielded ops a.tmps) = true := by simp [Region.wanted, hgd]
  rw [if_pos hw]
  have hvs : xs.map a.eval = vs := by
    obtain ⟨xl⟩ := xs
    obtain ⟨vl⟩ := vs
    simp only at hvl
    rw [List.map_toArray, hvl]
  have hrun : (execOp a.eval o).run Try.prog w = .ok (.enter f vs) w := by
    have h1 : ¬ F.name = "runtime.NumGoroutine" := by simpa using hN
    have h2 : ¬ F.body = none := by intro h; rw [h] at hB; cases hB
    simp [execOp, hop, resolve, invoke, hvs, Deferred.ofValue, Act.eval, callFunc, Result.andThen, go_sem, hF, h1, h2]
  unfold Oper.wp
  rw [hrun, Oper.upon_enter]
  refine hC.mono fun e w' h => ?_
  obtain ⟨v, rfl, hk⟩ := hK e w' h
  exact hk
end Go.Proofs.Ytehpdhhlggegdaa
