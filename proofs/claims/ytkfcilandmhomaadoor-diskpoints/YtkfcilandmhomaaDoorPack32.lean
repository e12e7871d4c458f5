import Derived.Test.YtkfcilandmhomaaDoorPack16
import Derived.Test.YtkfcilandmhomaaDoorPack30
import Derived.Test.YtkfcilandmhomaaDoorEfK
namespace Go.Proofs.YtkfcilandmhomaaDoor
open Go.RowKit
set_option maxRecDepth 8000
/-- behind Read -/
def RdQ (R : RK) (s : ByteArray) (w : World) (e : Ending) (w' : World) : Prop :=
  Below w.heap.size w w' ∧ ((ahE R s false ≠ 0 ∧ e = .returned (.tuple #[.slice none 0 0, .int .i64 (ahE R s false)])) ∨
  (ahE R s false = 0 ∧ R.no s ∧ e = .returned (.tuple #[.slice none 0 0, .int .i64 103])) ∨
  (ahE R s false = 0 ∧ ∃ i f p c, R.is s i f ∧ e = .returned (.tuple #[.slice p (f.su ++ f.lo).length c, .int .i64 0]) ∧ OwnBy w.heap.size w' (.slice p (f.su ++ f.lo).length c) (f.su ++ f.lo)))
theorem ahR_false (R : RK) (s : ByteArray) : ahR R s false = R := by simp [ahR]
/-- the names of a disk's files, in their order -/
def RlQ (R : RK) (w : World) (e : Ending) (w' : World) : Prop :=
  Below w.heap.size w w' ∧ ((R.down = true ∧ e = .returned (.tuple #[.slice none 0 0, .int .i64 100])) ∨
  (R.down = false ∧ ∃ u : LT ByteArray, e = .returned (.tuple #[.slice u.p u.n u.c, .int .i64 0]) ∧ LT.In elStr w' (fun k => w.heap.size ≤ k) u ∧ u.n = R.fs.length ∧ ∀ j f, R.fs[j]? = some f → u.item j = f.name))
def armK (R : RK) (u : Int) : RK := if R.down = true then R else { R with left := max u (-1) }
def failK (R : RK) (a c : Int) : RK := if R.down = true then R else if 0 ≤ a ∧ 0 < c then { R with after := a, fails := c } else { R with after := 0, fails := 0 }
end Go.Proofs.YtkfcilandmhomaaDoor

namespace Go.Proofs.YtkfcilandmhomaaDoor
open Go.RowKit
set_option maxRecDepth 8000
end Go.Proofs.YtkfcilandmhomaaDoor

namespace Go.Proofs.YtkfcilandmhomaaDoor
open Go.RowKit
set_option maxRecDepth 8000
/-- what of a file survives -/
def rsK (k : Key) (u : Int) : Key := (k.1, k.2.1.take (k.2.2.toNat + (min (max u 0) ((k.2.1.length : Int) - k.2.2)).toNat), ((k.2.1.take (k.2.2.toNat + (min (max u 0) ((k.2.1.length : Int) - k.2.2)).toNat)).length : Int))
/-- the first i files are as they survive -/
structure RsK (R : RK) (K : LT Int) (i : Nat) (Ri : RK) : Prop where
  ks : ∀ j, (Ri.fs.map RF.key)[j]? = ((R.fs.map RF.key)[j]?).map fun k => if j < i then rsK k (kpU K j) else k
  rg : Ri.down = true ∧ Ri.left = -1 ∧ Ri.fails = 0 ∧ Ri.after = R.after
  len : Ri.fs.length = R.fs.length
theorem RsK.step {R Ri : RK} {K : LT Int} {i m : Nat} {f f' : RF} (h : RsK R K i Ri) (hi : Ri.fs[i]? = some f) (hm : m = (min (max (kpU K i) 0) (f.lo.length : Int)).toNat) (hk : f'.key = (f.name, f.su ++ f.lo.take m, ((f.su ++ f.lo.take m).length : Int))) : RsK R K (i + 1) { Ri with fs := Ri.fs.set i f' } := by
  have hlt := (List.getElem?_eq_some_iff.1 hi).1
  refine ⟨fun j => ?_, h.rg, by show (Ri.fs.set i f').length = _; rw [List.length_set]; exact h.len⟩
  have h1 := h.ks j
  rw [List.getElem?_map] at h1 ⊢
  rw [List.getElem?_set]
  by_cases hj : i = j
  · subst hj
    rw [if_pos rfl, if_pos hlt]
    rw [hi, Option.map_some] at h1
    cases hx : (R.fs.map RF.key)[i]? with
    | none => rw [hx] at h1; cases h1
    | some k =>
      rw [hx, Option.map_some, if_neg (by omega)] at h1
      have hkk : f.key = k := Option.some.inj h1
      rw [Option.map_some, Option.map_some, if_pos (by omega), ← hkk, hk]
      congr 1
      have e0 : f.key.2.1 = f.su ++ f.lo := rfl
      have e1 : f.key.2.2 = (f.su.length : Int) := rfl
      have e2 : f.key.1 = f.name := rfl
      have e3 : f.key.2.2.toNat + (min (max (kpU K i) 0) ((f.key.2.1.length : Int) - f.key.2.2)).toNat = f.su.length + m := by
        rw [e0, e1, hm, List.length_append]
        omega
      unfold rsK
      rw [e3, e0, e2]
      have e4 : (f.su ++ f.lo).take (f.su.length + m) = f.su ++ f.lo.take m := by rw [List.take_append, List.take_of_length_le (by omega)]; simp
      rw [e4]
  · rw [if_neg hj, h1]
    cases (R.fs.map RF.key)[j]? with
    | none => rfl
    | some k =>
      simp only [Option.map_some]
      by_cases h2 : j < i
      · rw [if_pos h2, if_pos (by omega)]
      · rw [if_neg h2, if_neg (by omega)]
end Go.Proofs.YtkfcilandmhomaaDoor
