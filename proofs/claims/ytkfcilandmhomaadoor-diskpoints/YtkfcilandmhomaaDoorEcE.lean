import Derived.Test.YtkfcilandmhomaaDoorEcD
namespace Go.Proofs.YtkfcilandmhomaaDoor
open Go.RowKit
set_option maxRecDepth 8000
abbrev Key := ByteArray × List Int × Int
def insK (f : Key) : List Key → List Key
  | [] => [f]
  | a :: l => if lessN f.1 a.1 = true then f :: a :: l else a :: insK f l
theorem insK_map (f : RO) : ∀ l : List RO, (insR f l).map RO.key = insK f.key (l.map RO.key)
  | [] => rfl
  | b :: l => by
    have e : lessN f.key.1 b.key.1 = lessN f.name b.name := rfl
    simp only [insR, List.map_cons, insK, e]
    split
    · rfl
    · rw [List.map_cons, insK_map f l]
theorem insK_perm (f : Key) : ∀ l : List Key, (insK f l).Perm (f :: l)
  | [] => List.Perm.refl _
  | b :: l => by
    simp only [insK]
    split
    · exact List.Perm.refl _
    · exact ((insK_perm f l).cons b).trans (List.Perm.swap _ _ _)
/-- the keys of the first i files, in their order -/
def srtK (l : LT FA) : Nat → List Key
  | 0 => []
  | i + 1 => insK (l.item i).key (srtK l i)
theorem srtK_perm (l : LT FA) : ∀ i, (srtK l i).Perm ((List.range i).map fun j => (l.item j).key)
  | 0 => List.Perm.refl _
  | i + 1 => by
    rw [List.range_succ, List.map_append]
    exact (insK_perm _ _).trans (((srtK_perm l i).cons _).trans (List.perm_append_singleton _ _).symm)
/-- the file as the reference has it -/
def newO (l : LT FA) (i : Nat) (ps : Option Addr) (cs : Nat) (pl : Option Addr) (cl : Nat) : RO :=
  ⟨(l.item i).name, ps, (l.item i).sy.toNat, cs, fun j => ((List.range (l.item i).sy.toNat).map fun j => (l.item i).f (0 + j)).getD j 0, pl, (l.item i).n - (l.item i).sy.toNat, cl, fun j => ((List.range ((l.item i).n - (l.item i).sy.toNat)).map fun j => (l.item i).f ((l.item i).sy.toNat + j)).getD j 0⟩
theorem lOf_lst (p : Option Addr) (c : Nat) (z : RO) (xs : List RO) : (lOf p c z xs).lst xs.length = xs := by
  show (List.range xs.length).map (fun j => xs.getD j z) = xs
  apply List.ext_getElem?
  intro j
  by_cases h : j < xs.length
  · simp [List.getElem?_range h, List.getD_eq_getElem?_getD, List.getElem?_eq_getElem h]
  · rw [List.getElem?_eq_none (by simp; omega), List.getElem?_eq_none (by omega)]
theorem getD_map_range (n : Nat) (f : Nat → Int) : (List.range n).map (fun j => ((List.range n).map f).getD j 0) = (List.range n).map f := by
  apply List.map_congr_left
  intro j hj
  have hj' := List.mem_range.1 hj
  simp [List.getD_eq_getElem?_getD, List.getElem?_range hj']
theorem newO_key (l : LT FA) (i : Nat) (ps : Option Addr) (cs : Nat) (pl : Option Addr) (cl : Nat) (h0 : 0 ≤ (l.item i).sy) (h1 : (l.item i).sy ≤ ((l.item i).n : Int)) : (newO l i ps cs pl cl).key = (l.item i).key := by
  have hk : (l.item i).sy.toNat + ((l.item i).n - (l.item i).sy.toNat) = (l.item i).n := by omega
  have hz : (newO l i ps cs pl cl).zs = (l.item i).zs := by
    unfold RO.zs newO FA.zs
    dsimp only
    rw [getD_map_range, getD_map_range]
    conv => rhs; rw [← hk, List.range_add, List.map_append, List.map_map]
    congr 1
    apply List.map_congr_left
    intro j _
    simp
  unfold RO.key FA.key
  rw [hz]
  refine Prod.ext rfl (Prod.ext rfl ?_)
  show (((l.item i).sy.toNat : Nat) : Int) = (l.item i).sy
  omega
end Go.Proofs.YtkfcilandmhomaaDoor
