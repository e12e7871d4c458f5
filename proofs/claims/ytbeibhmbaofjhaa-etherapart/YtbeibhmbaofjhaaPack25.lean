import Derived.Test.YtbeibhmbaofjhaaPack24
import Derived.Test.YtbeibhmbaofjhaaPack17
import Derived.Test.YtbeibhmbaofjhaaPack21
namespace Go.Proofs.Ytbeibhmbaofjhaa
open Go.RowKit
set_option maxRecDepth 8000
/-- the bytes with one turned -/
def flipF (f : Nat → Int) (q : Nat) (z : Int) (j : Nat) : Int := if j = q then z else f j
theorem flipF_zs (n : Nat) (f : Nat → Int) (q r : Nat) (hq : q < n) : (List.range n).map (flipF f q (flipB (f q) r)) = ((List.range n).map f).set q (flipB (((List.range n).map f).getD q 0) r) := by
  apply List.ext_getElem?
  intro j
  by_cases hj : j = q
  · subst hj
    rw [List.getElem?_set_self (by simpa using hq)]
    simp [List.getElem?_range hq, flipF, List.getD_eq_getElem?_getD]
  · rw [List.getElem?_set_ne (fun e => hj e.symm)]
    by_cases hjn : j < n
    · simp [List.getElem?_range hjn, flipF, hj]
    · rw [List.getElem?_eq_none (by simp; omega), List.getElem?_eq_none (by simp; omega)]
theorem flat4_one : ∀ (P : List PK) (k : Nat) (x : PK) (y : BY), P[k]? = some x → (P.set k ⟨x.fr, x.tt, y, x.out⟩).flatMap PK.cells = (P.flatMap PK.cells).set (k * 4 + 2) (.slice y.p y.n y.c)
  | [], k, x, y, h => by simp at h
  | z :: P, 0, x, y, h => by
    simp at h
    subst h
    simp [PK.cells]
  | z :: P, k + 1, x, y, h => by
    have ih := flat4_one P k x y (by simpa using h)
    have e : (z :: P).flatMap PK.cells = [.int .i64 z.fr, .int .i64 z.tt, .slice z.y.p z.y.n z.y.c, .bool z.out] ++ P.flatMap PK.cells := by simp [PK.cells]
    rw [List.set_cons_succ, List.flatMap_cons, ih, e]
    rw [show (k + 1) * 4 + 2 = (k * 4 + 2) + 4 by omega]
    simp [PK.cells]
end Go.Proofs.Ytbeibhmbaofjhaa

namespace Go.Proofs.Ytbeibhmbaofjhaa
open Go.RowKit
set_option maxRecDepth 8000
/-- a flight that was written down -/
structure FY where
  fr : Int
  tt : Int
  y : BY
def FY.a (x : FY) : FA := ⟨x.fr, x.tt, x.y.zs⟩
def elFY : El FY where
  ty := 53
  size := 3
  cells := fun x => [.int .i64 x.fr, .int .i64 x.tt, .slice x.y.p x.y.n x.y.c]
  len := fun _ => rfl
  one := fun x u hu => by
    simp only [List.mem_cons, List.not_mem_nil, or_false] at hu
    rcases hu with rfl | rfl | rfl <;> rfl
  In := fun w S x => Byts w S x.y.p x.y.n x.y.c x.y.f
  kept := fun h hs hb => h.kept hs hb
  mono := fun h hb => h.mono hb
def fas (l : LT FY) : List FA := (List.range l.n).map fun j => (l.item j).a
theorem fas_len (l : LT FY) : (fas l).length = l.n := by simp [fas]
theorem fas_mem {l : LT FY} {s : FA} (h : s ∈ fas l) : ∃ j, j < l.n ∧ (l.item j).a = s := by
  obtain ⟨j, hj, rfl⟩ := List.mem_map.1 h
  exact ⟨j, List.mem_range.1 hj, rfl⟩
end Go.Proofs.Ytbeibhmbaofjhaa

namespace Go.Proofs.Ytbeibhmbaofjhaa
open Go.RowKit
set_option maxRecDepth 8000
def RListQ (w : World) (A : List FA) (e : Ending) (w' : World) : Prop := ∃ (p : Option Addr) (c : Nat), e = .returned (.slice p A.length c) ∧ FlsR w' p A ∧ Below w.heap.size w w'
/-- a row of flights of the call's own can be read -/
theorem OwnL.fls {base : Nat} {w : World} {v : Value} {n : Nat} {g : Nat → FY} {A : List FA} (h : OwnL elFY base w v n g) (hn : n ≤ 140737488355328) (hA : (List.range n).map (fun j => (g j).a) = A) : ∃ p c, v = .slice p A.length c ∧ FlsR w p A := by
  obtain ⟨p, c, hv, hin⟩ := h.in_ hn
  have hAl : A.length = n := by rw [← hA]; simp
  refine ⟨p, c, by rw [hAl]; exact hv, ⟨fun h0 => ?_⟩⟩
  obtain ⟨b, o, hp, _, hl, hat⟩ := hin.at_ (show 0 < n by omega)
  refine ⟨b, o, hp, hl, fun j a ha => ?_⟩
  have hj : j < n := by
    rcases Nat.lt_or_ge j n with h1 | h1
    · exact h1
    · rw [List.getElem?_eq_none (by omega)] at ha; cases ha
  have hg : (g j).a = a := by
    rw [← hA] at ha
    simp [List.getElem?_range hj] at ha
    exact ha
  have e0 := hat j hj 0 _ rfl
  have e1 := hat j hj 1 _ rfl
  have e2 := hat j hj 2 _ rfl
  have hin2 : Byts w _ (g j).y.p (g j).y.n (g j).y.c (g j).y.f := hin.each j hj
  have hyl : a.zs.length = (g j).y.n := by rw [← hg]; exact BY.len _
  refine ⟨(g j).y.p, (g j).y.c, ?_, ?_, ?_, ?_⟩
  · rw [← hg]; exact e0
  · rw [← hg]; exact e1
  · rw [hyl]; exact e2
  · have := BY.src hin2
    rw [← hg]; exact this
end Go.Proofs.Ytbeibhmbaofjhaa
