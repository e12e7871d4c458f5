import Derived.Test.YtkfcilandmhomaaDoorPack5
import Derived.Test.YtkfcilandmhomaaDoorPack0
import Derived.Test.YtkfcilandmhomaaDoorPack9
import Derived.Test.YtkfcilandmhomaaDoorPack3
import Derived.Test.YtkfcilandmhomaaDoorEcE
namespace Go.Proofs.YtkfcilandmhomaaDoor
open Go.RowKit
set_option maxRecDepth 8000
/-- a file of the reference's disk: its name, its two rows, its bytes -/
structure RF where
  name : ByteArray
  sp : Option Addr
  sc : Nat
  su : List Int
  lp : Option Addr
  lc : Nat
  lo : List Int
def RF.cells (f : RF) : List Value := [.string f.name, .slice f.sp f.su.length f.sc, .slice f.lp f.lo.length f.lc]
def RF.sb (f : RF) (k : Nat) : Prop := (Value.slice f.sp f.su.length f.sc).ownBlock = some k
def RF.lb (f : RF) (k : Nat) : Prop := (Value.slice f.lp f.lo.length f.lc).ownBlock = some k
def RF.blk (f : RF) (k : Nat) : Prop := f.sb k ∨ f.lb k
structure RfI (w : World) (C : Nat → Prop) (f : RF) : Prop where
  nm : Nm f.name
  s : OwnBy 0 w (.slice f.sp f.su.length f.sc) f.su
  l : OwnBy 0 w (.slice f.lp f.lo.length f.lc) f.lo
  cs : ∀ g, f.blk g → C g
  ne : ∀ g, f.sb g → ¬ f.lb g
  le : f.su.length + f.lo.length ≤ 65536
  by_ : ∀ z ∈ f.su ++ f.lo, 0 ≤ z ∧ z ≤ 255
theorem RfI.blk {w : World} {C : Nat → Prop} {f : RF} (h : RfI w C f) {k : Nat} (hk : f.blk k) : C k ∧ k < w.heap.size :=
  ⟨h.cs k hk, hk.elim (fun e => (h.s.lt k e).2) (fun e => (h.l.lt k e).2)⟩
theorem RfI.kept {w w' : World} {C C' : Nat → Prop} {f : RF} (h : RfI w C f) (hb : ∀ k, f.blk k → w'.heap[k]? = w.heap[k]?) (hc : ∀ k, f.blk k → C' k) : RfI w' C' f :=
  ⟨h.nm, ownsRow_keep h.s fun g hg _ => hb g (.inl hg), ownsRow_keep h.l fun g hg _ => hb g (.inr hg), hc, h.ne, h.le, h.by_⟩
/-- the reference's disk -/
structure RK where
  p : Option Addr
  c : Nat
  fs : List RF
  down : Bool
  left : Int
  after : Int
  fails : Int
def RK.ab (R : RK) (k : Nat) : Prop := (Value.slice R.p R.fs.length R.c).ownBlock = some k
theorem flatR_get : ∀ (fs : List RF) (i r : Nat) (f : RF), fs[i]? = some f → r < 3 → (fs.flatMap RF.cells)[i * 3 + r]? = f.cells[r]? := by
  intro fs
  induction fs with
  | nil => intro i r f h; simp at h
  | cons x xs ih =>
    intro i r f h hr
    rw [List.flatMap_cons]
    cases i with
    | zero =>
      simp at h
      subst h
      rw [List.getElem?_append_left (by simp [RF.cells]; omega)]
      simp
    | succ i =>
      rw [List.getElem?_append_right (by simp [RF.cells]; omega)]
      have := ih i r f (by simpa using h) hr
      rw [show (i + 1) * 3 + r - x.cells.length = i * 3 + r by simp [RF.cells]; omega, this]
theorem row_put {w : World} {base sz n : Nat} {e : TypeId} {v : Value} {xs : List Value} {g : Nat} (h : w.ownsRow base e sz v n xs) (hg : v.ownBlock = some g) (k : Nat) (u : Value) : (w.setCell ⟨g, k, none⟩ u).ownsRow base e sz v n (xs.set k u) := by
  obtain ⟨hl, ⟨hv, h0⟩ | ⟨g2, cap, cur, hv, hb, hh, hnc, hcm, hcs, ht⟩⟩ := h
  · subst hv; cases hg
  · subst hv
    have hg' : g2 = g := by simpa [Value.ownBlock] using hg
    subst hg'
    have hb2 : Box w g2 cur e := hh
    refine ⟨by simpa using hl, .inr ⟨g2, cap, cur.setIfInBounds k u, rfl, hb, hb2.set k _, hnc, hcm, by simpa using hcs, ?_⟩⟩
    rw [Array.toList_setIfInBounds, ← ht, List.take_set]
theorem flatR_set : ∀ (fs : List RF) (i : Nat) (f f' : RF), fs[i]? = some f → f'.name = f.name → (fs.set i f').flatMap RF.cells = ((fs.flatMap RF.cells).set (i * 3 + 1) (.slice f'.sp f'.su.length f'.sc)).set (i * 3 + 2) (.slice f'.lp f'.lo.length f'.lc) := by
  intro fs
  induction fs with
  | nil => intro i f f' h; simp at h
  | cons x xs ih =>
    intro i f f' h hn
    cases i with
    | zero =>
      simp at h
      subst h
      simp [RF.cells, hn]
    | succ i =>
      have := ih i f f' (by simpa using h) hn
      rw [List.set_cons_succ, List.flatMap_cons, List.flatMap_cons, this]
      rw [List.set_append_right _ _ (by simp [RF.cells]; omega), List.set_append_right _ _ (by simp [RF.cells]; omega)]
      congr 2
      · congr 1
        simp [RF.cells]; omega
      · simp [RF.cells]; omega
theorem set_get_self {α : Type} {l : List α} {k : Nat} {u : α} (h : l[k]? = some u) : l.set k u = l := by
  obtain ⟨hk, rfl⟩ := List.getElem?_eq_some_iff.1 h
  exact List.set_getElem_self hk
theorem flatR_setL (fs : List RF) (i : Nat) (f f' : RF) (hi : fs[i]? = some f) (hn : f'.name = f.name) (h1 : f'.sp = f.sp) (h2 : f'.su = f.su) (h3 : f'.sc = f.sc) : (fs.set i f').flatMap RF.cells = (fs.flatMap RF.cells).set (i * 3 + 2) (.slice f'.lp f'.lo.length f'.lc) := by
  have hs : (fs.flatMap RF.cells).set (i * 3 + 1) (.slice f.sp f.su.length f.sc) = fs.flatMap RF.cells := set_get_self (by rw [flatR_get fs i 1 f hi (by omega)]; rfl)
  rw [flatR_set fs i f f' hi hn, h1, h2, h3, hs]
theorem flatR_setS (fs : List RF) (i : Nat) (f f' : RF) (hi : fs[i]? = some f) (hn : f'.name = f.name) (h1 : f'.lp = f.lp) (h2 : f'.lo = f.lo) (h3 : f'.lc = f.lc) : (fs.set i f').flatMap RF.cells = (fs.flatMap RF.cells).set (i * 3 + 1) (.slice f'.sp f'.su.length f'.sc) := by
  have hs : (fs.flatMap RF.cells).set (i * 3 + 2) (.slice f.lp f.lo.length f.lc) = fs.flatMap RF.cells := set_get_self (by rw [flatR_get fs i 2 f hi (by omega)]; rfl)
  rw [flatR_set fs i f f' hi hn, h1, h2, h3, List.set_comm _ _ (by omega), hs]
theorem nodup_injR {α β : Type} {f : α → β} : ∀ {l : List α}, (l.map f).Nodup → ∀ {a b : α}, a ∈ l → b ∈ l → f a = f b → a = b
  | [], _, _, _, h, _, _ => by cases h
  | x :: l, hn, a, b, ha, hb, e => by
    rw [List.map_cons, List.nodup_cons] at hn
    rcases List.mem_cons.1 ha with rfl | ha'
    · rcases List.mem_cons.1 hb with rfl | hb
      · rfl
      · exact absurd (List.mem_map.2 ⟨b, hb, e.symm⟩) hn.1
    · rcases List.mem_cons.1 hb with rfl | hb
      · exact absurd (List.mem_map.2 ⟨a, ha', e⟩) hn.1
      · exact nodup_injR hn.2 ha' hb e
theorem set_eq_map {l : List RF} (hnd : (l.map RF.name).Nodup) {i : Nat} {f f' : RF} (hi : l[i]? = some f) : l.set i f' = l.map fun g => if g.name = f.name then f' else g := by
  apply List.ext_getElem?
  intro j
  rw [List.getElem?_set, List.getElem?_map]
  by_cases hj : i = j
  · subst hj
    have hlt := (List.getElem?_eq_some_iff.1 hi).1
    rw [if_pos rfl, if_pos hlt, hi]
    simp
  · rw [if_neg hj]
    cases hx : l[j]? with
    | none => rfl
    | some g =>
      have hne : g.name ≠ f.name := by
        intro e
        have h1 := List.getElem?_eq_some_iff.1 hi
        have h2 := List.getElem?_eq_some_iff.1 hx
        have : (l.map RF.name)[i]? = (l.map RF.name)[j]? := by rw [List.getElem?_map, List.getElem?_map, hi, hx]; simp [e]
        exact hj ((List.getElem?_inj (by simpa using h1.1) hnd).1 this)
      simp [hne]
end Go.Proofs.YtkfcilandmhomaaDoor

namespace Go.Proofs.YtkfcilandmhomaaDoor
open Go.RowKit
set_option maxRecDepth 8000
def RF.key (f : RF) : Key := (f.name, f.su ++ f.lo, (f.su.length : Int))
/-- what a disk is, wherever it lies -/
structure AK where
  ks : List Key
  down : Bool
  left : Int
  after : Int
  fails : Int
def RK.ak (R : RK) : AK := ⟨R.fs.map RF.key, R.down, R.left, R.after, R.fails⟩
def RK.fallen (R : RK) : RK := { R with down := true, left := -1, fails := 0 }
def ahE (R : RK) (s : ByteArray) (ch : Bool) : Int := if nmB s = false then 102 else if R.down = true then 100 else if ch = false ∨ R.fails = 0 then 0 else if R.after = 0 then 101 else 0
def ahR (R : RK) (s : ByteArray) (ch : Bool) : RK := if nmB s = true ∧ R.down = false ∧ ch = true ∧ R.fails ≠ 0 then (if R.after = 0 then { R with fails := R.fails - 1 } else { R with after := R.after - 1 }) else R
theorem ahR_fs (R : RK) (s : ByteArray) (ch : Bool) : (ahR R s ch).fs = R.fs ∧ (ahR R s ch).p = R.p ∧ (ahR R s ch).c = R.c ∧ (ahR R s ch).left = R.left := by
  unfold ahR
  split
  · split <;> exact ⟨rfl, rfl, rfl, rfl⟩
  · exact ⟨rfl, rfl, rfl, rfl⟩
def pyB (R : RK) (cost : Int) : Bool := decide (R.left < 0) || decide (cost ≤ R.left)
def pyR (R : RK) (cost : Int) : RK := if 0 ≤ R.left ∧ cost ≤ R.left then { R with left := R.left - cost } else R
theorem pyR_fs (R : RK) (cost : Int) : (pyR R cost).fs = R.fs ∧ (pyR R cost).p = R.p ∧ (pyR R cost).c = R.c := by
  unfold pyR
  split <;> exact ⟨rfl, rfl, rfl⟩
end Go.Proofs.YtkfcilandmhomaaDoor

namespace Go.Proofs.YtkfcilandmhomaaDoor
open Go.RowKit
set_option maxRecDepth 8000
theorem streqR (a b : ByteArray) : (a.toList == b.toList) = decide (a = b) := by
  rw [ByteArray.toList_eq, ByteArray.toList_eq]
  by_cases h : a = b
  · subst h; simp
  · have : a.data ≠ b.data := fun e => h (ByteArray.ext e)
    simp [h, this]
/-- which file has this name -/
def RK.no (R : RK) (s : ByteArray) : Prop := ∀ f ∈ R.fs, f.name ≠ s
def RK.is (R : RK) (s : ByteArray) (i : Nat) (f : RF) : Prop := R.fs[i]? = some f ∧ f.name = s
def FndQ (R : RK) (s : ByteArray) (e : Ending) : Prop := (R.no s ∧ e = .returned (.int .i64 (-1))) ∨ ∃ i f, R.is s i f ∧ e = .returned (.int .i64 (i : Int))
end Go.Proofs.YtkfcilandmhomaaDoor
