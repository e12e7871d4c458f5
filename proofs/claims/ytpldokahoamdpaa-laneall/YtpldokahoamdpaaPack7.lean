import Derived.Test.YtpldokahoamdpaaPack2
import Derived.Shelf.LaysM
import Derived.Shelf.Strconv.Clone
import Derived.Laws.MakeOwn
namespace Go.Proofs.Ytpldokahoamdpaa
open Go.RowKit Go.Shelf
set_option maxRecDepth 8000
def renC : Go.Shelf.Ren := ⟨fun | 316 => 74 | n => n, fun | 37 => 115 | 127 => 121 | n => n, fun n => n⟩
theorem laysC : Go.Proofs.LaysM.n316 Try.prog renC := {
  mixed := by kernel_rfl
  f316 := Try.func74.trans (congrArg some (by kernel_rfl))
  t0 := Try.underlying0
  a0 := Try.isAgg0
  z0 := Try.sizeOf0
  v0 := Try.zeroValue0
  t3 := Try.underlying3
  a3 := Try.isAgg3
  z3 := Try.sizeOf3
  v3 := Try.zeroValue3
  t4 := Try.underlying4
  a4 := Try.isAgg4
  z4 := Try.sizeOf4
  v4 := Try.zeroValue4
  t5 := Try.underlying5
  a5 := Try.isAgg5
  z5 := Try.sizeOf5
  v5 := Try.zeroValue5
  t9 := Try.underlying9
  a9 := Try.isAgg9
  z9 := Try.sizeOf9
  v9 := Try.zeroValue9
  t37 := Try.underlying115
  a37 := Try.isAgg115
  z37 := Try.sizeOf115
  v37 := Try.zeroValue115
  t127 := Try.underlying121
  a127 := Try.isAgg121
  z127 := Try.sizeOf121
  v127 := Try.zeroValue121
  i0 := by kernel_rfl
  i3 := by kernel_rfl
  i4 := by kernel_rfl
  i5 := by kernel_rfl
  i9 := by kernel_rfl
  i37 := by kernel_rfl
  i127 := by kernel_rfl }
theorem sclone_any (s : ByteArray) (w : World) (h : s.size ≤ 140737488355328) : Calls Try.prog 74 #[.string s] w fun e w' => e = .returned (.string s) ∧ Below w.heap.size w w' :=
  Any.stringslite_Clone laysC s w (by omega)
set_option maxHeartbeats 1000000 in
/-- strings.Clone -/
theorem clone_any (s : ByteArray) (w : World) (h : s.size ≤ 140737488355328) : Calls Try.prog 58 #[.string s] w fun e w' => e = .returned (.string s) ∧ Below w.heap.size w w' := by
  have HC := hid (sclone_any s w h)
  go_enter Try.func58, Try.ntmps58
  go_wp2_with fail
  refine HC.out.mono ?_
  rintro e w1 ⟨rfl, hb⟩
  have HB := hid hb
  clear hb HC
  go_wp2
  refine bodyPost_ret (v := .string s) (by simp [results, Try.results58, go_sem]) rfl ⟨rfl, HB.out⟩
end Go.Proofs.Ytpldokahoamdpaa

namespace Go.Proofs.Ytpldokahoamdpaa
open Go.RowKit
set_option maxRecDepth 8000

/-- cells laid one behind the other from the place o on -/
def setAll (cs : Array Value) (o : Nat) : List Value → Array Value
  | [] => cs
  | u :: us => setAll (cs.setIfInBounds o u) (o + 1) us
theorem setAll_size : ∀ (us : List Value) (cs : Array Value) (o : Nat), (setAll cs o us).size = cs.size := by
  intro us
  induction us with
  | nil => intro cs o; rfl
  | cons u us ih => intro cs o; rw [setAll, ih, Array.size_setIfInBounds]
theorem setAll_get : ∀ (us : List Value) (cs : Array Value) (o : Nat), o + us.length ≤ cs.size → ∀ i, (setAll cs o us)[i]? = if o ≤ i ∧ i < o + us.length then us[i - o]? else cs[i]? := by
  intro us
  induction us with
  | nil => intro cs o _ i; simp only [setAll, List.length_nil]; rw [if_neg (by omega)]
  | cons u us ih =>
    intro cs o h i
    simp only [List.length_cons] at h ⊢
    rw [setAll, ih _ _ (by rw [Array.size_setIfInBounds]; omega)]
    by_cases h1 : o + 1 ≤ i ∧ i < o + 1 + us.length
    · rw [if_pos h1, if_pos (by omega), show i - o = (i - (o + 1)) + 1 by omega]; rfl
    · rw [if_neg h1, Array.getElem?_setIfInBounds]
      by_cases h2 : o = i
      · subst h2
        rw [if_pos rfl, if_pos (by omega), if_pos (by omega), Nat.sub_self]; rfl
      · rw [if_neg h2, if_neg (by omega)]
/-- a row that was made and is being filled: k of its n items are laid -/
structure RowK {α : Type} (E : El α) (w : World) (L n k : Nat) (g : Nat → α) (cs : Array Value) : Prop where
  box : Box w L cs E.ty
  size : cs.size = n * E.size
  done : ∀ j, j < k → ∀ r u, (E.cells (g j))[r]? = some u → cs[j * E.size + r]? = some u
theorem RowK.kept {α : Type} {E : El α} {w w' : World} {L n k : Nat} {g : Nat → α} {cs : Array Value} (h : RowK E w L n k g cs) (hb : w'.heap[L]? = w.heap[L]?) : RowK E w' L n k g cs := ⟨h.box.kept hb, h.size, h.done⟩
theorem RowK.step {α : Type} {E : El α} {w w' : World} {L n k : Nat} {g : Nat → α} {cs : Array Value} {x : α} (h : RowK E w L n k g cs) (hk : k < n) (hb : Box w' L (setAll cs (k * E.size) (E.cells x)) E.ty) :
    RowK E w' L n (k + 1) (fun j => if j < k then g j else x) (setAll cs (k * E.size) (E.cells x)) := by
  have hl : k * E.size + E.size ≤ n * E.size := by
    have : (k + 1) * E.size ≤ n * E.size := Nat.mul_le_mul_right _ hk
    rwa [Nat.add_mul, Nat.one_mul] at this
  refine ⟨hb, by rw [setAll_size]; exact h.size, fun j hj r u hu => ?_⟩
  have hr : r < E.size := by
    rcases Nat.lt_or_ge r E.size with h1 | h1
    · exact h1
    · rw [List.getElem?_eq_none (by rw [E.len]; exact h1)] at hu; cases hu
  rw [setAll_get _ _ _ (by rw [E.len, h.size]; exact hl), E.len]
  by_cases hjk : j < k
  · rw [if_pos hjk] at hu
    have : (j + 1) * E.size ≤ k * E.size := Nat.mul_le_mul_right _ hjk
    rw [Nat.add_mul, Nat.one_mul] at this
    rw [if_neg (by omega)]
    exact h.done j hjk r u hu
  · rw [if_neg hjk] at hu
    obtain rfl : j = k := by omega
    rw [if_pos (by omega), show j * E.size + r - j * E.size = r by omega]
    exact hu
theorem RowK.in_ {α : Type} {E : El α} {w : World} {S : Nat → Prop} {L n : Nat} {g : Nat → α} {cs : Array Value} (h : RowK E w L n n g cs) (hS : S L) (he : ∀ j, j < n → E.In w S (g j)) (hn : n ≤ 10000) : LT.In E w S ⟨some ⟨L, 0, none⟩, n, n, g⟩ := by
  refine ⟨fun _ => ⟨L, 0, rfl, hS, h.box.lt, fun j hj r u hu => ?_⟩, he, Nat.le_refl _, by show n ≤ _; omega, by show n ≤ _; unfold maxLen; omega, fun e => by cases e⟩
  rw [h.box.cell, show 0 + j * E.size + r = j * E.size + r by omega]
  exact h.done j hj r u hu
theorem RowK.some_ {α : Type} {E : El α} {w : World} {L n k : Nat} {g : Nat → α} {cs : Array Value} (h : RowK E w L n k g cs) (hk : k < n) (r : Nat) (hr : r < E.size) : ∃ u, w.cell? ⟨L, k * E.size + r, none⟩ = some u := by
  have hl : k * E.size + E.size ≤ n * E.size := by
    have : (k + 1) * E.size ≤ n * E.size := Nat.mul_le_mul_right _ hk
    rwa [Nat.add_mul, Nat.one_mul] at this
  rw [h.box.cell]
  have : k * E.size + r < cs.size := by rw [h.size]; omega
  exact ⟨cs[k * E.size + r], Array.getElem?_eq_getElem this⟩
end Go.Proofs.Ytpldokahoamdpaa
