import Derived.Test.YtckopbkhpbhljaaPack2
import Derived.Laws.MakeOwn
namespace Go.Proofs.Ytckopbkhpbhljaa
open Go.RowKit
set_option maxRecDepth 8000

/-- cells laid one behind the other from the place o on -/
def setAll (cs : Array Value) (o : Nat) : List Value → Array Value
  | [] => cs
  | u :: us => setAll (cs.setIfInBounds o u) (o + 1) us
theorem setAll_size : ∀ (us : List Value) (cs : Array Value) (o : Nat), (setAll cs o us).size = cs.size := by
  intro us
  induction us with
  | nil => intro cs o; rfl
  | cons u us ih => intro cs o; rw [setAll, ih, Array.size_setIfInBounds]
theorem setAll_get : ∀ (us : List Value) (cs : Array Value) (o : Nat), o + us.length ≤ cs.size → ∀ i, (setAll cs o us)[i]? = if o ≤ i ∧ i < o + us.length then us[i - o]? else cs[i]? := by
  intro us
  induction us with
  | nil => intro cs o _ i; simp only [setAll, List.length_nil]; rw [if_neg (by omega)]
  | cons u us ih =>
    intro cs o h i
    simp only [List.length_cons] at h ⊢
    rw [setAll, ih _ _ (by rw [Array.size_setIfInBounds]; omega)]
    by_cases h1 : o + 1 ≤ i ∧ i < o + 1 + us.length
    · rw [if_pos h1, if_pos (by omega), show i - o = (i - (o + 1)) + 1 by omega]; rfl
    · rw [if_neg h1, Array.getElem?_setIfInBounds]
      by_cases h2 : o = i
      · subst h2
        rw [if_pos rfl, if_pos (by omega), if_pos (by omega), Nat.sub_self]; rfl
      · rw [if_neg h2, if_neg (by omega)]
/-- a row that was made and is being filled: k of its n items are laid -/
structure RowK {α : Type} (E : El α) (w : World) (L n k : Nat) (g : Nat → α) (cs : Array Value) : Prop where
  box : Box w L cs E.ty
  size : cs.size = n * E.size
  done : ∀ j, j < k → ∀ r u, (E.cells (g j))[r]? = some u → cs[j * E.size + r]? = some u
theorem RowK.kept {α : Type} {E : El α} {w w' : World} {L n k : Nat} {g : Nat → α} {cs : Array Value} (h : RowK E w L n k g cs) (hb : w'.heap[L]? = w.heap[L]?) : RowK E w' L n k g cs := ⟨h.box.kept hb, h.size, h.done⟩
theorem RowK.step {α : Type} {E : El α} {w w' : World} {L n k : Nat} {g : Nat → α} {cs : Array Value} {x : α} (h : RowK E w L n k g cs) (hk : k < n) (hb : Box w' L (setAll cs (k * E.size) (E.cells x)) E.ty) :
    RowK E w' L n (k + 1) (fun j => if j < k then g j else x) (setAll cs (k * E.size) (E.cells x)) := by
  have hl : k * E.size + E.size ≤ n * E.size := by
    have : (k + 1) * E.size ≤ n * E.size := Nat.mul_le_mul_right _ hk
    rwa [Nat.add_mul, Nat.one_mul] at this
  refine ⟨hb, by rw [setAll_size]; exact h.size, fun j hj r u hu => ?_⟩
  have hr : r < E.size := by
    rcases Nat.lt_or_ge r E.size with h1 | h1
    · exact h1
    · rw [List.getElem?_eq_none (by rw [E.len]; exact h1)] at hu; cases hu
  rw [setAll_get _ _ _ (by rw [E.len, h.size]; exact hl), E.len]
  by_cases hjk : j < k
  · rw [if_pos hjk] at hu
    have : (j + 1) * E.size ≤ k * E.size := Nat.mul_le_mul_right _ hjk
    rw [Nat.add_mul, Nat.one_mul] at this
    rw [if_neg (by omega)]
    exact h.done j hjk r u hu
  · rw [if_neg hjk] at hu
    obtain rfl : j = k := by omega
    rw [if_pos (by omega), show j * E.size + r - j * E.size = r by omega]
    exact hu
theorem RowK.in_ {α : Type} {E : El α} {w : World} {S : Nat → Prop} {L n : Nat} {g : Nat → α} {cs : Array Value} (h : RowK E w L n n g cs) (hS : S L) (he : ∀ j, j < n → E.In w S (g j)) (hn : n ≤ 10000) : LT.In E w S ⟨some ⟨L, 0, none⟩, n, n, g⟩ := by
  refine ⟨fun _ => ⟨L, 0, rfl, hS, h.box.lt, fun j hj r u hu => ?_⟩, he, Nat.le_refl _, by show n ≤ _; omega, by show n ≤ _; unfold maxLen; omega, fun e => by cases e⟩
  rw [h.box.cell, show 0 + j * E.size + r = j * E.size + r by omega]
  exact h.done j hj r u hu
theorem RowK.some_ {α : Type} {E : El α} {w : World} {L n k : Nat} {g : Nat → α} {cs : Array Value} (h : RowK E w L n k g cs) (hk : k < n) (r : Nat) (hr : r < E.size) : ∃ u, w.cell? ⟨L, k * E.size + r, none⟩ = some u := by
  have hl : k * E.size + E.size ≤ n * E.size := by
    have : (k + 1) * E.size ≤ n * E.size := Nat.mul_le_mul_right _ hk
    rwa [Nat.add_mul, Nat.one_mul] at this
  rw [h.box.cell]
  have : k * E.size + r < cs.size := by rw [h.size]; omega
  exact ⟨cs[k * E.size + r], Array.getElem?_eq_getElem this⟩
end Go.Proofs.Ytckopbkhpbhljaa

namespace Go.Proofs.Ytckopbkhpbhljaa
open Go.RowKit
set_option maxRecDepth 8000
theorem kindLS : ∃ i, Kind 28 9 i (.string ⟨#[]⟩) 1 16 := by
  obtain ⟨i0, hi, hz0, hz1, hz2⟩ := info_parts (show (Try.prog.info? 9).map (fun i => (i.zero, i.size, i.bytes)) = some (some (.string ⟨#[]⟩), 1, 16) by kernel_rfl)
  exact ⟨i0, Try.underlying28, hi, hz0, hz1, hz2, rfl, by decide⟩
set_option maxHeartbeats 2000000 in
theorem flS (Al : ByteArray → ByteArray → Prop) (l : LT ByteArray) (w : World) (S : Nat → Prop) (hin : LT.In elStr w S l) (hn : l.n ≤ 10000)
    (hc : ∀ j, j < l.n → ∀ W, Below w.heap.size w W → Calls Try.prog 67 #[.string (l.item j)] W fun e w' => ∃ u : ByteArray, e = .returned (.string u) ∧ Al (l.item j) u ∧ (elStr).In w' (fun b => W.heap.size ≤ b) u ∧ Below W.heap.size W w') :
    Calls Try.prog 66 #[.slice l.p l.n l.c, .func (.func 67) #[] #[]] w fun e w' => ∃ u : LT ByteArray, e = .returned (.slice u.p u.n u.c) ∧ u.n = l.n ∧ (∀ j, j < l.n → Al (l.item j) (u.item j)) ∧ LT.In elStr w' (fun b => w.heap.size ≤ b) u ∧ Below w.heap.size w w' := by
  obtain ⟨i0, Kd⟩ := kindLS
  have HI := hid hin
  have HC := hid hc
  clear hin hc
  by_cases h0 : l.n = 0
  · go_enter Try.func66, Try.ntmps66
    go_wp2
    refine bodyPost_ret (v := .slice none 0 0) (by simp [results, Try.results66, go_sem]) rfl ⟨⟨none, 0, 0, l.item⟩, rfl, h0.symm, fun j hj => absurd hj (by omega), LT.In.none_ _ _ _ _ _ _ (Nat.zero_le _) (fun _ => rfl), Below.refl _ _⟩
  · obtain ⟨M, hM⟩ : ∃ M, M = madeCells ((.string ⟨#[]⟩ : Value)).cells (((l.n : Nat) : Int).toNat * i0.size) := ⟨_, rfl⟩
    have hMs : M.size = l.n * 1 := by rw [hM, size_madeCells, Kd.hsize]; simp
    have hmk : ∀ W : World, (Instr.makeSlice 28 (.int .i64 (l.n : Int)) (.int .i64 (l.n : Int))).run Try.prog W = .ok (.slice (some ⟨W.heap.size, 0, none⟩) l.n l.n) (W.alloc (.cells M 9)) := fun W => by
      have h := run_make (P := Try.prog) W 28 9 i0 (.string ⟨#[]⟩) Kd.ht Kd.hi Kd.hz .i64 .i64 (l.n : Int) (l.n : Int) (by omega) (by omega) (by rw [Kd.hby]; omega) (by omega)
      rw [← hM] at h
      simpa using h
    clear hM
    obtain ⟨bb, o, hp, hSb, hbl, hat⟩ := HI.out.at_ (by omega)
    have HA := hid hat
    have HR0 : Hid (∀ g, RowK elStr (w.alloc (.cells M 9)) w.heap.size l.n 0 g M) := fun g => ⟨Box.new w M 9, hMs, fun j hj => absurd hj (by omega)⟩
    clear hat hMs
    rw [hp]
    have h0' : ((l.n : Int) == 0) = false := by simp; omega
    go_enter Try.func66, Try.ntmps66
    go_wp2_with fail
    go_loopw [16] (fun x wr => ∃ (k : Nat) (g : Nat → ByteArray) (cs : Array Value), k ≤ l.n ∧ x = .int .i64 (k : Int) ∧ RowK elStr wr w.heap.size l.n k g cs ∧ (∀ q, q < k → Al (l.item q) (g q) ∧ (elStr).In wr (fun b => w.heap.size + 1 ≤ b) (g q)) ∧ Below w.heap.size w wr) (fun x _ => l.n - (intOf x).toNat)
    case atStart => exact ⟨0, l.item, M, Nat.zero_le _, rfl, HR0.out _, fun q hq => absurd hq (by omega), (Below.refl _ _).alloc (Nat.le_refl _) _⟩
    case round =>
      obtain ⟨k, g, cs, hk, rfl, hR, hal, hbel⟩ := hrel
      have HR := hid hR
      have HAl := hid hal
      have HB := hid hbel
      have hL := hR.box.lt
      clear hR hal hbel hmk HR0
      by_cases hlt : k < l.n
      · have hlt' : (k : Int) < (l.n : Int) := by omega
        have hcell : ∀ r u, ((elStr).cells (l.item k))[r]? = some u → wr.cell? ⟨bb, o + k * 1 + r, none⟩ = some u := fun r u hu => (World.cell?_of_block (a := ⟨bb, o + k * 1 + r, none⟩) (HB.out.block bb hbl)).trans (HA.out k hlt r u hu)
        have c0 : wr.cell? ⟨bb, o + k, none⟩ = some (.string (l.item k)) := by have h := hcell 0 _ rfl; simpa using h
        clear hcell
        have HC1 := hid (HC.out k hlt)
        go_wp2_with fail
        refine (HC1.out _ ?_).mono ?_
        · exact HB.out
        rintro e w4 ⟨u, rfl, hal4, hin4, hb4⟩
        have hbW : Below wr.heap.size wr w4 := (Below.refl wr.heap.size wr).trans (hb4.mono (by simp))
        have hR4 := HR.out.kept (hbW.block _ hL)
        have hal5 : ∀ q, q < k → Al (l.item q) (g q) ∧ (elStr).In w4 (fun b => w.heap.size + 1 ≤ b) (g q) := fun q hq => ⟨(HAl.out q hq).1, (elStr).kept (HAl.out q hq).2 hbW.size (fun b _ hl => hbW.block b hl)⟩
        have hu4 : (elStr).In w4 (fun b => w.heap.size + 1 ≤ b) u := (elStr).mono hin4 (fun b hb _ => by have : wr.heap.size ≤ b := Nat.le_trans (by simp) hb; omega)
        have HU := hid (And.intro hal4 (And.intro hu4 (And.intro hal5 (And.intro hbW hR4))))
        have hL4 := hR4.box.lt
        obtain ⟨z0, hz0⟩ : ∃ x, w4.cell? ⟨w.heap.size, k, none⟩ = some x := by have h := hR4.some_ hlt 0 (by decide); rw [show k * elStr.size + 0 = k from Nat.mul_one k] at h; exact h
        have f0 := hR4.box.frozen k
        clear hal4 hu4 hal5 hbW hR4 hin4 hb4 HC1 HAl HR c0
        go_wp2
        go_roundw
        case rel =>
          obtain ⟨hal4, hu4, hal5, hbW, hR4⟩ := HU.out
          have hk : But (fun x => x = w.heap.size) w4 ((w4.setCell ⟨w.heap.size, k, none⟩ (.string u))) := ((But.one w4 w.heap.size).setAt k _)
          refine ⟨k + 1, _, _, by omega, by go_num, hR4.step (x := u) hlt ?_, fun q hq => ?_, ?_⟩
          · exact (by rw [show k * elStr.size = k from Nat.mul_one k]; exact hR4.box.set k (.string u))
          · by_cases hq2 : q < k
            · rw [if_pos hq2]
              exact ⟨(hal5 q hq2).1, (elStr).kept (hal5 q hq2).2 hk.size (fun b hb hl => hk.block b hl (by omega))⟩
            · rw [if_neg hq2]
              obtain rfl : q = k := by omega
              exact ⟨hal4, (elStr).kept hu4 hk.size (fun b hb hl => hk.block b hl (by omega))⟩
          · exact (HB.out.trans (hbW.mono HB.out.size)).trans (hk.below (by omega) (fun x hx => by omega))
        case measure => simp [intOf]; omega
      · obtain rfl : k = l.n := by omega
        clear HC HA
        go_wp2
        refine bodyPost_ret (v := .slice (some ⟨w.heap.size, 0, none⟩) l.n l.n) (by simp [results, Try.results66, go_sem]) rfl ⟨⟨some ⟨w.heap.size, 0, none⟩, l.n, l.n, g⟩, rfl, rfl, fun j hj => (HAl.out j hj).1, ?_, HB.out⟩
        exact HR.out.in_ (Nat.le_refl _) (fun j hj => (elStr).mono (HAl.out j hj).2 (fun b hb _ => by omega)) hn
end Go.Proofs.Ytckopbkhpbhljaa
