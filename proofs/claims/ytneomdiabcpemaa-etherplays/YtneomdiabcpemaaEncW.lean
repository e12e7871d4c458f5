import Derived.Test.YtneomdiabcpemaaPack34
namespace Go.Proofs.Ytneomdiabcpemaa
open Go.RowKit
set_option maxRecDepth 8000

theorem compl64 (X : Nat) (h : X < 2 ^ 64) : (2 ^ 64 - 1) ^^^ X = 2 ^ 64 - (X + 1) := by
  apply Nat.eq_of_testBit_eq
  intro i
  rw [Nat.testBit_xor, Nat.testBit_two_pow_sub_one, Nat.testBit_two_pow_sub_succ h]
  by_cases hi : i < 64
  · simp [hi]
  · have hx : X.testBit i = false := Nat.testBit_lt_two_pow (Nat.lt_of_lt_of_le h (Nat.pow_le_pow_right (by omega) (by omega)))
    simp [hi, hx]
theorem or_one (Y : Nat) : (2 * Y) ||| 1 = 2 * Y + 1 := by
  have := Nat.shiftLeft_add_eq_or_of_lt (b := 1) (i := 1) (by omega) Y
  rw [Nat.shiftLeft_eq] at this
  rw [Nat.mul_comm, show Y * 2 = Y * 2 ^ 1 from rfl, ← this]
theorem fold_neg (i : Int) (h1 : -9223372036854775808 ≤ i) (h : i < 0) :
    bits BinOp.or IntKind.u64 (IntKind.u64.wrap (bits BinOp.xor IntKind.u64 IntKind.u64.max (IntKind.u64.wrap i) * 2)) 1 = ((foldN i : Nat) : Int) := by
  obtain ⟨X, hX⟩ := Int.eq_ofNat_of_zero_le (show 0 ≤ i + 18446744073709551616 by omega)
  have e : IntKind.u64.wrap i = (X : Int) := by rw [wrap_u64]; omega
  have hm : IntKind.u64.max = ((18446744073709551615 : Nat) : Int) := by decide
  have h2 := bits_xor_u64_nat 18446744073709551615 X (by omega) (by omega)
  have h3 : 18446744073709551615 ^^^ X = 18446744073709551616 - (X + 1) := compl64 X (by omega)
  rw [h3] at h2
  rw [e, hm, h2]
  obtain ⟨Y, hY⟩ : ∃ Y : Nat, Y = 18446744073709551616 - (X + 1) := ⟨_, rfl⟩
  rw [← hY]
  have e2 : IntKind.u64.wrap ((Y : Int) * 2) = ((2 * Y : Nat) : Int) := by rw [wrap_u64]; omega
  have h4 := bits_or_u64_nat (2 * Y) 1 (by omega) (by omega)
  rw [or_one] at h4
  rw [e2]
  have h5 : foldN i = 2 * Y + 1 := by unfold foldN; rw [if_pos h]; omega
  rw [h5]
  exact h4

theorem one8 (x : Int) : ∀ u ∈ [Value.int .u8 x], u.oneCell' = true := by
  intro u hu
  simp only [List.mem_singleton] at hu
  subst hu
  rfl
/-- one more byte -/
theorem OwnBy.one {base : Nat} {w w' : World} {v v' : Value} {zs : List Int} {x : Int} (h : OwnBy base w v zs) (ho : w'.ownsRow base 5 1 v' (zs.length + 1) (zs.map (Value.int .u8) ++ [.int .u8 x])) : OwnBy base w' v' (zs ++ [x]) := h.app (ys := [x]) ho
theorem below_row {base : Nat} {w w1 w2 : World} {v : Value} {zs : List Int} (hb : Below base w w1) (hB : base ≤ w1.heap.size) (hv : OwnBy base w1 v zs) (o : Obj) (hg : (w1.alloc o).grownBy w2 v.ownBlock) : Below base w w2 :=
  (hb.trans (((Below.refl w1.heap.size w1).alloc (Nat.le_refl _) o).mono hB)).grown hg (by simp; omega) (fun k hk => (World.ownsRow.lt hv k hk).1)

/-- what is no row of bytes stays -/
def KeepN (w w' : World) : Prop := ∀ (B : Nat) (o : Obj), (∀ cs z, o ≠ Obj.cells cs 5 z) → w.heap[B]? = some o → w'.heap[B]? = some o
theorem KeepN.refl (w : World) : KeepN w w := fun _ _ _ h => h
theorem KeepN.trans {a b c : World} (h : KeepN a b) (k : KeepN b c) : KeepN a c := fun B o he hb => k B o he (h B o he hb)
theorem KeepN.below {w w' : World} (h : Below w.heap.size w w') : KeepN w w' := fun B o _ hb => by
  have hl : B < w.heap.size := by
    rcases Nat.lt_or_ge B w.heap.size with h1 | h1
    · exact h1
    · rw [Array.getElem?_eq_none h1] at hb; cases hb
  rw [h.block B hl]; exact hb
theorem KeepN.box {w w' : World} (h : KeepN w w') {B : Nat} {cs : Array Value} {e : TypeId} (he : e ≠ 5) (hb : Box w B cs e) : Box w' B cs e := h B _ (fun cs2 z e2 => by simp only [Obj.cells.injEq] at e2; exact he e2.2.1) hb
theorem KeepN.grown {base : Nat} {w w' : World} {v : Value} {zs : List Int} (hv : OwnBy base w v zs) (hg : w.grownBy w' v.ownBlock) : KeepN w w' := fun B o he hb => by
  have hl : B < w.heap.size := by
    rcases Nat.lt_or_ge B w.heap.size with h1 | h1
    · exact h1
    · rw [Array.getElem?_eq_none h1] at hb; cases hb
  refine (hg.block B hl fun hB => ?_).trans hb
  obtain ⟨_, ⟨hv2, _⟩ | ⟨g, cap, cur, hv2, _, hh, _⟩⟩ := id hv
  · rw [hv2] at hB; cases hB
  · rw [hv2] at hB
    have e1 : B = g := by simpa [Value.ownBlock] using hB
    rw [e1, hh] at hb
    simp only [Option.some.injEq] at hb
    exact he _ _ hb.symm
/-- bytes laid behind a row -/
structure LayB (base : Nat) (w : World) (zs : List Int) (v' : Value) (w' : World) : Prop where
  own : OwnBy base w' v' zs
  bel : Below base w w'
  keep : KeepN w w'
theorem LayB.refl {base : Nat} {w : World} {v : Value} {zs : List Int} (h : OwnBy base w v zs) : LayB base w zs v w := ⟨h, Below.refl _ _, KeepN.refl _⟩
theorem LayB.lift {base : Nat} {a w w' : World} {v' : Value} {zs : List Int} (h : LayB base w zs v' w') (hb : Below base a w) (hk : KeepN a w) : LayB base a zs v' w' := ⟨h.own, hb.trans h.bel, hk.trans h.keep⟩
/-- one byte more, by an append of a new list -/
theorem LayB.one {base : Nat} {a w w' : World} {v v' : Value} {zs : List Int} {x : Int} (h : LayB base a zs v w) (hB : base ≤ w.heap.size) (ho : w'.ownsRow base 5 1 v' (zs.length + 1) (zs.map (Value.int .u8) ++ [.int .u8 x])) (hg : (w.alloc (.cells #[.int .u8 x] 5)).grownBy w' v.ownBlock) : LayB base a (zs ++ [x]) v' w' :=
  ⟨h.own.one ho, below_row h.bel hB h.own _ hg, (h.keep.trans (KeepN.below ((Below.refl _ _).alloc (Nat.le_refl _) _))).trans (KeepN.grown (h.own.below ((Below.refl _ _).alloc (Nat.le_refl _) _)) hg)⟩
/-- a text's bytes more -/
theorem LayB.text {base : Nat} {a w w' : World} {v v' : Value} {zs : List Int} {s : ByteArray} (h : LayB base a zs v w) (hB : base ≤ w.heap.size) (ho : w'.ownsRow base 5 1 v' (zs.length + s.size) (zs.map (Value.int .u8) ++ Go.Lib.strCells s)) (hg : w.grownBy w' v.ownBlock) : LayB base a (zs ++ txtB s) v' w' :=
  ⟨h.own.app (by rw [← strCells_txt, txtB_len]; exact ho), h.bel.grown hg hB (fun k hk => (World.ownsRow.lt h.own k hk).1), h.keep.trans (KeepN.grown h.own hg)⟩
def EPost (base : Nat) (w : World) (zs : List Int) (e : Ending) (w' : World) : Prop := ∃ v', e = .returned v' ∧ LayB base w zs v' w'

end Go.Proofs.Ytneomdiabcpemaa
