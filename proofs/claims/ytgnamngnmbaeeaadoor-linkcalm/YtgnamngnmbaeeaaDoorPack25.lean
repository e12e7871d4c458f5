import Derived.Test.YtgnamngnmbaeeaaDoorLong
import Derived.Test.YtgnamngnmbaeeaaDoorPack4
import Derived.Test.YtgnamngnmbaeeaaDoorLnE
namespace Go.Proofs.YtgnamngnmbaeeaaDoor
namespace Crc

theorem E_lt {q : Nat} (h : q < 4294967296) : E q < 4294967296 := by
  unfold E
  refine xor_lt32 (by omega) ?_
  cases q.testBit 0 <;> decide
theorem E_eq_zero {q : Nat} (h : q < 4294967296) (e : E q = 0) : q = 0 := by
  unfold E at e
  cases hb : q.testBit 0 with
  | false =>
    rw [hb] at e
    simp only [fb, Bool.false_eq_true, if_false, Nat.xor_zero] at e
    rw [Nat.testBit_zero] at hb
    simp at hb
    omega
  | true =>
    rw [hb] at e
    simp only [fb, if_true] at e
    have h2 : q / 2 = pol := by
      have : q / 2 = (q / 2 ^^^ pol) ^^^ pol := by rw [Nat.xor_assoc, Nat.xor_self, Nat.xor_zero]
      rw [this, e, Nat.zero_xor]
    have : pol = 3988292384 := rfl
    omega
theorem it_lt {q : Nat} (h : q < 4294967296) (k : Nat) : it k q < 4294967296 := by
  induction k with
  | zero => exact h
  | succ k ih => exact E_lt ih
theorem it_eq_zero {q : Nat} (h : q < 4294967296) (k : Nat) (e : it k q = 0) : q = 0 := by
  induction k with
  | zero => exact e
  | succ k ih => exact ih (E_eq_zero (it_lt h k) e)

/-- a register that is fed its own bits runs out -/
theorem D_own (f : Nat → Bool) (q k : Nat) (h : ∀ j, j < k → f j = q.testBit j) : D f q k = q / 2 ^ k := by
  induction k with
  | zero => simp [D]
  | succ k ih =>
    show E (D f q k) ^^^ fb (f k) = _
    rw [ih (fun j hj => h j (by omega)), h k (by omega)]
    unfold E
    have hb : (q / 2 ^ k).testBit 0 = q.testBit k := by rw [Nat.testBit_div_two_pow]; simp
    rw [hb, Nat.xor_assoc, Nat.xor_self, Nat.xor_zero, Nat.div_div_eq_div_mul, Nat.pow_succ]

/-- a number of 32 given bits -/
def num32 (f : Nat → Bool) : Nat → Nat
  | 0 => 0
  | k + 1 => num32 f k + (if f k then 2 ^ k else 0)
theorem num32_lt (f : Nat → Bool) (k : Nat) : num32 f k < 2 ^ k := by
  induction k with
  | zero => simp [num32]
  | succ k ih => rw [Nat.pow_succ]; simp only [num32]; split <;> omega
theorem num32_bit (f : Nat → Bool) (k j : Nat) : (num32 f k).testBit j = (decide (j < k) && f j) := by
  induction k with
  | zero => simp [num32]
  | succ k ih =>
    have hlt := num32_lt f k
    simp only [num32]
    cases hf : f k with
    | false =>
      simp only [Bool.false_eq_true, if_false, Nat.add_zero, ih]
      by_cases hj : j = k
      · subst hj; simp [hf]
      · rw [show decide (j < k) = decide (j < k + 1) by rw [decide_eq_decide]; omega]
    | true =>
      simp only [if_true]
      rw [Nat.add_comm]
      by_cases hj : j = k
      · subst hj
        rw [Nat.testBit_two_pow_add_eq, ih]
        simp [hf]
      · by_cases hlj : j < k
        · rw [Nat.testBit_two_pow_add_gt hlj, ih]
          simp [hlj, show j < k + 1 by omega]
        · have : (2 ^ k + num32 f k).testBit j = false := Nat.testBit_lt_two_pow (Nat.lt_of_lt_of_le (by rw [Nat.pow_succ]; omega : 2 ^ k + num32 f k < 2 ^ (k + 1)) (Nat.pow_le_pow_right (by omega) (by omega)))
          rw [this]; simp; omega

theorem D32_ne (g : Nat → Bool) (j : Nat) (hj : j < 32) (h : g j = true) : D g 0 32 ≠ 0 := by
  intro e
  have h1 := D_own g (num32 g 32) 32 (fun i hi => by rw [num32_bit]; simp [hi])
  have h2 : num32 g 32 / 2 ^ 32 = 0 := Nat.div_eq_of_lt (num32_lt g 32)
  have h3 := D_xor g (fun _ => false) 0 (num32 g 32) 32
  simp only [Bool.xor_false, Nat.zero_xor, D_zeros] at h3
  rw [h1, h2, e, Nat.zero_xor] at h3
  have h4 := it_eq_zero (num32_lt g 32) 32 h3.symm
  have h5 := num32_bit g 32 j
  rw [h4] at h5
  simp [hj, h] at h5

theorem D_lt (e : Nat → Bool) (q : Nat) (h : q < 4294967296) (k : Nat) : D e q k < 4294967296 := by
  induction k with
  | zero => exact h
  | succ k ih =>
    refine xor_lt32 (E_lt ih) ?_
    cases e k <;> decide

/-- turned bits within 32 neighbours leave the register unlike -/
theorem burst_ne (e : Nat → Bool) (f N j : Nat) (hlo : ∀ i, i < f → e i = false) (hhi : ∀ i, f + 32 ≤ i → e i = false) (hN : ∀ i, N ≤ i → e i = false) (hj : e j = true) : D e 0 N ≠ 0 := by
  have hfj : f ≤ j ∧ j < f + 32 := by
    refine ⟨Nat.le_of_not_lt fun h => ?_, Nat.lt_of_not_le fun h => ?_⟩
    · rw [hlo j h] at hj; cases hj
    · rw [hhi j h] at hj; cases hj
  have h0 : D e 0 f = 0 := by rw [D_congr e (fun _ => false) 0 f (fun i hi => hlo i hi), D_zeros, it_zero]
  have h1 : D e 0 (f + 32) ≠ 0 := by
    rw [D_shift, h0]
    exact D32_ne (fun i => e (f + i)) (j - f) (by omega) (by show e (f + (j - f)) = true; rw [show f + (j - f) = j by omega]; exact hj)
  have hz : ∀ a m, (∀ i, a ≤ i → e i = false) → D e 0 (a + m) = it m (D e 0 a) := by
    intro a m ha
    rw [D_shift, D_congr (fun i => e (a + i)) (fun _ => false) _ m (fun i _ => ha (a + i) (by omega)), D_zeros]
  intro hNz
  rcases Nat.le_total (f + 32) N with hle | hle
  · rw [show N = (f + 32) + (N - (f + 32)) by omega, hz _ _ hhi] at hNz
    have hlt : D e 0 (f + 32) < 4294967296 := D_lt e 0 (by omega) _
    exact h1 (it_eq_zero hlt _ hNz)
  · rw [show f + 32 = N + (f + 32 - N) by omega, hz _ _ hN, hNz, it_zero] at h1
    exact h1 rfl
end Crc

theorem byte_ext {x y : Int} (hx : 0 ≤ x ∧ x < 256) (hy : 0 ≤ y ∧ y < 256) (h : ∀ j, j < 8 → x.toNat.testBit j = y.toNat.testBit j) : x = y := by
  have e : x.toNat = y.toNat := by
    apply Nat.eq_of_testBit_eq
    intro j
    by_cases hj : j < 8
    · exact h j hj
    · have hp : (256 : Nat) ≤ 2 ^ j := Nat.pow_le_pow_right (n := 2) (i := 8) (by omega) (by omega)
      rw [Nat.testBit_lt_two_pow (show x.toNat < 2 ^ j by omega), Nat.testBit_lt_two_pow (show y.toNat < 2 ^ j by omega)]
  omega

/-- bytes with the same bits are the same -/
theorem list_ext {a b : List Int} (hl : a.length = b.length) (ha : ∀ z ∈ a, 0 ≤ z ∧ z < 256) (hb : ∀ z ∈ b, 0 ≤ z ∧ z < 256) (h : ∀ i, i < 8 * a.length → Crc.bitOf a i = Crc.bitOf b i) : a = b := by
  apply List.ext_getElem hl
  intro i h1 h2
  have hza := ha a[i] (List.getElem_mem h1)
  have hzb := hb b[i] (List.getElem_mem h2)
  refine byte_ext hza hzb fun j hj => ?_
  have := h (8 * i + j) (by omega)
  unfold Crc.bitOf at this
  rw [show (8 * i + j) / 8 = i by omega, show (8 * i + j) % 8 = j by omega] at this
  simpa [List.getD_eq_getElem?_getD, List.getElem?_eq_getElem h1, List.getElem?_eq_getElem h2] using this

theorem bitOf_append_left (a b : List Int) (i : Nat) (h : i < 8 * a.length) : Crc.bitOf (a ++ b) i = Crc.bitOf a i := by
  unfold Crc.bitOf
  rw [List.getD_eq_getElem?_getD, List.getD_eq_getElem?_getD, List.getElem?_append_left (by omega)]
theorem bitOf_drop (a : List Int) (k i : Nat) : Crc.bitOf (a.drop k) i = Crc.bitOf a (8 * k + i) := by
  unfold Crc.bitOf
  rw [List.getD_eq_getElem?_getD, List.getD_eq_getElem?_getD, List.getElem?_drop, show (8 * k + i) / 8 = k + i / 8 by omega, show (8 * k + i) % 8 = i % 8 by omega]
theorem bitOf_take (a : List Int) (k i : Nat) (h : i < 8 * k) : Crc.bitOf (a.take k) i = Crc.bitOf a i := by
  unfold Crc.bitOf
  rw [List.getD_eq_getElem?_getD, List.getD_eq_getElem?_getD, List.getElem?_take, if_pos (by omega)]

/-- the bits of a sum's four bytes -/
theorem tl_bit (s j : Nat) (hs : s < 4294967296) (hj : j < 32) : Crc.bitOf (tl s) j = s.testBit j := by
  have h : (((tl s).getD (j / 8) 0).toNat) = s / 2 ^ (8 * (j / 8)) % 256 := by
    have : j / 8 = 0 ∨ j / 8 = 1 ∨ j / 8 = 2 ∨ j / 8 = 3 := by omega
    rcases this with h | h | h | h <;> rw [h] <;> simp [tl] <;> omega
  unfold Crc.bitOf
  rw [h, show (256 : Nat) = 2 ^ 8 by decide, Nat.testBit_mod_two_pow, Nat.testBit_div_two_pow]
  simp [show j % 8 < 8 by omega, show j % 8 + 8 * (j / 8) = j by omega]

/-- a frame with turned bits behind its head: bits within 32 neighbours -/
theorem unw_burst (za zs : List Int) (e : Nat → Bool) (f j : Nat) (hm : za.length ≤ 32768) (ha : ∀ z ∈ za, 0 ≤ z ∧ z < 256) (hb : ∀ z ∈ zs, 0 ≤ z ∧ z < 256) (hl : zs.length = za.length + 8)
    (hbit : ∀ i, i < 8 * zs.length → Crc.bitOf zs i = (Crc.bitOf (frameOf za) i ^^ e i)) (hhead : ∀ i, i < 32 → e i = false) (hf : 32 ≤ f) (hlo : ∀ i, i < f → e i = false) (hhi : ∀ i, f + 32 ≤ i → e i = false)
    (hN : ∀ i, 8 * zs.length ≤ i → e i = false) (hj : e j = true) : unw zs = (13, []) := by
  have hfb := frameOf_byte za hm ha
  have hfl := frameOf_length za
  have hhd : zs.take 4 = hd za.length := by
    have h4 : zs.take 4 = (frameOf za).take 4 := by
      refine list_ext (by simp; omega) (fun z hz => hb z (List.mem_of_mem_take hz)) (fun z hz => hfb z (List.mem_of_mem_take hz)) fun i hi => ?_
      have hi' : i < 32 := by simp at hi; omega
      rw [bitOf_take _ 4 i (by omega), bitOf_take _ 4 i (by omega), hbit i (by omega), hhead i hi', Bool.xor_false]
    rw [h4]
    unfold frameOf
    rw [List.append_assoc]
    exact take4_hd _ _
  refine unw_sum hm hhd (by omega) fun ht => ?_
  have hbody : ∀ i, i < 8 * za.length → Crc.bitOf ((zs.drop 4).take za.length) i = (Crc.bitOf za i ^^ e (32 + i)) := by
    intro i hi
    rw [bitOf_take _ _ _ hi, bitOf_drop, hbit (8 * 4 + i) (by omega)]
    congr 1
    rw [← bitOf_drop]
    unfold frameOf
    rw [List.append_assoc, drop4_hd, bitOf_append_left _ _ _ hi]
  have hbl : ((zs.drop 4).take za.length).length = za.length := by simp; omega
  have hbb : ∀ z ∈ (zs.drop 4).take za.length, 0 ≤ z ∧ z < 256 := fun z hz => hb z (List.mem_of_mem_drop (List.mem_of_mem_take hz))
  have hreg : Crc.reg Crc.ones ((zs.drop 4).take za.length) = Crc.reg Crc.ones za ^^^ Crc.D (fun i => e (32 + i)) 0 (8 * za.length) := by
    have h1 := Crc.reg_D Crc.ones ((zs.drop 4).take za.length) hbb za.length (by omega)
    have h2 := Crc.reg_D Crc.ones za ha za.length (Nat.le_refl _)
    rw [show ((zs.drop 4).take za.length).take za.length = (zs.drop 4).take za.length from List.take_of_length_le (by omega)] at h1
    rw [List.take_length] at h2
    rw [← h1, ← h2, ← Crc.D_xor, Nat.xor_zero]
    exact Crc.D_congr _ _ _ _ hbody
  have l1 : Crc.reg Crc.ones za < 4294967296 := Crc.reg_lt _ _ (by decide) ha
  have l2 : Crc.reg Crc.ones ((zs.drop 4).take za.length) < 4294967296 := Crc.reg_lt _ _ (by decide) hbb
  have hDlt : Crc.D (fun i => e (32 + i)) 0 (8 * za.length) < 4294967296 := Crc.D_lt _ 0 (by omega) _
  have hadd : Crc.add 0 ((zs.drop 4).take za.length) = Crc.add 0 za ^^^ Crc.D (fun i => e (32 + i)) 0 (8 * za.length) := by
    show Crc.ones - Crc.reg (Crc.ones - 0) _ = (Crc.ones - Crc.reg (Crc.ones - 0) _) ^^^ _
    rw [Nat.sub_zero, Crc.compl_xor _ l2, Crc.compl_xor _ l1, hreg]
    rw [Nat.xor_assoc, Nat.xor_assoc, Nat.xor_comm Crc.ones]
  have hs : Crc.add 0 za < 4294967296 := by unfold Crc.add Crc.ones; omega
  have hs' : Crc.add 0 ((zs.drop 4).take za.length) < 4294967296 := by unfold Crc.add Crc.ones; omega
  have htail : ∀ i, i < 32 → (Crc.D (fun i => e (32 + i)) 0 (8 * za.length)).testBit i = e (32 + (8 * za.length + i)) := by
    intro i hi
    have h1 : Crc.bitOf ((zs.drop (4 + za.length)).take 4) i = (Crc.add 0 ((zs.drop 4).take za.length)).testBit i := by rw [ht, tl_bit _ _ hs' hi]
    rw [bitOf_take _ _ _ (by omega), bitOf_drop, hbit _ (by omega)] at h1
    have h2 : Crc.bitOf (frameOf za) (8 * (4 + za.length) + i) = (Crc.add 0 za).testBit i := by
      rw [← bitOf_drop, ← List.drop_drop]
      unfold frameOf
      rw [List.append_assoc, drop4_hd, List.drop_left, tl_bit _ _ hs hi]
    rw [h2, hadd, Nat.testBit_xor] at h1
    rw [show 8 * (4 + za.length) + i = 32 + (8 * za.length + i) by omega] at h1
    generalize (Crc.add 0 za).testBit i = x at h1
    generalize (Crc.D (fun i => e (32 + i)) 0 (8 * za.length)).testBit i = y at h1 ⊢
    generalize e (32 + (8 * za.length + i)) = z at h1 ⊢
    cases x <;> cases y <;> cases z <;> simp at h1 ⊢
  have hzero : Crc.D (fun i => e (32 + i)) 0 (8 * za.length + 32) = 0 := by
    rw [Crc.D_shift, Crc.D_own _ _ 32 (fun i hi => (htail i hi).symm)]
    exact Nat.div_eq_of_lt hDlt
  have hj32 : 32 ≤ j := Nat.le_of_not_lt fun h => by rw [hhead j h] at hj; cases hj
  refine Crc.burst_ne (fun i => e (32 + i)) (f - 32) (8 * za.length + 32) (j - 32) (fun i hi => hlo _ (by omega)) (fun i hi => hhi _ (by omega)) (fun i hi => hN _ (by omega)) ?_ hzero
  show e (32 + (j - 32)) = true
  rw [show 32 + (j - 32) = j by omega]
  exact hj

theorem pow_byte (r : Nat) (h : r < 8) : 2 ^ r < 256 := Nat.lt_of_le_of_lt (Nat.pow_le_pow_right (n := 2) (by omega) (show r ≤ 7 by omega)) (by decide)
theorem xor_byte {y r : Nat} (hy : y < 256) (h : r < 8) : y ^^^ 2 ^ r < 256 := Nat.xor_lt_two_pow (n := 8) hy (pow_byte r h)
theorem xor_pow_ne (y r : Nat) : y ^^^ 2 ^ r ≠ y := by
  intro h
  have h1 : (y ^^^ 2 ^ r).testBit r = y.testBit r := by rw [h]
  rw [Nat.testBit_xor, Nat.testBit_two_pow] at h1
  cases hy : y.testBit r <;> simp [hy] at h1

/-- one bit turned -/
theorem bitOf_set (F : List Int) (k y : Nat) (hk : k < 8 * F.length) (hy : F.getD (k / 8) 0 = (y : Int)) (i : Nat) :
    Crc.bitOf (F.set (k / 8) ((y ^^^ 2 ^ (k % 8) : Nat) : Int)) i = (Crc.bitOf F i ^^ decide (i = k)) := by
  unfold Crc.bitOf
  by_cases h : i / 8 = k / 8
  · rw [h, hy]
    have e : (F.set (k / 8) ((y ^^^ 2 ^ (k % 8) : Nat) : Int)).getD (k / 8) 0 = ((y ^^^ 2 ^ (k % 8) : Nat) : Int) := by
      rw [List.getD_eq_getElem?_getD, List.getElem?_set_self (by omega)]; rfl
    rw [e, Int.toNat_natCast, Int.toNat_natCast, Nat.testBit_xor, Nat.testBit_two_pow]
    congr 1
    rw [decide_eq_decide]
    omega
  · have e : (F.set (k / 8) ((y ^^^ 2 ^ (k % 8) : Nat) : Int)).getD (i / 8) 0 = F.getD (i / 8) 0 := by
      rw [List.getD_eq_getElem?_getD, List.getD_eq_getElem?_getD, List.getElem?_set_ne (fun h' => h h'.symm)]
    rw [e, decide_eq_false (show ¬ i = k from fun h' => h (by rw [h'])), Bool.xor_false]

theorem unw_flip_tail (za : List Int) (k y : Nat) (hm : za.length ≤ 32768) (ha : ∀ z ∈ za, 0 ≤ z ∧ z < 256) (hk : k < 8 * (za.length + 8)) (hk32 : 32 ≤ k) (hyl : y < 256) (hy : (frameOf za).getD (k / 8) 0 = (y : Int)) :
    unw ((frameOf za).set (k / 8) ((y ^^^ 2 ^ (k % 8) : Nat) : Int)) = (13, []) := by
  have hl := frameOf_length za
  refine unw_burst za _ (fun i => decide (i = k)) k k hm ha (fun z hz => ?_) (by simp [hl]) (fun i hi => bitOf_set _ k y (by omega) hy i) ?_ hk32 ?_ ?_ ?_ (by simp)
  · rcases List.mem_or_eq_of_mem_set hz with h | h
    · exact frameOf_byte za hm ha z h
    · have := xor_byte hyl (Nat.mod_lt k (by omega : 0 < 8)); omega
  · intro i hi; exact decide_eq_false (by omega)
  · intro i hi; exact decide_eq_false (by omega)
  · intro i hi; exact decide_eq_false (by omega)
  · intro i hi; simp [hl] at hi; exact decide_eq_false (by omega)

theorem unw_flip_head (za : List Int) (k y : Nat) (hm : za.length ≤ 32768) (hk32 : k < 32) (_hyl : y < 256) (hy : (frameOf za).getD (k / 8) 0 = (y : Int)) :
    unw ((frameOf za).set (k / 8) ((y ^^^ 2 ^ (k % 8) : Nat) : Int)) = (12, []) := by
  have hl := frameOf_length za
  have hne : ((y ^^^ 2 ^ (k % 8) : Nat) : Int) ≠ (y : Int) := by have := xor_pow_ne y (k % 8); omega
  refine unw_bad (by simp [hl]) fun m hmm h => ?_
  rw [take4 _ (by simp [hl])] at h
  have h4 : ∀ i, i < 4 → (frameOf za).getD i 0 = (hd za.length).getD i 0 := by
    intro i hi
    unfold frameOf
    rw [List.append_assoc, List.getD_eq_getElem?_getD, List.getElem?_append_left (by simpa [hd] using hi), ← List.getD_eq_getElem?_getD]
  have hs : ∀ i, ((frameOf za).set (k / 8) ((y ^^^ 2 ^ (k % 8) : Nat) : Int)).getD i 0 = if i = k / 8 then ((y ^^^ 2 ^ (k % 8) : Nat) : Int) else (frameOf za).getD i 0 := by
    intro i
    by_cases hi : i = k / 8
    · rw [if_pos hi, hi, List.getD_eq_getElem?_getD, List.getElem?_set_self (by omega)]; rfl
    · rw [if_neg hi, List.getD_eq_getElem?_getD, List.getD_eq_getElem?_getD, List.getElem?_set_ne (fun h' => hi h'.symm)]
  generalize ((y ^^^ 2 ^ (k % 8) : Nat) : Int) = Y at *
  rw [hs 0, hs 1, hs 2, hs 3, h4 0 (by omega), h4 1 (by omega), h4 2 (by omega), h4 3 (by omega)] at h
  rw [h4 (k / 8) (by omega)] at hy
  have hc : k / 8 = 0 ∨ k / 8 = 1 ∨ k / 8 = 2 ∨ k / 8 = 3 := by omega
  rcases hc with hc | hc | hc | hc <;> rw [hc] at h hy <;> simp [hd] at h hy <;> omega
end Go.Proofs.YtgnamngnmbaeeaaDoor

namespace Go.Proofs.YtgnamngnmbaeeaaDoor
open Go.RowKit
set_option maxRecDepth 8000
theorem readP_of_unw {zs : List Int} {e : Nat} (h : unw zs = (e, [])) (he : e ≠ 0) : readP zs = none := by
  unfold readP
  have h1 : (exa zs).2 = [] := by
    refine exa_err zs ?_
    unfold exa
    rw [h, if_neg he]
    exact he
  rw [h1]
  rfl
/-- a frame with one bit turned is no packet -/
theorem read_flip (za : List Int) (k y : Nat) (hm : za.length ≤ 32768) (ha : ∀ z ∈ za, 0 ≤ z ∧ z < 256) (hk : k < 8 * (za.length + 8)) (hyl : y < 256) (hy : (frameOf za).getD (k / 8) 0 = (y : Int)) :
    readP ((frameOf za).set (k / 8) ((y ^^^ 2 ^ (k % 8) : Nat) : Int)) = none := by
  rcases Nat.lt_or_ge k 32 with h | h
  · exact readP_of_unw (unw_flip_head za k y hm h hyl hy) (by decide)
  · exact readP_of_unw (unw_flip_tail za k y hm ha hk h hyl hy) (by decide)
theorem unpE_none {ln : Nat} {k : Int} {zs : List Int} (h : readP zs = none) : unpE ln k zs = 212 := by
  unfold unpE
  rw [h]
theorem ackE_none {A : SA} {zs : List Int} (h : readP zs = none) : ackE A zs = 212 := by
  unfold ackE
  rw [unpE_none h]
  rfl
theorem laneV_none {zs : List Int} (h : readP zs = none) : laneV zs = .tuple #[.int .i64 0, .bool false, .bool false] := by
  unfold laneV
  rw [h]
/-- what a pool holds: frames of bodies -/
def Frm (zs : List Int) : Prop := ∃ za, zs = frameOf za ∧ za.length ≤ 32768 ∧ ∀ z ∈ za, 0 ≤ z ∧ z < 256
/-- the packet with one bit turned -/
def flipZ (zs : List Int) (k : Nat) : List Int := zs.set (k / 8) (((zs.getD (k / 8) 0).toNat ^^^ 2 ^ (k % 8) : Nat) : Int)
theorem Frm.flip {zs : List Int} (h : Frm zs) {k : Nat} (hk : k < 8 * zs.length) : readP (flipZ zs k) = none := by
  obtain ⟨za, rfl, hm, ha⟩ := h
  rw [frameOf_length] at hk
  have hb : 0 ≤ (frameOf za).getD (k / 8) 0 ∧ (frameOf za).getD (k / 8) 0 < 256 := by
    have hl := frameOf_length za
    rw [List.getD_eq_getElem?_getD, List.getElem?_eq_getElem (by omega), Option.getD_some]
    exact frameOf_byte za hm ha _ (List.getElem_mem _)
  unfold flipZ
  exact read_flip za k ((frameOf za).getD (k / 8) 0).toNat hm ha hk (by omega) (by omega)
theorem Frm.pos {zs : List Int} (h : Frm zs) : 8 ≤ zs.length ∧ zs.length ≤ 32776 := by
  obtain ⟨za, rfl, hm, ha⟩ := h
  rw [frameOf_length]
  omega
end Go.Proofs.YtgnamngnmbaeeaaDoor

namespace Go.Proofs.YtgnamngnmbaeeaaDoor
open Go.RowKit
set_option maxRecDepth 8000
theorem own_put {base : Nat} {w : World} {p : Option Addr} {c : Nat} {zs : List Int} {g o : Nat} (h : OwnBy base w (.slice p zs.length c) zs) (hp : p = some ⟨g, o, none⟩) : o = 0 ∧ (Value.slice p zs.length c).ownBlock = some g ∧ (∀ k, w.frozen? ⟨g, k, none⟩ = false) ∧ ∀ k u, OwnBy base (w.setCell ⟨g, k, none⟩ (.int .u8 u)) (.slice p (zs.set k u).length c) (zs.set k u) := by
  obtain ⟨hl, ⟨hv, h0⟩ | ⟨g2, cap, cur, hv, hb, hh, hnc, hcm, hcs, ht⟩⟩ := h
  · simp only [Value.slice.injEq] at hv
    rw [hv.1] at hp; cases hp
  · simp only [Value.slice.injEq, true_and] at hv
    obtain ⟨rfl, rfl⟩ := hv
    simp only [Option.some.injEq, Addr.mk.injEq, and_true] at hp
    obtain ⟨rfl, rfl⟩ := hp
    have hb2 : Box w g2 cur 5 := hh
    refine ⟨rfl, rfl, fun k => hb2.frozen k, fun k u => ⟨by simp, .inr ⟨g2, c, cur.setIfInBounds k (.int .u8 u), by rw [List.length_set], hb, hb2.set k _, by rw [List.length_set]; exact hnc, hcm, by simpa using hcs, ?_⟩⟩⟩
    rw [Array.toList_setIfInBounds, List.length_set, List.map_set, ← ht, List.take_set]
theorem wrapY_u8 (n : Int) : IntKind.u8.wrap n = n % 256 := by simp [IntKind.wrap, IntKind.bits, IntKind.signed]
theorem bits_xor_u8_nat (a b : Nat) (ha : a < 256) (hb : b < 256) : bits BinOp.xor IntKind.u8 (a : Int) (b : Int) = ((a ^^^ b : Nat) : Int) := by
  have hx : a ^^^ b < 2 ^ 8 := Nat.xor_lt_two_pow (by omega) (by omega)
  have h1 : (BitVec.ofInt 8 (a : Int)).toNat = a := by
    rw [BitVec.ofInt_natCast, BitVec.toNat_ofNat]; exact Nat.mod_eq_of_lt (by omega)
  have h2 : (BitVec.ofInt 8 (b : Int)).toNat = b := by
    rw [BitVec.ofInt_natCast, BitVec.toNat_ofNat]; exact Nat.mod_eq_of_lt (by omega)
  show IntKind.u8.wrap ((BitVec.ofInt 8 (a : Int) ^^^ BitVec.ofInt 8 (b : Int)).toNat : Int) = _
  rw [BitVec.toNat_xor, h1, h2, wrapY_u8]
  omega
theorem bits_flip {z : Int} {k : Nat} (h : 0 ≤ z ∧ z < 256) (hk : k < 8) : bits BinOp.xor IntKind.u8 z (IntKind.u8.wrap (2 ^ k)) = ((z.toNat ^^^ 2 ^ k : Nat) : Int) := by
  obtain ⟨n, rfl⟩ : ∃ n : Nat, z = (n : Int) := ⟨z.toNat, by omega⟩
  have h2 : (2 : Nat) ^ k < 2 ^ 8 := Nat.pow_lt_pow_right (by omega) hk
  have hw : IntKind.u8.wrap ((2 : Int) ^ k) = ((2 ^ k : Nat) : Int) := by
    have e : ((2 : Int) ^ k) = ((2 ^ k : Nat) : Int) := by push_cast; rfl
    rw [e, wrapY_u8]
    have h3 : (2 : Nat) ^ k < 256 := h2
    generalize (2 : Nat) ^ k = y at h3
    omega
  rw [hw, bits_xor_u8_nat n (2 ^ k) (by omega) h2]
  simp
theorem run_cpO (w : World) (ty : TypeId) (x : BS) (S : Nat → Prop) (hx : x.In w S) (hp : 0 < x.zs.length) : ∃ (g c : Nat) (w' : World), (Builtin.append_ #[36, 36] ty #[.slice none 0 0, x.val]).run Tryd.prog w = .ok (.slice (some ⟨g, 0, none⟩) x.zs.length c) w' ∧ OwnBy w.heap.size w' (.slice (some ⟨g, 0, none⟩) x.zs.length c) x.zs ∧ Below w.heap.size w w' := by
  obtain ⟨i0, Kd⟩ := kindB
  have hs := hx.bsrc
  have hnn := hx.nn
  obtain ⟨xp, xc, xz⟩ := x
  dsimp only [BS.val] at hs hnn hp ⊢
  rcases hs with ⟨h1, h2, h3, h4⟩ | ⟨ad, h1, hl, hnews⟩
  · omega
  · subst h1
    obtain ⟨v', w', hrun, r1, r2, r3⟩ := run_app w ty 36 5 i0 _ 1 1 Kd w.heap.size (.slice none 0 0) 0 [] (World.ownsRow_nil w _ 5 1) ad xz.length xc (xz.map (.int .u8)) hl hnews (oneu8 _) (by simpa using hnn) (by have h9 : xz.length ≤ 140737488355328 := hnn; omega) (Nat.le_refl _)
    have hO : OwnBy w.heap.size w' v' xz := by
      unfold OwnBy
      simpa using r1
    obtain ⟨g, c, hv, _⟩ := OwnBy.slice hO hp
    subst hv
    exact ⟨g, c, w', hrun, hO, Below.grown (Below.refl _ _) r2 (Nat.le_refl _) fun k hk => by cases hk⟩
theorem step_cpO {ops : Array Oper} {o : Oper} {a : Act} {w : World} {K : Act → World → Prop} {Q : Exit → Act → World → Prop} {E : Prop}
    (hgd : o.guard = none) (s z : Operand) (hop : o.op = Op.call { callee := Callee.builtin Builtin.append, args := #[s, z], argTypes := #[36, 36] })
    (x : BS) (S : Nat → Prop) (hs : a.eval s = .slice none 0 0) (hz : a.eval z = x.val) (hx : x.In w S) (hp : 0 < x.zs.length)
    (hK : ∀ g c w', OwnBy w.heap.size w' (.slice (some ⟨g, 0, none⟩) x.zs.length c) x.zs → Below w.heap.size w w' → K (a.put o.dst (.slice (some ⟨g, 0, none⟩) x.zs.length c)) w') :
    if Region.wanted o (yielded ops a.tmps) = true then Oper.wp Tryd.prog o a w K Q else E := by
  have hw : Region.wanted o (yielded ops a.tmps) = true := by simp [Region.wanted, hgd]
  rw [if_pos hw]
  obtain ⟨g, c, w', hrun, r1, r3⟩ := run_cpO w o.type x S hx hp
  unfold Oper.wp
  simp [execOp, hop, resolve, invoke, builtin, hs, hz, hrun, Result.andThen]
  exact hK g c w' r1 r3
end Go.Proofs.YtgnamngnmbaeeaaDoor
