import Derived.Test.YtgnamngnmbaeeaaDoorCrc
namespace Go.Proofs.YtgnamngnmbaeeaaDoor.Crc

def pol : Nat := 3988292384
def fb (b : Bool) : Nat := if b then pol else 0
def top (b : Bool) : Nat := if b then 2147483648 else 0
def E (q : Nat) : Nat := q / 2 ^^^ fb (q.testBit 0)
def it : Nat → Nat → Nat
  | 0, q => q
  | k + 1, q => E (it k q)
def R (f : Nat → Bool) (q : Nat) : Nat → Nat
  | 0 => q
  | k + 1 => E (R f q k) ^^^ top (f k)
def D (f : Nat → Bool) (q : Nat) : Nat → Nat
  | 0 => q
  | k + 1 => E (D f q k) ^^^ fb (f k)

theorem fb_xor (a b : Bool) : fb (a ^^ b) = fb a ^^^ fb b := by cases a <;> cases b <;> simp [fb]
theorem top_xor (a b : Bool) : top (a ^^ b) = top a ^^^ top b := by cases a <;> cases b <;> simp [top]
theorem div2_xor (a b : Nat) : (a ^^^ b) / 2 = a / 2 ^^^ b / 2 := by
  have := Nat.shiftRight_xor_distrib (a := a) (b := b) (i := 1)
  simpa [Nat.shiftRight_eq_div_pow] using this
theorem E_xor (a b : Nat) : E (a ^^^ b) = E a ^^^ E b := by
  unfold E
  rw [div2_xor, Nat.testBit_xor, fb_xor, xor_swap]
theorem it_xor (k a b : Nat) : it k (a ^^^ b) = it k a ^^^ it k b := by
  induction k with
  | zero => rfl
  | succ k ih => simp only [it, ih, E_xor]
theorem it_E (k q : Nat) : it k (E q) = E (it k q) := by
  induction k with
  | zero => rfl
  | succ k ih => simp only [it, ih]
theorem it_add (a b q : Nat) : it (a + b) q = it a (it b q) := by
  induction a with
  | zero => simp [it]
  | succ a ih => rw [show a + 1 + b = (a + b) + 1 by omega]; simp only [it, ih]
theorem R_xor (f g : Nat → Bool) (p q k : Nat) : R (fun i => f i ^^ g i) (p ^^^ q) k = R f p k ^^^ R g q k := by
  induction k with
  | zero => rfl
  | succ k ih => simp only [R, ih, E_xor, top_xor, xor_swap]
theorem D_xor (f g : Nat → Bool) (p q k : Nat) : D (fun i => f i ^^ g i) (p ^^^ q) k = D f p k ^^^ D g q k := by
  induction k with
  | zero => rfl
  | succ k ih => simp only [D, ih, E_xor, fb_xor, xor_swap]
theorem it32_top (b : Bool) : it 32 (top b) = fb b := by cases b <;> decide
theorem it32_R (f : Nat → Bool) (q k : Nat) : it 32 (R f q k) = D f (it 32 q) k := by
  induction k with
  | zero => rfl
  | succ k ih =>
    show it 32 (E (R f q k) ^^^ top (f k)) = E (D f (it 32 q) k) ^^^ fb (f k)
    rw [it_xor, it_E, ih, it32_top]
theorem R_zeros (f : Nat → Bool) (q k m : Nat) (h : ∀ i, k ≤ i → f i = false) : R f q (k + m) = it m (R f q k) := by
  induction m with
  | zero => rfl
  | succ m ih =>
    show E (R f q (k + m)) ^^^ top (f (k + m)) = E (it m (R f q k))
    rw [ih, h _ (by omega)]; simp [top]
theorem D_zeros (q k : Nat) : D (fun _ => false) q k = it k q := by
  induction k with
  | zero => rfl
  | succ k ih =>
    show E (D (fun _ => false) q k) ^^^ fb false = E (it k q)
    rw [ih]; simp [fb]
theorem E_zero : E 0 = 0 := by decide
theorem it_zero (k : Nat) : it k 0 = 0 := by
  induction k with
  | zero => rfl
  | succ k ih => simp only [it, ih, E_zero]

/-- the first 32 bits only move in -/
theorem R_start (s k : Nat) (hk : k ≤ 32) : R (fun i => s.testBit i) 0 k = s % 2 ^ k * 2 ^ (32 - k) := by
  induction k with
  | zero => simp [R, Nat.mod_one]
  | succ k ih =>
    show E (R (fun i => s.testBit i) 0 k) ^^^ top (s.testBit k) = _
    rw [ih (by omega)]
    have e : 2 ^ (32 - k) = 2 * 2 ^ (32 - (k + 1)) := by rw [← Nat.pow_succ']; congr 1; omega
    have hE : E (s % 2 ^ k * 2 ^ (32 - k)) = s % 2 ^ k * 2 ^ (32 - (k + 1)) := by
      unfold E
      rw [e, Nat.mul_left_comm, Nat.mul_div_cancel_left _ (by omega)]
      have : (2 * (s % 2 ^ k * 2 ^ (32 - (k + 1)))).testBit 0 = false := by simp
      rw [this]; simp [fb]
    rw [hE]
    have hlt : s % 2 ^ k * 2 ^ (32 - (k + 1)) < 2 ^ 31 := by
      have h1 : s % 2 ^ k < 2 ^ k := Nat.mod_lt _ (Nat.two_pow_pos k)
      have h2 : 2 ^ k * 2 ^ (32 - (k + 1)) = 2 ^ 31 := by rw [← Nat.pow_add]; congr 1; omega
      rw [← h2]; exact Nat.mul_lt_mul_of_pos_right h1 (Nat.two_pow_pos _)
    have hm : s % 2 ^ (k + 1) = s % 2 ^ k + 2 ^ k * (s / 2 ^ k % 2) := by rw [Nat.mod_pow_succ]
    have h3 : 2 ^ k * 2 ^ (32 - (k + 1)) = 2147483648 := by rw [← Nat.pow_add]; rw [show k + (32 - (k + 1)) = 31 by omega]
    rw [hm, Nat.add_mul]
    have hb : s.testBit k = decide (s / 2 ^ k % 2 = 1) := by rw [Nat.testBit_eq_decide_div_mod_eq]
    rcases Nat.mod_two_eq_zero_or_one (s / 2 ^ k) with h0 | h0
    · rw [h0] at hb ⊢; rw [hb]; simp [top]
    · rw [h0] at hb ⊢; rw [hb]
      simp only [decide_true, top, Nat.mul_one, h3, if_true]
      clear hE ih hm hb
      generalize s % 2 ^ k * 2 ^ (32 - (k + 1)) = Y at *
      have this := Nat.two_pow_add_eq_or_of_lt hlt 1
      rw [Nat.xor_comm, Nat.add_comm]
      have h4 : (2147483648 : Nat) ^^^ Y = 2147483648 ||| Y := by
        apply Nat.eq_of_testBit_eq
        intro i
        rw [Nat.testBit_xor, Nat.testBit_or]
        by_cases hi : i = 31
        · subst hi
          have : Y.testBit 31 = false := Nat.testBit_lt_two_pow hlt
          rw [this]; simp
        · have : (2147483648 : Nat).testBit i = false := by
            rw [show (2147483648 : Nat) = 2 ^ 31 by decide, Nat.testBit_two_pow]; simp; omega
          rw [this]; simp
      rw [h4]; simpa using this.symm

/-- long division of the bits, the start laid onto the first 32 -/
theorem long_eq (bit : Nat → Bool) (s n : Nat) (hs : s < 4294967296) (hb : ∀ i, n ≤ i → bit i = false) :
    R (fun i => bit i ^^ s.testBit i) 0 (n + 32) = D bit s n := by
  have h1 := R_xor bit (fun i => s.testBit i) 0 0 (n + 32)
  rw [Nat.xor_self] at h1
  rw [h1, R_zeros bit 0 n 32 hb, it32_R, it_zero, show n + 32 = 32 + n by omega,
    R_zeros _ 0 32 n (fun i hi => Nat.testBit_lt_two_pow (Nat.lt_of_lt_of_le hs (Nat.pow_le_pow_right (n := 2) (by omega) hi))), R_start s 32 (by omega)]
  rw [show s % 2 ^ 32 * 2 ^ (32 - 32) = s by rw [Nat.mod_eq_of_lt hs]; simp, ← D_zeros s n, ← D_xor]
  simp

theorem D_shift (f : Nat → Bool) (q k m : Nat) : D f q (k + m) = D (fun i => f (k + i)) (D f q k) m := by
  induction m with
  | zero => rfl
  | succ m ih =>
    show E (D f q (k + m)) ^^^ fb (f (k + m)) = E (D (fun i => f (k + i)) (D f q k) m) ^^^ fb (f (k + m))
    rw [ih]
theorem D_congr (f g : Nat → Bool) (q k : Nat) (h : ∀ i, i < k → f i = g i) : D f q k = D g q k := by
  induction k with
  | zero => rfl
  | succ k ih =>
    show E (D f q k) ^^^ fb (f k) = E (D g q k) ^^^ fb (g k)
    rw [ih (fun i hi => h i (by omega)), h k (by omega)]

theorem E_double (m : Nat) : E (2 * m) = m := by
  unfold E
  have : (2 * m).testBit 0 = false := by simp
  rw [this, Nat.mul_div_cancel_left _ (by omega)]; simp [fb]
theorem it4_tab : ∀ t, t < 16 → it 4 t = tabAt t := by decide
theorem nib_it (q : Nat) : nib q = it 4 q := by
  have hq : q = (16 * (q / 16)) ^^^ (q % 16) := by
    have h := Nat.two_pow_add_eq_or_of_lt (i := 4) (show q % 16 < 2 ^ 4 by omega) (q / 16)
    have hd := Nat.div_add_mod q 16
    have : (16 * (q / 16)) ^^^ (q % 16) = (16 * (q / 16)) ||| (q % 16) := by
      apply Nat.eq_of_testBit_eq
      intro i
      rw [Nat.testBit_xor, Nat.testBit_or]
      by_cases hi : i < 4
      · have : (16 * (q / 16)).testBit i = false := by
          rw [show (16 : Nat) = 2 ^ 4 by decide, Nat.testBit_two_pow_mul]; simp; omega
        rw [this]; simp
      · have : (q % 16).testBit i = false := Nat.testBit_lt_two_pow (Nat.lt_of_lt_of_le (Nat.mod_lt q (by omega)) (Nat.pow_le_pow_right (n := 2) (i := 4) (by omega) (by omega)))
        rw [this]; simp
    rw [this]
    have e : (2 : Nat) ^ 4 = 16 := by decide
    rw [e] at h
    rw [← h, hd]
  have h4 : ∀ m, it 4 (16 * m) = m := by
    intro m
    show E (E (E (E (16 * m)))) = m
    rw [show 16 * m = 2 * (2 * (2 * (2 * m))) by omega, E_double, E_double, E_double, E_double]
  have hr : it 4 q = it 4 ((16 * (q / 16)) ^^^ (q % 16)) := by rw [← hq]
  rw [hr, it_xor, h4, it4_tab _ (Nat.mod_lt _ (by omega))]
  rfl

theorem byte0 : ∀ c, c < 256 → D (fun i => c.testBit i) 0 8 = it 8 c := by decide +kernel
theorem byteStep_D (q c : Nat) (hc : c < 256) : byteStep q c = D (fun i => c.testBit i) q 8 := by
  unfold byteStep
  rw [nib_it, nib_it, ← it_add, it_xor, ← byte0 c hc, ← D_zeros, ← D_xor]
  simp

/-- the bits of bytes, in each from the lowest -/
def bitOf (zs : List Int) (i : Nat) : Bool := (zs.getD (i / 8) 0).toNat.testBit (i % 8)

theorem reg_D (s : Nat) (zs : List Int) (hb : ∀ z ∈ zs, 0 ≤ z ∧ z < 256) (k : Nat) (hk : k ≤ zs.length) : D (bitOf zs) s (8 * k) = reg s (zs.take k) := by
  induction k with
  | zero => rfl
  | succ k ih =>
    rw [show 8 * (k + 1) = 8 * k + 8 by omega, D_shift, ih (by omega)]
    have hlt : k < zs.length := by omega
    have hz : zs.getD k 0 = zs[k] := by rw [List.getD_eq_getElem?_getD, List.getElem?_eq_getElem hlt]; rfl
    have hzb := hb zs[k] (List.getElem_mem hlt)
    rw [List.take_add_one, List.getElem?_eq_getElem hlt]
    show _ = reg s (zs.take k ++ [zs[k]])
    rw [reg_snoc, byteStep_D _ _ (by omega)]
    apply D_congr
    intro i hi
    unfold bitOf
    rw [show (8 * k + i) / 8 = k by omega, show (8 * k + i) % 8 = i by omega, hz]

/-- what eddyref1.Add reckons, step by step -/
def refBit (zs : List Int) (i : Nat) : Nat := if 8 * zs.length ≤ i then 0 else (zs.getD (i / 8) 0).toNat / 2 ^ (i % 8) % 2
def refX (start : Nat) (zs : List Int) (i : Nat) : Nat := if i < 32 then (refBit zs i + start / 2 ^ i % 2) % 2 else refBit zs i
def divStep (r x : Nat) : Nat := if 4294967295 < 2 * r + x then (2 * r + x) ^^^ 4374732215 else 2 * r + x
def divTo (start : Nat) (zs : List Int) : Nat → Nat
  | 0 => 0
  | k + 1 => divStep (divTo start zs k) (refX start zs k)
def turnTo (n : Nat) : Nat → Nat
  | 0 => 0
  | k + 1 => 2 * turnTo n k + n / 2 ^ k % 2

theorem bit_low (m x : Nat) (hx : x < 2) (i : Nat) : (2 * m + x).testBit i = if i = 0 then decide (x = 1) else m.testBit (i - 1) := by
  cases i with
  | zero =>
    rw [Nat.testBit_zero]
    simp; omega
  | succ i =>
    rw [Nat.testBit_succ, show (2 * m + x) / 2 = m by omega]
    simp

theorem turnTo_bit (n k i : Nat) : (turnTo n k).testBit i = (decide (i < k) && n.testBit (k - 1 - i)) := by
  induction k generalizing i with
  | zero => simp [turnTo]
  | succ k ih =>
    show (2 * turnTo n k + n / 2 ^ k % 2).testBit i = _
    rw [bit_low _ _ (Nat.mod_lt _ (by omega))]
    by_cases h : i = 0
    · subst h
      simp [Nat.testBit_eq_decide_div_mod_eq]
    · rw [if_neg h, ih]
      have e1 : decide (i - 1 < k) = decide (i < k + 1) := by
        rw [decide_eq_decide]; omega
      rw [e1, show k - 1 - (i - 1) = k + 1 - 1 - i by omega]

theorem divStep_bit (r x : Nat) (hr : r < 4294967296) (hx : x < 2) (i : Nat) :
    (divStep r x).testBit i = (((if i = 0 then decide (x = 1) else r.testBit (i - 1))) ^^ (r.testBit 31 && (4374732215 : Nat).testBit i)) := by
  have hc : decide (4294967295 < 2 * r + x) = r.testBit 31 := by
    rw [Nat.testBit_eq_decide_div_mod_eq, decide_eq_decide]
    omega
  unfold divStep
  by_cases h : 4294967295 < 2 * r + x
  · rw [if_pos h, Nat.testBit_xor, bit_low _ _ hx, ← hc]; simp [h]
  · rw [if_neg h, bit_low _ _ hx, ← hc]; simp [h]

theorem divStep_lt (r x : Nat) (hr : r < 4294967296) (hx : x < 2) : divStep r x < 4294967296 := by
  refine Nat.lt_pow_two_of_testBit (n := 32) _ (fun i hi => ?_)
  rw [divStep_bit r x hr hx, if_neg (by omega)]
  by_cases h : i = 32
  · subst h
    rw [show (4374732215 : Nat).testBit 32 = true by decide]; simp
  · have h1 : r.testBit (i - 1) = false := Nat.testBit_lt_two_pow (Nat.lt_of_lt_of_le hr (Nat.pow_le_pow_right (n := 2) (i := 32) (by omega) (by omega)))
    have h2 : (4374732215 : Nat).testBit i = false := Nat.testBit_lt_two_pow (Nat.lt_of_lt_of_le (show 4374732215 < 2 ^ 33 by decide) (Nat.pow_le_pow_right (n := 2) (by omega) (by omega)))
    rw [h1, h2]; simp

theorem pol_turned : ∀ i, i < 32 → (4374732215 : Nat).testBit (31 - i) = pol.testBit i := by decide

theorem turn_step (r x : Nat) (hr : r < 4294967296) (hx : x < 2) : turnTo (divStep r x) 32 = E (turnTo r 32) ^^^ top (decide (x = 1)) := by
  apply Nat.eq_of_testBit_eq
  intro i
  rw [turnTo_bit, Nat.testBit_xor]
  unfold E
  rw [Nat.testBit_xor, turnTo_bit, ← Nat.testBit_succ, turnTo_bit]
  have hfb : ∀ (b : Bool) i, (fb b).testBit i = (b && pol.testBit i) := by intro b i; cases b <;> simp [fb]
  have htop : ∀ (b : Bool) i, (top b).testBit i = (b && decide (i = 31)) := by
    intro b i; cases b
    · simp [top]
    · show (2147483648 : Nat).testBit i = _
      rw [show (2147483648 : Nat) = 2 ^ 31 by decide, Nat.testBit_two_pow]; simp [eq_comm]
  rw [hfb, htop]
  by_cases hi : i < 32
  · rw [divStep_bit r x hr hx, pol_turned i hi]
    by_cases h31 : i = 31
    · subst h31; simp; exact Bool.xor_comm _ _
    · simp [hi, h31, show ¬ (31 - i = 0) by omega, show i + 1 < 32 by omega, show 31 - i - 1 = 32 - 1 - (i + 1) by omega]
  · have h2 : pol.testBit i = false := Nat.testBit_lt_two_pow (Nat.lt_of_lt_of_le (show pol < 2 ^ 32 by decide) (Nat.pow_le_pow_right (n := 2) (by omega) (by omega)))
    simp [hi, h2, show ¬ i + 1 < 32 by omega, show ¬ i = 31 by omega]

theorem refBit_lt (zs : List Int) (i : Nat) : refBit zs i < 2 := by unfold refBit; split <;> omega
theorem refX_lt (start : Nat) (zs : List Int) (i : Nat) : refX start zs i < 2 := by
  unfold refX; have := refBit_lt zs i; split <;> omega

theorem divTo_lt (start : Nat) (zs : List Int) (k : Nat) : divTo start zs k < 4294967296 := by
  induction k with
  | zero => simp [divTo]
  | succ k ih => exact divStep_lt _ _ ih (refX_lt _ _ _)

theorem turn_divTo (start : Nat) (zs : List Int) (k : Nat) : turnTo (divTo start zs k) 32 = R (fun i => decide (refX start zs i = 1)) 0 k := by
  induction k with
  | zero => show turnTo 0 32 = 0; decide
  | succ k ih =>
    show turnTo (divStep (divTo start zs k) (refX start zs k)) 32 = E (R _ 0 k) ^^^ top (decide (refX start zs k = 1))
    rw [turn_step _ _ (divTo_lt _ _ _) (refX_lt _ _ _), ih]

theorem R_congr (f g : Nat → Bool) (q k : Nat) (h : ∀ i, i < k → f i = g i) : R f q k = R g q k := by
  induction k with
  | zero => rfl
  | succ k ih =>
    show E (R f q k) ^^^ top (f k) = E (R g q k) ^^^ top (g k)
    rw [ih (fun i hi => h i (by omega)), h k (by omega)]

def refAdd (s : Nat) (zs : List Int) : Nat := ones - turnTo (divTo (ones - s) zs (8 * zs.length + 32)) 32

theorem refAdd_eq (s : Nat) (zs : List Int) (hs : s < 4294967296) (hb : ∀ z ∈ zs, 0 ≤ z ∧ z < 256) : refAdd s zs = add s zs := by
  unfold refAdd add
  have hst : ones - s < 4294967296 := by unfold ones; omega
  generalize ones - s = st at *
  have hbit : ∀ i, 8 * zs.length ≤ i → bitOf zs i = false := by
    intro i hi
    unfold bitOf
    rw [List.getD_eq_getElem?_getD, List.getElem?_eq_none (by omega)]; simp
  have hx : ∀ i, decide (refX st zs i = 1) = (bitOf zs i ^^ st.testBit i) := by
    intro i
    have h1 : decide (refBit zs i = 1) = bitOf zs i := by
      unfold refBit
      by_cases hi : 8 * zs.length ≤ i
      · rw [if_pos hi, hbit i hi]; rfl
      · rw [if_neg hi]; unfold bitOf; rw [Nat.testBit_eq_decide_div_mod_eq]
    have h2 := refBit_lt zs i
    unfold refX
    by_cases hi : i < 32
    · rw [if_pos hi, ← h1, Nat.testBit_eq_decide_div_mod_eq]
      have h3 : st / 2 ^ i % 2 < 2 := Nat.mod_lt _ (by omega)
      generalize refBit zs i = a at *
      generalize st / 2 ^ i % 2 = b at *
      have : (a = 0 ∨ a = 1) ∧ (b = 0 ∨ b = 1) := by omega
      rcases this with ⟨rfl | rfl, rfl | rfl⟩ <;> rfl
    · rw [if_neg hi, h1, Nat.testBit_lt_two_pow (Nat.lt_of_lt_of_le hst (Nat.pow_le_pow_right (n := 2) (i := 32) (by omega) (by omega)))]; simp
  rw [turn_divTo, R_congr _ _ 0 _ (fun i _ => hx i), long_eq (bitOf zs) st (8 * zs.length) hst hbit, reg_D st zs hb zs.length (Nat.le_refl _), List.take_length]

end Go.Proofs.YtgnamngnmbaeeaaDoor.Crc
