namespace Go.Proofs.YtgnamngnmbaeeaaDoor.Crc

def ones : Nat := 4294967295
def tab : List Nat := [0, 498536548, 997073096, 651767980, 1994146192, 1802195444, 1303535960, 1342533948, 3988292384, 4027552580, 3604390888, 3412177804, 2607071920, 2262029012, 2685067896, 3183342108]
def tabAt (i : Nat) : Nat := tab.getD i 0
def nib (r : Nat) : Nat := r / 16 ^^^ tabAt (r % 16)
def byteStep (r c : Nat) : Nat := nib (nib (r ^^^ c))
def reg (r : Nat) (l : List Int) : Nat := l.foldl (fun r z => byteStep r z.toNat) r
def add (s : Nat) (l : List Int) : Nat := ones - reg (ones - s) l

theorem tabAt_lt (i : Nat) : tabAt i < 4294967296 := by
  by_cases h : i < 16
  · have : ∀ i, i < 16 → tabAt i < 4294967296 := by decide
    exact this i h
  · have : tabAt i = 0 := by
      unfold tabAt
      rw [List.getD_eq_getElem?_getD, List.getElem?_eq_none (by simp [tab]; omega)]
      rfl
    omega

theorem tab_xor : ∀ i, i < 16 → ∀ j, j < 16 → tabAt (i ^^^ j) = tabAt i ^^^ tabAt j := by decide

theorem div16_xor (a b : Nat) : (a ^^^ b) / 16 = a / 16 ^^^ b / 16 := by
  have := Nat.shiftRight_xor_distrib (a := a) (b := b) (i := 4)
  simpa [Nat.shiftRight_eq_div_pow] using this

theorem mod16_xor (a b : Nat) : (a ^^^ b) % 16 = a % 16 ^^^ b % 16 := by
  have := Nat.xor_mod_two_pow (a := a) (b := b) (n := 4)
  simpa using this

theorem xor_swap (a b c d : Nat) : (a ^^^ b) ^^^ (c ^^^ d) = (a ^^^ c) ^^^ (b ^^^ d) := by
  rw [Nat.xor_assoc, Nat.xor_assoc, ← Nat.xor_assoc b c d, Nat.xor_comm b c, Nat.xor_assoc c b d]

theorem nib_xor (a b : Nat) : nib (a ^^^ b) = nib a ^^^ nib b := by
  unfold nib
  rw [div16_xor, mod16_xor, tab_xor _ (Nat.mod_lt _ (by omega)) _ (Nat.mod_lt _ (by omega)), xor_swap]

theorem byteStep_xor (a b c d : Nat) : byteStep (a ^^^ b) (c ^^^ d) = byteStep a c ^^^ byteStep b d := by
  unfold byteStep
  rw [xor_swap, nib_xor, nib_xor]

theorem xor_lt32 {a b : Nat} (ha : a < 4294967296) (hb : b < 4294967296) : a ^^^ b < 4294967296 :=
  Nat.xor_lt_two_pow (n := 32) ha hb

theorem nib_lt {r : Nat} (h : r < 4294967296) : nib r < 4294967296 :=
  xor_lt32 (by omega) (tabAt_lt _)

theorem byteStep_lt {r c : Nat} (h : r < 4294967296) (hc : c < 256) : byteStep r c < 4294967296 :=
  nib_lt (nib_lt (xor_lt32 h (by omega)))

theorem reg_append (r : Nat) (a b : List Int) : reg r (a ++ b) = reg (reg r a) b := by
  simp [reg, List.foldl_append]

theorem reg_snoc (r : Nat) (a : List Int) (z : Int) : reg r (a ++ [z]) = byteStep (reg r a) z.toNat := by
  simp [reg, List.foldl_append]

theorem reg_lt (r : Nat) (l : List Int) (h : r < 4294967296) (hl : ∀ z ∈ l, 0 ≤ z ∧ z < 256) : reg r l < 4294967296 := by
  induction l generalizing r with
  | nil => simpa [reg] using h
  | cons z l ih =>
    have hz := hl z (by simp)
    show reg (byteStep r z.toNat) l < 4294967296
    exact ih _ (byteStep_lt h (by omega)) (fun x hx => hl x (by simp [hx]))

theorem add_append (s : Nat) (a b : List Int) (hs : s < 4294967296) (ha : ∀ z ∈ a, 0 ≤ z ∧ z < 256) : add (add s a) b = add s (a ++ b) := by
  unfold add
  rw [reg_append]
  have := reg_lt (ones - s) a (by unfold ones; omega) ha
  unfold ones at *
  rw [Nat.sub_sub_self (by omega)]

theorem compl_xor (x : Nat) (h : x < 4294967296) : ones - x = x ^^^ ones := by
  have h1 : ones = 2 ^ 32 - 1 := by decide
  apply Nat.eq_of_testBit_eq
  intro i
  rw [Nat.testBit_xor, h1, Nat.testBit_two_pow_sub_one]
  have e : (2 : Nat) ^ 32 - 1 - x = 2 ^ 32 - (x + 1) := by omega
  rw [e, Nat.testBit_two_pow_sub_succ h]
  by_cases hi : i < 32
  · simp [hi]
  · have : x.testBit i = false := Nat.testBit_lt_two_pow (Nat.lt_of_lt_of_le h (Nat.pow_le_pow_right (n := 2) (by omega) (Nat.le_of_not_lt hi)))
    simp [hi, this]

theorem reg_xor (r s : Nat) (a b : List Int) (x : List Int) (hl : a.length = b.length) (hx : x.map Int.toNat = List.zipWith (· ^^^ ·) (a.map Int.toNat) (b.map Int.toNat)) :
    reg (r ^^^ s) x = reg r a ^^^ reg s b := by
  induction a generalizing r s b x with
  | nil =>
    cases b with
    | nil => simp at hx; subst hx; rfl
    | cons _ _ => simp at hl
  | cons a as ih =>
    cases b with
    | nil => simp at hl
    | cons b bs =>
      cases x with
      | nil => simp at hx
      | cons x xs =>
        simp only [List.map_cons, List.zipWith_cons_cons, List.cons.injEq] at hx
        show reg (byteStep (r ^^^ s) x.toNat) xs = reg (byteStep r a.toNat) as ^^^ reg (byteStep s b.toNat) bs
        rw [hx.1, byteStep_xor]
        exact ih _ _ _ _ (by simpa using hl) hx.2


/-- the sum of two texts laid over each other -/
theorem linear (a b x z : List Int) (hl : a.length = b.length) (hz : z.map Int.toNat = a.map (fun _ => 0))
    (ha : ∀ z ∈ a, 0 ≤ z ∧ z < 256) (hb : ∀ z ∈ b, 0 ≤ z ∧ z < 256) (hx : x.map Int.toNat = List.zipWith (· ^^^ ·) (a.map Int.toNat) (b.map Int.toNat)) :
    add 0 x = add 0 a ^^^ add 0 b ^^^ add 0 z := by
  have hzb : ∀ y ∈ z, 0 ≤ y ∧ y < 256 → True := fun _ _ _ => trivial
  have h1 : reg (ones ^^^ 0) x = reg ones a ^^^ reg 0 b := reg_xor ones 0 a b x hl hx
  have hz2 : reg (ones ^^^ 0) b = reg ones z ^^^ reg 0 b := by
    refine reg_xor ones 0 z b b ?_ ?_
    · have := congrArg List.length hz; simp at this; omega
    · rw [hz]
      have : ∀ (a b : List Int), a.length = b.length → b.map Int.toNat = List.zipWith (· ^^^ ·) (a.map (fun _ => 0)) (b.map Int.toNat) := by
        intro a
        induction a with
        | nil => intro b h; cases b with
          | nil => rfl
          | cons _ _ => simp at h
        | cons _ _ ih => intro b h; cases b with
          | nil => simp at h
          | cons b bs => simp only [List.map_cons, List.zipWith_cons_cons, Nat.zero_xor]; rw [← ih bs (by simpa using h)]
      exact this a b hl
  rw [Nat.xor_zero] at h1 hz2
  have l0 : ones < 4294967296 := by decide
  have lz : reg ones z < 4294967296 := by
    have e : ∀ (z a : List Int), z.map Int.toNat = a.map (fun _ => 0) → ∀ r, r < 4294967296 → reg r z < 4294967296 := by
      intro z
      induction z with
      | nil => intro a _ r hr; simpa [reg] using hr
      | cons y ys ih => intro a h r hr; cases a with
        | nil => simp at h
        | cons a as =>
          simp only [List.map_cons, List.cons.injEq] at h
          show reg (byteStep r y.toNat) ys < 4294967296
          exact ih as h.2 _ (byteStep_lt hr (by omega))
    exact e z a hz ones l0
  have la := reg_lt ones a l0 ha
  have lb := reg_lt ones b l0 hb
  have lx : reg ones x < 4294967296 := by rw [h1]; exact xor_lt32 la (by
    have : reg 0 b = reg ones b ^^^ reg ones z := by rw [hz2, Nat.xor_comm (reg ones z), Nat.xor_assoc, Nat.xor_self, Nat.xor_zero]
    rw [this]; exact xor_lt32 lb lz)
  show ones - reg (ones - 0) x = (ones - reg (ones - 0) a) ^^^ (ones - reg (ones - 0) b) ^^^ (ones - reg (ones - 0) z)
  rw [Nat.sub_zero, compl_xor _ la, compl_xor _ lb, compl_xor _ lz, compl_xor _ lx, h1, hz2]
  generalize reg ones a = A
  generalize reg 0 b = B
  generalize reg ones z = Z
  apply Nat.eq_of_testBit_eq
  intro i
  simp only [Nat.testBit_xor]
  cases A.testBit i <;> cases B.testBit i <;> cases Z.testBit i <;> cases ones.testBit i <;> rfl

theorem sum_zero : add 0 [0] = 3523407757 := by decide

end Go.Proofs.YtgnamngnmbaeeaaDoor.Crc
