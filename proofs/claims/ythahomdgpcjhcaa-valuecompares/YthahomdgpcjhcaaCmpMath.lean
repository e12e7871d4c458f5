import Derived.Test.YthahomdgpcjhcaaRefCmpW
import Derived.Test.YthahomdgpcjhcaaOrder
namespace Go.Proofs.Ythahomdgpcjhcaa
open Go.RowKit

/-- the order of lists of numbers -/
def cmpB : List Int → List Int → Int
  | [], [] => 0
  | [], _ :: _ => -1
  | _ :: _, [] => 1
  | a :: x, b :: y => if a < b then -1 else if b < a then 1 else cmpB x y
theorem cmpB_cons (a b : Int) (x y : List Int) : cmpB (a :: x) (b :: y) = if a < b then -1 else if b < a then 1 else cmpB x y := rfl
theorem cmpB_same (a : Int) (x y : List Int) : cmpB (a :: x) (a :: y) = cmpB x y := by rw [cmpB_cons, if_neg (by omega), if_neg (by omega)]
theorem cmpB_lt {a b : Int} (h : a < b) (x y : List Int) : cmpB (a :: x) (b :: y) = -1 := by rw [cmpB_cons, if_pos h]
theorem cmpB_gt {a b : Int} (h : b < a) (x y : List Int) : cmpB (a :: x) (b :: y) = 1 := by rw [cmpB_cons, if_neg (by omega), if_pos h]
/-- the first, or else the second -/
def orElse (a b : Int) : Int := if a ≠ 0 then a else b
theorem orElse_zero (b : Int) : orElse 0 b = b := by simp [orElse]
theorem orElse_ne {a : Int} (h : a ≠ 0) (b : Int) : orElse a b = a := by simp [orElse, h]

theorem cmpI_lt {x y : Int} (h : x < y) : cmpI x y = -1 := by rw [cmpI, if_pos h]
theorem cmpI_gt {x y : Int} (h : y < x) : cmpI x y = 1 := by rw [cmpI, if_neg (by omega), if_pos h]
theorem cmpI_same (x : Int) : cmpI x x = 0 := by rw [cmpI, if_neg (by omega), if_neg (by omega)]
theorem u8_lt {a b : Int} (ha : 0 ≤ a ∧ a < 256) (hb : 0 ≤ b ∧ b < 256) : (UInt8.ofNat a.toNat < UInt8.ofNat b.toNat) ↔ a < b := by
  rw [UInt8.lt_iff_toNat_lt, UInt8.toNat_ofNat', UInt8.toNat_ofNat', Nat.mod_eq_of_lt (by omega), Nat.mod_eq_of_lt (by omega)]
  omega
theorem u8_eq {a b : Int} (ha : 0 ≤ a ∧ a < 256) (hb : 0 ≤ b ∧ b < 256) : (UInt8.ofNat a.toNat = UInt8.ofNat b.toNat) ↔ a = b := by
  constructor
  · intro h
    have h2 := congrArg UInt8.toNat h
    rw [UInt8.toNat_ofNat', UInt8.toNat_ofNat', Nat.mod_eq_of_lt (by omega), Nat.mod_eq_of_lt (by omega)] at h2
    omega
  · intro h; rw [h]
theorem u8_beq {a b : Int} (ha : 0 ≤ a ∧ a < 256) (hb : 0 ≤ b ∧ b < 256) : (UInt8.ofNat a.toNat == UInt8.ofNat b.toNat) = decide (a = b) := by
  by_cases h : a = b
  · subst h; simp
  · rw [decide_eq_false h, beq_eq_false_iff_ne]
    exact fun e => h ((u8_eq ha hb).1 e)
def toU8 (zs : List Int) : List UInt8 := zs.map fun z => UInt8.ofNat z.toNat
theorem cmp3_eq : ∀ (A B : List Int), (∀ z ∈ A, 0 ≤ z ∧ z < 256) → (∀ z ∈ B, 0 ≤ z ∧ z < 256) → cmp3 (toU8 A) (toU8 B) = cmpB A B := by
  intro A
  induction A with
  | nil =>
    intro B _ _
    cases B with
    | nil => simp [toU8, cmp3, cmpB, Op.bytesLess]
    | cons b B => simp [toU8, cmp3, cmpB, Op.bytesLess]
  | cons a A ih =>
    intro B hA hB
    cases B with
    | nil => simp [toU8, cmp3, cmpB, Op.bytesLess]
    | cons b B =>
      have ha := hA a (by simp)
      have hb := hB b (by simp)
      have hr := ih B (fun z hz => hA z (by simp [hz])) (fun z hz => hB z (by simp [hz]))
      have h1 : Op.bytesLess (toU8 (a :: A)) (toU8 (b :: B)) = (decide (a < b) || (decide (a = b) && Op.bytesLess (toU8 A) (toU8 B))) := by
        show (decide (UInt8.ofNat a.toNat < UInt8.ofNat b.toNat) || (UInt8.ofNat a.toNat == UInt8.ofNat b.toNat && Op.bytesLess (toU8 A) (toU8 B))) = _
        rw [decide_eq_decide.2 (u8_lt ha hb), u8_beq ha hb]
      have h2 : (toU8 (a :: A) == toU8 (b :: B)) = (decide (a = b) && (toU8 A == toU8 B)) := by
        show (UInt8.ofNat a.toNat == UInt8.ofNat b.toNat && (toU8 A == toU8 B)) = _
        rw [u8_beq ha hb]
      unfold cmp3 at hr ⊢
      rw [h1, h2, cmpB_cons]
      by_cases h : a < b
      · simp [h]
      · by_cases h' : b < a
        · have : ¬ a = b := by omega
          simp [h, h', this]
        · obtain rfl : a = b := by omega
          simp only [h, decide_false, Bool.false_or, decide_true, Bool.true_and, if_false]
          exact hr
theorem strOf_list (zs : List Int) : (strOf zs).toList = toU8 zs := by
  have key : ∀ (zs : List Int) (r : ByteArray), (zs.foldl (fun r n => r.push (UInt8.ofNat n.toNat)) r).data.toList = r.data.toList ++ toU8 zs := by
    intro zs
    induction zs with
    | nil => intro r; simp [toU8]
    | cons z zs ih =>
      intro r
      rw [List.foldl_cons, ih]
      simp [toU8, ByteArray.push]
  rw [ByteArray.toList_eq]
  unfold strOf
  have := key zs ByteArray.empty
  simpa using this

/-- n bytes, the highest first -/
def beN : Nat → Nat → List Int
  | 0, _ => []
  | n + 1, m => beN n (m / 256) ++ [((m % 256 : Nat) : Int)]
theorem be8_eq (m : Nat) : be8 m = beN 8 m := by simp [be8, beN, Nat.div_div_eq_div_mul]
theorem beN_cmp : ∀ (n m m2 : Nat) (x y : List Int), m < 256 ^ n → m2 < 256 ^ n → cmpB (beN n m ++ x) (beN n m2 ++ y) = orElse (cmpI m m2) (cmpB x y) := by
  intro n
  induction n with
  | zero =>
    intro m m2 x y h h2
    obtain rfl : m = 0 := by simpa using h
    obtain rfl : m2 = 0 := by simpa using h2
    simp [beN, cmpI, orElse]
  | succ n ih =>
    intro m m2 x y h h2
    rw [Nat.pow_succ] at h h2
    show cmpB (beN n (m / 256) ++ [((m % 256 : Nat) : Int)] ++ x) (beN n (m2 / 256) ++ [((m2 % 256 : Nat) : Int)] ++ y) = _
    rw [List.append_assoc, List.append_assoc, ih _ _ _ _ (by omega) (by omega)]
    simp only [List.singleton_append]
    by_cases a : m / 256 < m2 / 256
    · rw [cmpI_lt (show ((m / 256 : Nat) : Int) < ((m2 / 256 : Nat) : Int) by omega), cmpI_lt (show (m : Int) < (m2 : Int) by omega), orElse_ne (by decide), orElse_ne (by decide)]
    · by_cases b : m2 / 256 < m / 256
      · rw [cmpI_gt (show ((m2 / 256 : Nat) : Int) < ((m / 256 : Nat) : Int) by omega), cmpI_gt (show (m2 : Int) < (m : Int) by omega), orElse_ne (by decide), orElse_ne (by decide)]
      · have e : m / 256 = m2 / 256 := by omega
        rw [e, cmpI_same, orElse_zero]
        by_cases c : m % 256 < m2 % 256
        · rw [cmpB_lt (by omega), cmpI_lt (show (m : Int) < (m2 : Int) by omega), orElse_ne (by decide)]
        · by_cases d : m2 % 256 < m % 256
          · rw [cmpB_gt (by omega), cmpI_gt (show (m2 : Int) < (m : Int) by omega), orElse_ne (by decide)]
          · obtain rfl : m = m2 := by omega
            rw [cmpB_same, cmpI_same, orElse_zero]
theorem place_cmp (i i2 : Int) (x y : List Int) (h0 : -9223372036854775808 ≤ i) (h1 : i ≤ 9223372036854775807) (h2 : -9223372036854775808 ≤ i2) (h3 : i2 ≤ 9223372036854775807) : cmpB (placeB i ++ x) (placeB i2 ++ y) = orElse (cmpI i i2) (cmpB x y) := by
  unfold placeB
  rw [be8_eq, be8_eq, beN_cmp 8 _ _ x y (by omega) (by omega)]
  congr 1
  unfold cmpI
  by_cases a : i < i2
  · rw [if_pos a, if_pos (by omega)]
  · rw [if_neg a, if_neg (by omega)]
    by_cases b : i2 < i
    · rw [if_pos b, if_pos (by omega)]
    · rw [if_neg b, if_neg (by omega)]

theorem esc_cons (b : UInt8) (l : List UInt8) : escB (b :: l) = (if b.toNat = 0 then [0, 255] else [(b.toNat : Int)]) ++ escB l := by simp [escB]
theorem esc_cmp : ∀ (s s2 : List UInt8) (x y : List Int), cmpB (escB s ++ 0 :: 0 :: x) (escB s2 ++ 0 :: 0 :: y) = orElse (Go.Lib.compareBytes s s2) (cmpB x y) := by
  intro s
  induction s with
  | nil =>
    intro s2 x y
    cases s2 with
    | nil => simp [escB, Go.Lib.compareBytes, cmpB_same, orElse]
    | cons b s2 =>
      rw [esc_cons]
      by_cases hb : b.toNat = 0
      · rw [if_pos hb]
        simp only [escB, List.flatMap_nil, List.nil_append, List.cons_append, cmpB_same]
        rw [cmpB_lt (by omega)]
        simp [Go.Lib.compareBytes, orElse]
      · rw [if_neg hb]
        simp only [escB, List.flatMap_nil, List.nil_append, List.cons_append]
        rw [cmpB_lt (by omega)]
        simp [Go.Lib.compareBytes, orElse]
  | cons a s ih =>
    intro s2 x y
    cases s2 with
    | nil =>
      rw [esc_cons]
      by_cases hb : a.toNat = 0
      · rw [if_pos hb]
        simp only [escB, List.flatMap_nil, List.nil_append, List.cons_append, cmpB_same]
        rw [cmpB_gt (by omega)]
        simp [Go.Lib.compareBytes, orElse]
      · rw [if_neg hb]
        simp only [escB, List.flatMap_nil, List.nil_append, List.cons_append]
        rw [cmpB_gt (by omega)]
        simp [Go.Lib.compareBytes, orElse]
    | cons b s2 =>
      rw [esc_cons, esc_cons]
      show _ = orElse (if a < b then -1 else if b < a then 1 else Go.Lib.compareBytes s s2) _
      by_cases hab : a < b
      · rw [if_pos hab]
        rw [UInt8.lt_iff_toNat_lt] at hab
        rw [if_neg (show ¬ b.toNat = 0 by omega)]
        by_cases ha : a.toNat = 0
        · rw [if_pos ha]
          simp only [List.cons_append, List.nil_append]
          rw [cmpB_lt (by omega)]; simp [orElse]
        · rw [if_neg ha]
          simp only [List.cons_append, List.nil_append]
          rw [cmpB_lt (by omega)]; simp [orElse]
      · rw [if_neg hab]
        by_cases hba : b < a
        · rw [if_pos hba]
          rw [UInt8.lt_iff_toNat_lt] at hba
          rw [if_neg (show ¬ a.toNat = 0 by omega)]
          by_cases hb : b.toNat = 0
          · rw [if_pos hb]
            simp only [List.cons_append, List.nil_append]
            rw [cmpB_gt (by omega)]; simp [orElse]
          · rw [if_neg hb]
            simp only [List.cons_append, List.nil_append]
            rw [cmpB_gt (by omega)]; simp [orElse]
        · rw [if_neg hba]
          rw [UInt8.lt_iff_toNat_lt] at hab hba
          have e : a.toNat = b.toNat := by omega
          rw [e]
          by_cases hb : b.toNat = 0
          · rw [if_pos hb]
            simp only [List.cons_append, List.nil_append, cmpB_same]
            exact ih s2 x y
          · rw [if_neg hb]
            simp only [List.cons_append, List.nil_append, cmpB_same]
            exact ih s2 x y

theorem rank_cmp : ∀ (t u : VT) (x y : List Int), Val t → Val u → cmpB (rankB t ++ x) (rankB u ++ y) = orElse (ordV t u) (cmpB x y) := by
  intro t
  induction t with
  | nil => intro u x y h; exact h.elim
  | mk k i s n p c f ih =>
    intro u x y hv hu
    cases u with
    | nil => exact hu.elim
    | mk k2 i2 s2 n2 p2 c2 f2 =>
      by_cases hk : k = k2
      · subst hk
        have h1 := shp_of hv.1.1
        have h2 := shp_of hu.1.1
        by_cases k1 : k = 1
        · subst k1
          rw [ordV_ints, rankB_eq, rankB_eq, if_pos rfl, if_pos rfl, List.cons_append, List.cons_append, cmpB_same]
          exact place_cmp i i2 x y hv.1.2.2.2.1 hv.1.2.2.2.2 hu.1.2.2.2.1 hu.1.2.2.2.2
        by_cases k2 : k = 2
        · subst k2
          rw [ordV_texts, rankB_eq, rankB_eq, if_neg (by decide), if_pos rfl, if_neg (by decide), if_pos rfl, List.cons_append, List.cons_append, cmpB_same, List.append_assoc, List.append_assoc]
          exact esc_cmp s.data.toList s2.data.toList x y
        rw [ordV_lists k i s n p c f i2 s2 n2 p2 c2 f2 k1 k2]
        by_cases k3 : k = 3
        · subst k3
          rw [rankB_eq, rankB_eq, if_neg (by decide), if_neg (by decide), if_pos rfl, if_neg (by decide), if_neg (by decide), if_pos rfl, List.cons_append, List.cons_append, cmpB_same, List.append_assoc, List.append_assoc]
          have key : ∀ m, m ≤ n → m ≤ n2 → ∀ X Y, cmpB (ranksN f m ++ X) (ranksN f2 m ++ Y) = orElse (firstN (fun j => ordV (f j) (f2 j)) m) (cmpB X Y) := by
            intro m
            induction m with
            | zero => intro _ _ X Y; simp [ranksN, firstN, orElse]
            | succ m ihm =>
              intro hm hm2 X Y
              rw [ranksN_succ, ranksN_succ, List.append_assoc, List.append_assoc, ihm (by omega) (by omega), ih m (f2 m) X Y (hv.2 m (by omega)) (hu.2 m (by omega))]
              by_cases hz : firstN (fun j => ordV (f j) (f2 j)) m = 0
              · rw [hz, orElse_zero, firstN_succ hz]
              · rw [orElse_ne hz, firstN_stuck (Nat.le_succ m) hz, orElse_ne hz]
          have pos : ∀ q, Val q → ∃ a r, rankB q = a :: r ∧ 0 < a := by
            intro q hq
            cases q with
            | nil => exact hq.elim
            | mk a b c d e f g =>
              refine ⟨a + 1, _, rankB_eq a b c d e f g, ?_⟩
              have := hq.1.1
              simp [fitB] at this
              omega
          have more : ∀ (h : Nat → VT) (a b : Nat), a < b → (∀ j, j < b → Val (h j)) → ∃ q r, ranksN h b = ranksN h a ++ q :: r ∧ 0 < q := by
            intro h a b hab hval
            have hp : ∀ e, a + 1 + e ≤ b → ∃ r, ranksN h (a + 1 + e) = ranksN h (a + 1) ++ r := by
              intro e
              induction e with
              | zero => intro _; exact ⟨[], by simp⟩
              | succ e ihe =>
                intro he
                obtain ⟨r, hr⟩ := ihe (by omega)
                exact ⟨r ++ rankB (h (a + 1 + e)), by rw [show a + 1 + (e + 1) = a + 1 + e + 1 by omega, ranksN_succ, hr, List.append_assoc]⟩
            obtain ⟨r, hr⟩ := hp (b - (a + 1)) (by omega)
            rw [show a + 1 + (b - (a + 1)) = b by omega] at hr
            obtain ⟨q, r2, hq, hpos⟩ := pos (h a) (hval a hab)
            exact ⟨q, r2 ++ r, by rw [hr, ranksN_succ, hq, List.append_assoc]; rfl, hpos⟩
          show cmpB (ranksN f n ++ ([0] ++ x)) (ranksN f2 n2 ++ ([0] ++ y)) = orElse (orElse (firstN (fun j => ordV (f j) (f2 j)) (min n n2)) (cmpI n n2)) (cmpB x y)
          have assoc : ∀ a b c, orElse (orElse a b) c = orElse a (orElse b c) := by
            intro a b c
            by_cases ha : a = 0
            · rw [ha, orElse_zero, orElse_zero]
            · rw [orElse_ne ha, orElse_ne ha, orElse_ne ha]
          rw [assoc]
          by_cases hn : n < n2
          · obtain ⟨q, r, hq, hpos⟩ := more f2 n n2 hn hu.2
            rw [hq, List.append_assoc, key n (Nat.le_refl _) (by omega), show min n n2 = n by omega, cmpI_lt (by omega), orElse_ne (show (-1 : Int) ≠ 0 by decide)]
            congr 1
            exact cmpB_lt hpos _ _
          · by_cases hn2 : n2 < n
            · obtain ⟨q, r, hq, hpos⟩ := more f n2 n hn2 hv.2
              rw [hq, List.append_assoc, key n2 (by omega) (Nat.le_refl _), show min n n2 = n2 by omega, cmpI_gt (by omega), orElse_ne (show (1 : Int) ≠ 0 by decide)]
              congr 1
              exact cmpB_gt hpos _ _
            · obtain rfl : n = n2 := by omega
              rw [key n (Nat.le_refl _) (Nat.le_refl _), show min n n = n by omega, cmpI_same, orElse_zero]
              first | rfl | (congr 1; exact cmpB_same 0 x y)
        · have k0 : k = 0 := by have := hv.1.1; simp [fitB] at this; omega
          subst k0
          have e1 : n = 0 := by have := hv.1.1; simp [fitB] at this; omega
          have e2 : n2 = 0 := by have := hu.1.1; simp [fitB] at this; omega
          subst e1 e2
          rw [rankB_eq, rankB_eq, if_neg (by decide), if_neg (by decide), if_neg (by decide), if_neg (by decide), if_neg (by decide), if_neg (by decide), List.cons_append, List.cons_append, cmpB_same]
          simp [ordL, firstN, cmpI, orElse]
      · rw [ordV_kinds k k2 i s n p c f i2 s2 n2 p2 c2 f2 hk, rankB_eq, rankB_eq, List.cons_append, List.cons_append, cmpB_cons]
        unfold cmpI
        by_cases a : k < k2
        · rw [if_pos (show k + 1 < k2 + 1 by omega), if_pos a, orElse_ne (by decide)]
        · rw [if_neg (show ¬ k + 1 < k2 + 1 by omega), if_neg a, if_pos (show k2 + 1 < k + 1 by omega), if_pos (show k2 < k by omega), orElse_ne (by decide)]

theorem rank_byte : ∀ t : VT, Val t → ∀ z ∈ rankB t, 0 ≤ z ∧ z < 256 := by
  intro t
  induction t with
  | nil => intro h; exact h.elim
  | mk k i s n p c f ih =>
    intro hv z hz
    have hk : 0 ≤ k ∧ k ≤ 3 := by have := hv.1.1; simp [fitB] at this; omega
    rw [rankB_eq, List.mem_cons] at hz
    rcases hz with rfl | hz
    · omega
    by_cases k1 : k = 1
    · rw [if_pos k1] at hz
      simp [placeB, be8] at hz
      rcases hz with rfl | rfl | rfl | rfl | rfl | rfl | rfl | rfl <;> omega
    rw [if_neg k1] at hz
    by_cases k2 : k = 2
    · rw [if_pos k2] at hz
      rcases List.mem_append.1 hz with hz | hz
      · obtain ⟨b, _, hb⟩ := List.mem_flatMap.1 hz
        have := b.toNat_lt
        split at hb
        · simp at hb; omega
        · simp at hb; omega
      · simp at hz; omega
    rw [if_neg k2] at hz
    by_cases k3 : k = 3
    · rw [if_pos k3] at hz
      rcases List.mem_append.1 hz with hz | hz
      · obtain ⟨j, hj, hb⟩ := List.mem_flatMap.1 hz
        exact ih j (hv.2 j (List.mem_range.1 hj)) z hb
      · simp at hz; omega
    · rw [if_neg k3] at hz; cases hz

/-- the two ways of asking give one answer -/
theorem order_rank {t u : VT} (ht : Val t) (hu : Val u) : cmp3 (strOf (rankB t)).toList (strOf (rankB u)).toList = ordV t u := by
  rw [strOf_list, strOf_list, cmp3_eq _ _ (rank_byte t ht) (rank_byte u hu)]
  have h := rank_cmp t u [] [] ht hu
  simp only [List.append_nil] at h
  rw [h]
  show (if ordV t u ≠ 0 then ordV t u else 0) = _
  split
  · rfl
  · rename_i h; exact (Decidable.of_not_not h).symm
end Go.Proofs.Ythahomdgpcjhcaa
