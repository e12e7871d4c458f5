import Derived.Test.YtpknlbibijheaabRankAll
import Derived.Test.YtpknlbibijheaabPack28
import Derived.Test.YtpknlbibijheaabPack33
import Derived.Test.YtpknlbibijheaabPack32
namespace Go.Proofs.Ytpknlbibijheaab
open Go.RowKit
set_option maxRecDepth 8000

def PartsPost (w : World) (t : VT) (e : Ending) (w' : World) : Prop :=
  ∃ g c, e = .returned (.slice (some ⟨g, 0, none⟩) (flatP (cleanT t)).length c) ∧ w'.ownsRow 0 103 4 (.slice (some ⟨g, 0, none⟩) (flatP (cleanT t)).length c) (flatP (cleanT t)).length (ptCells (flatP (cleanT t))) ∧ Below w.heap.size w w'
theorem flatP_pos (t : VT) : 0 < (flatP t).length := by cases t <;> simp [flatP]
theorem own_some {w : World} {base n : Nat} {e : TypeId} {size : Nat} {v : Value} {xs : List Value} (h : w.ownsRow base e size v n xs) (hn : 0 < n) : ∃ g c, v = .slice (some ⟨g, 0, none⟩) n c := by
  obtain ⟨_, ⟨hv, h0⟩ | ⟨g, cap, cur, hv, _⟩⟩ := h
  · omega
  · exact ⟨g, cap, hv⟩

set_option maxHeartbeats 1000000 in
theorem parts_any (t : VT) (w : World) (S : Nat → Prop) (hin : VT.In w S t) :
    Calls Try.prog 52 #[t.val] w fun e w' => PartsPost w t e w' := by
  have HC : Hid (∀ W, Below w.heap.size w W → Calls Try.prog 50 #[t.val, .int .i64 ((0 : Nat) : Int), .slice none 0 0] W fun r w' => FlatPost 0 W (.slice none 0 0) (chk t 0 0).1 (flatP t) r w') :=
    fun W hW => flat_any t W S 0 (.slice none 0 0) [] 0 (hin.below hW) (fun b _ h => by cases h) (World.ownsRow_nil _ _ _ _) (Nat.zero_le _) (by simp) (by omega)
  obtain ⟨k, i, s, n, p, c, f, ht⟩ := hin.mk_
  clear hin
  unfold PartsPost cleanT
  by_cases h : (chk t 0 0).1 = 0
  · rw [if_pos h]
    rw [h] at HC
    have HP := flatP_pos t
    generalize flatP t = L at *
    simp only [VT.val, ht, VT.kind_mk, VT.int_mk, VT.text_mk, VT.p_mk, VT.n_mk, VT.c_mk] at HC ⊢
    go_enter Try.func52, Try.ntmps52
    go_wp2_with fail
    refine (HC.out _ ?_).mono ?_
    · exact (Below.refl _ _).alloc (Nat.le_refl _) _
    intro e w1 hP
    obtain ⟨v', rfl, hL, ho⟩ := hP
    have hO := ho rfl
    obtain ⟨g, cp, hv⟩ := own_some hO HP
    have hb1 : Below w.heap.size w w1 := ((Below.refl w.heap.size w).alloc (Nat.le_refl _) _).trans ((hL.but.below (Nat.le_refl _) (fun k _ e => by cases e)).mono (by simp))
    subst hv
    have HO : Hid (w1.ownsRow 0 103 4 (.slice (some ⟨g, 0, none⟩) L.length cp) L.length (ptCells L)) := hO
    clear hL ho hO HC
    go_wp2
    go_ret
    exact ⟨g, cp, rfl, HO.out, hb1⟩
  · rw [if_neg h]
    have h' : ¬ (((chk t 0 0).1 : Int) = 0) := by omega
    generalize (chk t 0 0).1 = r at *
    generalize flatP t = L at *
    simp only [VT.val, ht, VT.kind_mk, VT.int_mk, VT.text_mk, VT.p_mk, VT.n_mk, VT.c_mk] at HC ⊢
    go_enter Try.func52, Try.ntmps52
    go_wp2_with fail
    refine (HC.out _ ?_).mono ?_
    · exact (Below.refl _ _).alloc (Nat.le_refl _) _
    intro e w1 hP
    obtain ⟨v', rfl, hL, ho⟩ := hP
    have hb1 : Below w.heap.size w w1 := ((Below.refl w.heap.size w).alloc (Nat.le_refl _) _).trans ((hL.but.below (Nat.le_refl _) (fun k _ e => by cases e)).mono (by simp))
    clear hL ho HC
    go_wp2
    go_ret
    refine ⟨w1.heap.size, 1, rfl, ?_, hb1.alloc hb1.size _⟩
    refine ⟨rfl, .inr ⟨w1.heap.size, 1, _, rfl, Nat.zero_le _, Box.new w1 _ _, Nat.le_refl _, by unfold maxLen; omega, rfl, rfl⟩⟩
end Go.Proofs.Ytpknlbibijheaab

namespace Go.Proofs.Ytpknlbibijheaab
open Go.RowKit
set_option maxRecDepth 8000

/-- the order of two texts, as it is asked for -/
def cmp3 (a b : List UInt8) : Int := if Op.bytesLess a b = true then -1 else if (a == b) = true then 0 else 1
set_option maxHeartbeats 2000000 in
theorem refCompare_any (t u : VT) (w : World) (S R : Nat → Prop) (hin : VT.In w S t) (hiu : VT.In w R u) :
    Calls Try.prog 42 #[t.val, u.val] w fun e w' => e = .returned (.int .i64 (cmp3 (strOf (rankB (cleanT t))).toList (strOf (rankB (cleanT u))).toList)) ∧ Below w.heap.size w w' := by
  have H1 : Hid (∀ W, Below w.heap.size w W → Calls Try.prog 52 #[t.val] W fun e w' => PartsPost W t e w') := fun W hW => parts_any t W S (hin.below hW)
  have H2 : Hid (∀ W, Below w.heap.size w W → Calls Try.prog 52 #[u.val] W fun e w' => PartsPost W u e w') := fun W hW => parts_any u W R (hiu.below hW)
  have hv1 := clean_val hin
  have hv2 := clean_val hiu
  clear hin hiu
  obtain ⟨r, HRr⟩ : ∃ r, Hid (cmp3 (strOf (rankB (cleanT t))).toList (strOf (rankB (cleanT u))).toList = r) := ⟨cmp3 (strOf (rankB (cleanT t))).toList (strOf (rankB (cleanT u))).toList, by unfold Hid; rfl⟩
  rw [HRr.out]
  unfold VT.val at H1 H2 ⊢
  go_enter Try.func42, Try.ntmps42
  go_wp2_with fail
  refine (H1.out _ ?_).mono ?_
  · exact ((Below.refl _ _).alloc (Nat.le_refl _) _).alloc (by simp) _
  intro e w1 hP
  obtain ⟨g1, c1, rfl, ho1, hb1⟩ := hP
  have hU1 : Box w1 (w.heap.size + 1) #[.int .i64 u.kind, .int .i64 u.int, .string u.text, .slice u.p u.n u.c] 70 := by
    have h := Box.new (w.alloc (.cells #[.int .i64 t.kind, .int .i64 t.int, .string t.text, .slice t.p t.n t.c] 70)) #[.int .i64 u.kind, .int .i64 u.int, .string u.text, .slice u.p u.n u.c] 70
    rw [show (w.alloc (.cells #[.int .i64 t.kind, .int .i64 t.int, .string t.text, .slice t.p t.n t.c] 70)).heap.size = w.heap.size + 1 by simp] at h
    exact h.below hb1
  have hbw1 : Below w.heap.size w w1 := (((Below.refl w.heap.size w).alloc (Nat.le_refl _) _).alloc (by simp) _).trans (hb1.mono (by simp; omega))
  have HR1 := rank_any (cleanT t) w1 0 (flatP (cleanT t)) g1 c1 0 [] ho1 (by simp) clean_len hv1
  clear hb1 ho1 H1
  go_wp2_with fail
  refine HR1.mono ?_
  intro e w2 hP
  obtain ⟨x1, rfl, ho2, hb2⟩ := hP
  have hO2 : OwnBy _ w2 x1 (rankB (cleanT t)) := ho2
  have hU2 := hU1.below hb2
  have hbw2 : Below w.heap.size w w2 := hbw1.trans (hb2.mono hbw1.size)
  have q0 := hU2.cell 0
  have q1 := hU2.cell 1
  have q2 := hU2.cell 2
  have q3 := hU2.cell 3
  simp at q0 q1 q2 q3
  clear hb2 ho2 HR1 hU1 hbw1
  go_wp2_with fail
  refine (H2.out _ hbw2).mono ?_
  intro e w3 hP
  obtain ⟨g2, c2, rfl, ho3, hb3⟩ := hP
  have hO3 := hO2.below hb3
  have hbw3 : Below w.heap.size w w3 := hbw2.trans (hb3.mono hbw2.size)
  have HR2 := rank_any (cleanT u) w3 0 (flatP (cleanT u)) g2 c2 0 [] ho3 (by simp) clean_len hv2
  clear hb3 ho3 H2 q0 q1 q2 q3 hO2 hbw2 hU2
  go_wp2_with fail
  refine HR2.mono ?_
  intro e w4 hP
  obtain ⟨x2, rfl, ho4, hb4⟩ := hP
  have hO4 : OwnBy _ w4 x2 (rankB (cleanT u)) := ho4
  have hO1 := hO3.below hb4
  have hbw4 : Below w.heap.size w w4 := hbw3.trans (hb4.mono hbw3.size)
  obtain ⟨b1, cp1, e1, _⟩ := hO1.slice (by cases cleanT t <;> simp [rankB])
  obtain ⟨b2, cp2, e2, _⟩ := hO4.slice (by cases cleanT u <;> simp [rankB])
  subst e1 e2
  have k1 := conv_any (hO1.below ((Below.refl w4.heap.size w4).drew))
  have k2 := conv_any (hO4.below ((Below.refl w4.heap.size w4).drew))
  generalize rankB (cleanT t) = A at *
  generalize rankB (cleanT u) = B at *
  generalize strOf A = sa at *
  generalize strOf B = sb at *
  clear hO1 hO4 hO3 hb4 ho4 HR2 hbw3
  go_wp2_with fail
  cases h1 : Op.bytesLess sa.toList sb.toList with
  | true =>
    obtain rfl : -1 = r := by rw [← HRr.out, cmp3, if_pos h1]
    clear HRr
    go_region
    all_goals
      go_wp2
      go_ret
      exact ⟨rfl, hbw4.drew⟩
  | false =>
    cases h2 : sa.toList == sb.toList with
    | true =>
      obtain rfl : 0 = r := by rw [← HRr.out, cmp3, if_neg (by rw [h1]; simp), if_pos h2]
      clear HRr
      go_region
      all_goals
        go_wp2
        go_ret
        exact ⟨rfl, hbw4.drew⟩
    | false =>
      obtain rfl : 1 = r := by rw [← HRr.out, cmp3, if_neg (by rw [h1]; simp), if_neg (by rw [h2]; simp)]
      clear HRr
      go_region
      all_goals
        go_wp2
        go_ret
        exact ⟨rfl, hbw4.drew⟩
end Go.Proofs.Ytpknlbibijheaab

namespace Go.Proofs.Ytpknlbibijheaab
open Go.RowKit

/-- the order of lists of numbers -/
def cmpB : List Int → List Int → Int
  | [], [] => 0
  | [], _ :: _ => -1
  | _ :: _, [] => 1
  | a :: x, b :: y => if a < b then -1 else if b < a then 1 else cmpB x y
theorem cmpB_cons (a b : Int) (x y : List Int) : cmpB (a :: x) (b :: y) = if a < b then -1 else if b < a then 1 else cmpB x y := rfl
theorem cmpB_same (a : Int) (x y : List Int) : cmpB (a :: x) (a :: y) = cmpB x y := by rw [cmpB_cons, if_neg (by omega), if_neg (by omega)]
theorem cmpB_lt {a b : Int} (h : a < b) (x y : List Int) : cmpB (a :: x) (b :: y) = -1 := by rw [cmpB_cons, if_pos h]
theorem cmpB_gt {a b : Int} (h : b < a) (x y : List Int) : cmpB (a :: x) (b :: y) = 1 := by rw [cmpB_cons, if_neg (by omega), if_pos h]
/-- the first, or else the second -/
def orElse (a b : Int) : Int := if a ≠ 0 then a else b
theorem orElse_zero (b : Int) : orElse 0 b = b := by simp [orElse]
theorem orElse_ne {a : Int} (h : a ≠ 0) (b : Int) : orElse a b = a := by simp [orElse, h]

theorem cmpI_lt {x y : Int} (h : x < y) : cmpI x y = -1 := by rw [cmpI, if_pos h]
theorem cmpI_gt {x y : Int} (h : y < x) : cmpI x y = 1 := by rw [cmpI, if_neg (by omega), if_pos h]
theorem cmpI_same (x : Int) : cmpI x x = 0 := by rw [cmpI, if_neg (by omega), if_neg (by omega)]
theorem u8_lt {a b : Int} (ha : 0 ≤ a ∧ a < 256) (hb : 0 ≤ b ∧ b < 256) : (UInt8.ofNat a.toNat < UInt8.ofNat b.toNat) ↔ a < b := by
  rw [UInt8.lt_iff_toNat_lt, UInt8.toNat_ofNat', UInt8.toNat_ofNat', Nat.mod_eq_of_lt (by omega), Nat.mod_eq_of_lt (by omega)]
  omega
theorem u8_eq {a b : Int} (ha : 0 ≤ a ∧ a < 256) (hb : 0 ≤ b ∧ b < 256) : (UInt8.ofNat a.toNat = UInt8.ofNat b.toNat) ↔ a = b := by
  constructor
  · intro h
    have h2 := congrArg UInt8.toNat h
    rw [UInt8.toNat_ofNat', UInt8.toNat_ofNat', Nat.mod_eq_of_lt (by omega), Nat.mod_eq_of_lt (by omega)] at h2
    omega
  · intro h; rw [h]
theorem u8_beq {a b : Int} (ha : 0 ≤ a ∧ a < 256) (hb : 0 ≤ b ∧ b < 256) : (UInt8.ofNat a.toNat == UInt8.ofNat b.toNat) = decide (a = b) := by
  by_cases h : a = b
  · subst h; simp
  · rw [decide_eq_false h, beq_eq_false_iff_ne]
    exact fun e => h ((u8_eq ha hb).1 e)
def toU8 (zs : List Int) : List UInt8 := zs.map fun z => UInt8.ofNat z.toNat
theorem cmp3_eq : ∀ (A B : List Int), (∀ z ∈ A, 0 ≤ z ∧ z < 256) → (∀ z ∈ B, 0 ≤ z ∧ z < 256) → cmp3 (toU8 A) (toU8 B) = cmpB A B := by
  intro A
  induction A with
  | nil =>
    intro B _ _
    cases B with
    | nil => simp [toU8, cmp3, cmpB, Op.bytesLess]
    | cons b B => simp [toU8, cmp3, cmpB, Op.bytesLess]
  | cons a A ih =>
    intro B hA hB
    cases B with
    | nil => simp [toU8, cmp3, cmpB, Op.bytesLess]
    | cons b B =>
      have ha := hA a (by simp)
      have hb := hB b (by simp)
      have hr := ih B (fun z hz => hA z (by simp [hz])) (fun z hz => hB z (by simp [hz]))
      have h1 : Op.bytesLess (toU8 (a :: A)) (toU8 (b :: B)) = (decide (a < b) || (decide (a = b) && Op.bytesLess (toU8 A) (toU8 B))) := by
        show (decide (UInt8.ofNat a.toNat < UInt8.ofNat b.toNat) || (UInt8.ofNat a.toNat == UInt8.ofNat b.toNat && Op.bytesLess (toU8 A) (toU8 B))) = _
        rw [decide_eq_decide.2 (u8_lt ha hb), u8_beq ha hb]
      have h2 : (toU8 (a :: A) == toU8 (b :: B)) = (decide (a = b) && (toU8 A == toU8 B)) := by
        show (UInt8.ofNat a.toNat == UInt8.ofNat b.toNat && (toU8 A == toU8 B)) = _
        rw [u8_beq ha hb]
      unfold cmp3 at hr ⊢
      rw [h1, h2, cmpB_cons]
      by_cases h : a < b
      · simp [h]
      · by_cases h' : b < a
        · have : ¬ a = b := by omega
          simp [h, h', this]
        · obtain rfl : a = b := by omega
          simp only [h, decide_false, Bool.false_or, decide_true, Bool.true_and, if_false]
          exact hr
theorem strOf_list (zs : List Int) : (strOf zs).toList = toU8 zs := by
  have key : ∀ (zs : List Int) (r : ByteArray), (zs.foldl (fun r n => r.push (UInt8.ofNat n.toNat)) r).data.toList = r.data.toList ++ toU8 zs := by
    intro zs
    induction zs with
    | nil => intro r; simp [toU8]
    | cons z zs ih =>
      intro r
      rw [List.foldl_cons, ih]
      simp [toU8, ByteArray.push]
  rw [ByteArray.toList_eq]
  unfold strOf
  have := key zs ByteArray.empty
  simpa using this

/-- n bytes, the highest first -/
def beN : Nat → Nat → List Int
  | 0, _ => []
  | n + 1, m => beN n (m / 256) ++ [((m % 256 : Nat) : Int)]
theorem be8_eq (m : Nat) : be8 m = beN 8 m := by simp [be8, beN, Nat.div_div_eq_div_mul]
theorem beN_cmp : ∀ (n m m2 : Nat) (x y : List Int), m < 256 ^ n → m2 < 256 ^ n → cmpB (beN n m ++ x) (beN n m2 ++ y) = orElse (cmpI m m2) (cmpB x y) := by
  intro n
  induction n with
  | zero =>
    intro m m2 x y h h2
    obtain rfl : m = 0 := by simpa using h
    obtain rfl : m2 = 0 := by simpa using h2
    simp [beN, cmpI, orElse]
  | succ n ih =>
    intro m m2 x y h h2
    rw [Nat.pow_succ] at h h2
    show cmpB (beN n (m / 256) ++ [((m % 256 : Nat) : Int)] ++ x) (beN n (m2 / 256) ++ [((m2 % 256 : Nat) : Int)] ++ y) = _
    rw [List.append_assoc, List.append_assoc, ih _ _ _ _ (by omega) (by omega)]
    simp only [List.singleton_append]
    by_cases a : m / 256 < m2 / 256
    · rw [cmpI_lt (show ((m / 256 : Nat) : Int) < ((m2 / 256 : Nat) : Int) by omega), cmpI_lt (show (m : Int) < (m2 : Int) by omega), orElse_ne (by decide), orElse_ne (by decide)]
    · by_cases b : m2 / 256 < m / 256
      · rw [cmpI_gt (show ((m2 / 256 : Nat) : Int) < ((m / 256 : Nat) : Int) by omega), cmpI_gt (show (m2 : Int) < (m : Int) by omega), orElse_ne (by decide), orElse_ne (by decide)]
      · have e : m / 256 = m2 / 256 := by omega
        rw [e, cmpI_same, orElse_zero]
        by_cases c : m % 256 < m2 % 256
        · rw [cmpB_lt (by omega), cmpI_lt (show (m : Int) < (m2 : Int) by omega), orElse_ne (by decide)]
        · by_cases d : m2 % 256 < m % 256
          · rw [cmpB_gt (by omega), cmpI_gt (show (m2 : Int) < (m : Int) by omega), orElse_ne (by decide)]
          · obtain rfl : m = m2 := by omega
            rw [cmpB_same, cmpI_same, orElse_zero]
theorem place_cmp (i i2 : Int) (x y : List Int) (h0 : -9223372036854775808 ≤ i) (h1 : i ≤ 9223372036854775807) (h2 : -9223372036854775808 ≤ i2) (h3 : i2 ≤ 9223372036854775807) : cmpB (placeB i ++ x) (placeB i2 ++ y) = orElse (cmpI i i2) (cmpB x y) := by
  unfold placeB
  rw [be8_eq, be8_eq, beN_cmp 8 _ _ x y (by omega) (by omega)]
  congr 1
  unfold cmpI
  by_cases a : i < i2
  · rw [if_pos a, if_pos (by omega)]
  · rw [if_neg a, if_neg (by omega)]
    by_cases b : i2 < i
    · rw [if_pos b, if_pos (by omega)]
    · rw [if_neg b, if_neg (by omega)]

theorem esc_cons (b : UInt8) (l : List UInt8) : escB (b :: l) = (if b.toNat = 0 then [0, 255] else [(b.toNat : Int)]) ++ escB l := by simp [escB]
theorem esc_cmp : ∀ (s s2 : List UInt8) (x y : List Int), cmpB (escB s ++ 0 :: 0 :: x) (escB s2 ++ 0 :: 0 :: y) = orElse (Go.Lib.compareBytes s s2) (cmpB x y) := by
  intro s
  induction s with
  | nil =>
    intro s2 x y
    cases s2 with
    | nil => simp [escB, Go.Lib.compareBytes, cmpB_same, orElse]
    | cons b s2 =>
      rw [esc_cons]
      by_cases hb : b.toNat = 0
      · rw [if_pos hb]
        simp only [escB, List.flatMap_nil, List.nil_append, List.cons_append, cmpB_same]
        rw [cmpB_lt (by omega)]
        simp [Go.Lib.compareBytes, orElse]
      · rw [if_neg hb]
        simp only [escB, List.flatMap_nil, List.nil_append, List.cons_append]
        rw [cmpB_lt (by omega)]
        simp [Go.Lib.compareBytes, orElse]
  | cons a s ih =>
    intro s2 x y
    cases s2 with
    | nil =>
      rw [esc_cons]
      by_cases hb : a.toNat = 0
      · rw [if_pos hb]
        simp only [escB, List.flatMap_nil, List.nil_append, List.cons_append, cmpB_same]
        rw [cmpB_gt (by omega)]
        simp [Go.Lib.compareBytes, orElse]
      · rw [if_neg hb]
        simp only [escB, List.flatMap_nil, List.nil_append, List.cons_append]
        rw [cmpB_gt (by omega)]
        simp [Go.Lib.compareBytes, orElse]
    | cons b s2 =>
      rw [esc_cons, esc_cons]
      show _ = orElse (if a < b then -1 else if b < a then 1 else Go.Lib.compareBytes s s2) _
      by_cases hab : a < b
      · rw [if_pos hab]
        rw [UInt8.lt_iff_toNat_lt] at hab
        rw [if_neg (show ¬ b.toNat = 0 by omega)]
        by_cases ha : a.toNat = 0
        · rw [if_pos ha]
          simp only [List.cons_append, List.nil_append]
          rw [cmpB_lt (by omega)]; simp [orElse]
        · rw [if_neg ha]
          simp only [List.cons_append, List.nil_append]
          rw [cmpB_lt (by omega)]; simp [orElse]
      · rw [if_neg hab]
        by_cases hba : b < a
        · rw [if_pos hba]
          rw [UInt8.lt_iff_toNat_lt] at hba
          rw [if_neg (show ¬ a.toNat = 0 by omega)]
          by_cases hb : b.toNat = 0
          · rw [if_pos hb]
            simp only [List.cons_append, List.nil_append]
            rw [cmpB_gt (by omega)]; simp [orElse]
          · rw [if_neg hb]
            simp only [List.cons_append, List.nil_append]
            rw [cmpB_gt (by omega)]; simp [orElse]
        · rw [if_neg hba]
          rw [UInt8.lt_iff_toNat_lt] at hab hba
          have e : a.toNat = b.toNat := by omega
          rw [e]
          by_cases hb : b.toNat = 0
          · rw [if_pos hb]
            simp only [List.cons_append, List.nil_append, cmpB_same]
            exact ih s2 x y
          · rw [if_neg hb]
            simp only [List.cons_append, List.nil_append, cmpB_same]
            exact ih s2 x y

theorem rank_cmp : ∀ (t u : VT) (x y : List Int), Val t → Val u → cmpB (rankB t ++ x) (rankB u ++ y) = orElse (ordV t u) (cmpB x y) := by
  intro t
  induction t with
  | nil => intro u x y h; exact h.elim
  | mk k i s n p c f ih =>
    intro u x y hv hu
    cases u with
    | nil => exact hu.elim
    | mk k2 i2 s2 n2 p2 c2 f2 =>
      by_cases hk : k = k2
      · subst hk
        have h1 := shp_of hv.1.1
        have h2 := shp_of hu.1.1
        by_cases k1 : k = 1
        · subst k1
          rw [ordV_ints, rankB_eq, rankB_eq, if_pos rfl, if_pos rfl, List.cons_append, List.cons_append, cmpB_same]
          exact place_cmp i i2 x y hv.1.2.2.2.1 hv.1.2.2.2.2 hu.1.2.2.2.1 hu.1.2.2.2.2
        by_cases k2 : k = 2
        · subst k2
          rw [ordV_texts, rankB_eq, rankB_eq, if_neg (by decide), if_pos rfl, if_neg (by decide), if_pos rfl, List.cons_append, List.cons_append, cmpB_same, List.append_assoc, List.append_assoc]
          exact esc_cmp s.data.toList s2.data.toList x y
        rw [ordV_lists k i s n p c f i2 s2 n2 p2 c2 f2 k1 k2]
        by_cases k3 : k = 3
        · subst k3
          rw [rankB_eq, rankB_eq, if_neg (by decide), if_neg (by decide), if_pos rfl, if_neg (by decide), if_neg (by decide), if_pos rfl, List.cons_append, List.cons_append, cmpB_same, List.append_assoc, List.append_assoc]
          have key : ∀ m, m ≤ n → m ≤ n2 → ∀ X Y, cmpB (ranksN f m ++ X) (ranksN f2 m ++ Y) = orElse (firstN (fun j => ordV (f j) (f2 j)) m) (cmpB X Y) := by
            intro m
            induction m with
            | zero => intro _ _ X Y; simp [ranksN, firstN, orElse]
            | succ m ihm =>
              intro hm hm2 X Y
              rw [ranksN_succ, ranksN_succ, List.append_assoc, List.append_assoc, ihm (by omega) (by omega), ih m (f2 m) X Y (hv.2 m (by omega)) (hu.2 m (by omega))]
              by_cases hz : firstN (fun j => ordV (f j) (f2 j)) m = 0
              · rw [hz, orElse_zero, firstN_succ hz]
              · rw [orElse_ne hz, firstN_stuck (Nat.le_succ m) hz, orElse_ne hz]
          have pos : ∀ q, Val q → ∃ a r, rankB q = a :: r ∧ 0 < a := by
            intro q hq
            cases q with
            | nil => exact hq.elim
            | mk a b c d e f g =>
              refine ⟨a + 1, _, rankB_eq a b c d e f g, ?_⟩
              have := hq.1.1
              simp [fitB] at this
              omega
          have more : ∀ (h : Nat → VT) (a b : Nat), a < b → (∀ j, j < b → Val (h j)) → ∃ q r, ranksN h b = ranksN h a ++ q :: r ∧ 0 < q := by
            intro h a b hab hval
            have hp : ∀ e, a + 1 + e ≤ b → ∃ r, ranksN h (a + 1 + e) = ranksN h (a + 1) ++ r := by
              intro e
              induction e with
              | zero => intro _; exact ⟨[], by simp⟩
              | succ e ihe =>
                intro he
                obtain ⟨r, hr⟩ := ihe (by omega)
                exact ⟨r ++ rankB (h (a + 1 + e)), by rw [show a + 1 + (e + 1) = a + 1 + e + 1 by omega, ranksN_succ, hr, List.append_assoc]⟩
            obtain ⟨r, hr⟩ := hp (b - (a + 1)) (by omega)
            rw [show a + 1 + (b - (a + 1)) = b by omega] at hr
            obtain ⟨q, r2, hq, hpos⟩ := pos (h a) (hval a hab)
            exact ⟨q, r2 ++ r, by rw [hr, ranksN_succ, hq, List.append_assoc]; rfl, hpos⟩
          show cmpB (ranksN f n ++ ([0] ++ x)) (ranksN f2 n2 ++ ([0] ++ y)) = orElse (orElse (firstN (fun j => ordV (f j) (f2 j)) (min n n2)) (cmpI n n2)) (cmpB x y)
          have assoc : ∀ a b c, orElse (orElse a b) c = orElse a (orElse b c) := by
            intro a b c
            by_cases ha : a = 0
            · rw [ha, orElse_zero, orElse_zero]
            · rw [orElse_ne ha, orElse_ne ha, orElse_ne ha]
          rw [assoc]
          by_cases hn : n < n2
          · obtain ⟨q, r, hq, hpos⟩ := more f2 n n2 hn hu.2
            rw [hq, List.append_assoc, key n (Nat.le_refl _) (by omega), show min n n2 = n by omega, cmpI_lt (by omega), orElse_ne (show (-1 : Int) ≠ 0 by decide)]
            congr 1
            exact cmpB_lt hpos _ _
          · by_cases hn2 : n2 < n
            · obtain ⟨q, r, hq, hpos⟩ := more f n2 n hn2 hv.2
              rw [hq, List.append_assoc, key n2 (by omega) (Nat.le_refl _), show min n n2 = n2 by omega, cmpI_gt (by omega), orElse_ne (show (1 : Int) ≠ 0 by decide)]
              congr 1
              exact cmpB_gt hpos _ _
            · obtain rfl : n = n2 := by omega
              rw [key n (Nat.le_refl _) (Nat.le_refl _), show min n n = n by omega, cmpI_same, orElse_zero]
              first | rfl | (congr 1; exact cmpB_same 0 x y)
        · have k0 : k = 0 := by have := hv.1.1; simp [fitB] at this; omega
          subst k0
          have e1 : n = 0 := by have := hv.1.1; simp [fitB] at this; omega
          have e2 : n2 = 0 := by have := hu.1.1; simp [fitB] at this; omega
          subst e1 e2
          rw [rankB_eq, rankB_eq, if_neg (by decide), if_neg (by decide), if_neg (by decide), if_neg (by decide), if_neg (by decide), if_neg (by decide), List.cons_append, List.cons_append, cmpB_same]
          simp [ordL, firstN, cmpI, orElse]
      · rw [ordV_kinds k k2 i s n p c f i2 s2 n2 p2 c2 f2 hk, rankB_eq, rankB_eq, List.cons_append, List.cons_append, cmpB_cons]
        unfold cmpI
        by_cases a : k < k2
        · rw [if_pos (show k + 1 < k2 + 1 by omega), if_pos a, orElse_ne (by decide)]
        · rw [if_neg (show ¬ k + 1 < k2 + 1 by omega), if_neg a, if_pos (show k2 + 1 < k + 1 by omega), if_pos (show k2 < k by omega), orElse_ne (by decide)]

theorem rank_byte : ∀ t : VT, Val t → ∀ z ∈ rankB t, 0 ≤ z ∧ z < 256 := by
  intro t
  induction t with
  | nil => intro h; exact h.elim
  | mk k i s n p c f ih =>
    intro hv z hz
    have hk : 0 ≤ k ∧ k ≤ 3 := by have := hv.1.1; simp [fitB] at this; omega
    rw [rankB_eq, List.mem_cons] at hz
    rcases hz with rfl | hz
    · omega
    by_cases k1 : k = 1
    · rw [if_pos k1] at hz
      simp [placeB, be8] at hz
      rcases hz with rfl | rfl | rfl | rfl | rfl | rfl | rfl | rfl <;> omega
    rw [if_neg k1] at hz
    by_cases k2 : k = 2
    · rw [if_pos k2] at hz
      rcases List.mem_append.1 hz with hz | hz
      · obtain ⟨b, _, hb⟩ := List.mem_flatMap.1 hz
        have := b.toNat_lt
        split at hb
        · simp at hb; omega
        · simp at hb; omega
      · simp at hz; omega
    rw [if_neg k2] at hz
    by_cases k3 : k = 3
    · rw [if_pos k3] at hz
      rcases List.mem_append.1 hz with hz | hz
      · obtain ⟨j, hj, hb⟩ := List.mem_flatMap.1 hz
        exact ih j (hv.2 j (List.mem_range.1 hj)) z hb
      · simp at hz; omega
    · rw [if_neg k3] at hz; cases hz

/-- the two ways of asking give one answer -/
theorem order_rank {t u : VT} (ht : Val t) (hu : Val u) : cmp3 (strOf (rankB t)).toList (strOf (rankB u)).toList = ordV t u := by
  rw [strOf_list, strOf_list, cmp3_eq _ _ (rank_byte t ht) (rank_byte u hu)]
  have h := rank_cmp t u [] [] ht hu
  simp only [List.append_nil] at h
  rw [h]
  show (if ordV t u ≠ 0 then ordV t u else 0) = _
  split
  · rfl
  · rename_i h; exact (Decidable.of_not_not h).symm
end Go.Proofs.Ytpknlbibijheaab
