import Derived.Test.YtdmhemofhmfkoabGreatDoorPack8
import Derived.Test.YtdmhemofhmfkoabGreatDoorPack20
import Derived.Test.YtdmhemofhmfkoabGreatDoorPack24
namespace Go.Proofs.YtdmhemofhmfkoabGreatDoor
open Go.RowKit
set_option maxRecDepth 8000
abbrev Digs (l : List UInt8) : Prop := ∀ c ∈ l, 48 ≤ c.toNat ∧ c.toNat ≤ 57
/-- the number that digits spell -/
def dvL (acc : Nat) (l : List UInt8) : Nat := l.foldl (fun a c => a * 10 + (c.toNat - 48)) acc
theorem dvC (acc : Nat) (c : UInt8) (r : List UInt8) : dvL acc (c :: r) = dvL (acc * 10 + (c.toNat - 48)) r := by unfold dvL; rw [List.foldl_cons]
theorem dvN (acc : Nat) : dvL acc [] = acc := by unfold dvL; rw [List.foldl_nil]
theorem dv_app : ∀ (x y : List UInt8) (acc : Nat), dvL acc (x ++ y) = dvL (dvL acc x) y
  | [], y, acc => by rw [List.nil_append, dvN]
  | c :: x, y, acc => by rw [List.cons_append, dvC, dvC, dv_app x y]
theorem dv_ge : ∀ (l : List UInt8) (acc : Nat), acc ≤ dvL acc l
  | [], acc => by rw [dvN]; exact Nat.le_refl _
  | c :: r, acc => by
    have := dv_ge r (acc * 10 + (c.toNat - 48))
    rw [dvC]; omega
theorem dv_lin : ∀ (l : List UInt8) (acc : Nat), dvL acc l = acc * 10 ^ l.length + dvL 0 l
  | [], acc => by simp [dvN]
  | c :: r, acc => by
    have h1 := dv_lin r (acc * 10 + (c.toNat - 48))
    have h2 := dv_lin r (0 * 10 + (c.toNat - 48))
    rw [dvC, dvC, h1, h2, List.length_cons, Nat.pow_succ, Nat.zero_mul, Nat.zero_add, Nat.add_mul, Nat.mul_assoc, Nat.mul_comm 10]
    omega
theorem dv_lt : ∀ (l : List UInt8), Digs l → dvL 0 l < 10 ^ l.length
  | [], _ => by simp [dvN]
  | c :: r, h => by
    have h1 := dv_lt r (fun x hx => h x (by simp [hx]))
    have h2 := h c (by simp)
    rw [dvC, dv_lin, List.length_cons, Nat.pow_succ, Nat.zero_mul, Nat.zero_add]
    have h3 : (c.toNat - 48) * 10 ^ r.length ≤ 9 * 10 ^ r.length := Nat.mul_le_mul_right _ (by omega)
    omega
theorem dv_big {c : UInt8} {r : List UInt8} (h : 49 ≤ c.toNat) : 10 ^ r.length ≤ dvL 0 (c :: r) := by
  rw [dvC, dv_lin, Nat.zero_mul, Nat.zero_add]
  have h3 : 1 * 10 ^ r.length ≤ (c.toNat - 48) * 10 ^ r.length := Nat.mul_le_mul_right _ (by omega)
  omega
theorem dv_less : ∀ (x y : List UInt8), Digs x → Digs y → x.length = y.length → (Op.bytesLess x y = true ↔ dvL 0 x < dvL 0 y)
  | [], [], _, _, _ => by simp [Op.bytesLess, dvN]
  | [], _ :: _, _, _, h => by simp at h
  | _ :: _, [], _, _, h => by simp at h
  | a :: x, b :: y, hx, hy, h => by
    have hl : x.length = y.length := by simpa using h
    have hx' : Digs x := fun c hc => hx c (by simp [hc])
    have hy' : Digs y := fun c hc => hy c (by simp [hc])
    have ih := dv_less x y hx' hy' hl
    have ha := hx a (by simp)
    have hb := hy b (by simp)
    have lx := dv_lt x hx'
    have ly := dv_lt y hy'
    rw [Op.bytesLess, dvC, dvC, dv_lin x, dv_lin y, Nat.zero_mul, Nat.zero_add, Nat.zero_add]
    rw [hl] at lx ⊢
    simp only [Bool.or_eq_true, decide_eq_true_eq, Bool.and_eq_true, beq_iff_eq, ih, UInt8.lt_iff_toNat_lt]
    constructor
    · rintro (h | ⟨h1, h2⟩)
      · have h3 : (a.toNat - 48 + 1) * 10 ^ y.length ≤ (b.toNat - 48) * 10 ^ y.length := Nat.mul_le_mul_right _ (by omega)
        rw [Nat.add_mul] at h3
        omega
      · subst h1; omega
    · intro h3
      rcases Nat.lt_trichotomy a.toNat b.toNat with h4 | h4 | h4
      · exact .inl h4
      · refine .inr ⟨UInt8.toNat_inj.1 h4, ?_⟩
        rw [h4] at h3; omega
      · exfalso
        have h5 : (b.toNat - 48 + 1) * 10 ^ y.length ≤ (a.toNat - 48) * 10 ^ y.length := Nat.mul_le_mul_right _ (by omega)
        rw [Nat.add_mul] at h5
        omega
theorem uint_val : ∀ (l : List UInt8) (acc : Nat), Digs l → acc ≤ 18446744073709551615 → Lib.parseUintM 18446744073709551615 acc l = if dvL acc l ≤ 18446744073709551615 then .ok (dvL acc l) else .range
  | [], acc, _, ha => by rw [Lib.parseUintM, dvN, if_pos ha]
  | c :: r, acc, h, ha => by
    have hc := h c (by simp)
    have hg := dv_ge r (acc * 10 + (c.toNat - 48))
    rw [Lib.parseUintM, if_pos hc, dvC]
    by_cases h1 : 1844674407370955162 ≤ acc
    · rw [if_pos h1, if_neg (by omega)]
    rw [if_neg h1]
    by_cases h2 : 18446744073709551615 < acc * 10 + (c.toNat - 48)
    · rw [if_pos h2, if_neg (by omega)]
    rw [if_neg h2]
    exact uint_val r _ (fun x hx => h x (by simp [hx])) (by omega)
theorem uintB_val {l : List UInt8} (h : Digs l) (hn : l ≠ []) : Lib.parseUintB 64 l = if dvL 0 l ≤ 18446744073709551615 then .ok (dvL 0 l) else .range := by
  unfold Lib.parseUintB
  rw [if_neg hn]
  exact uint_val l 0 h (by omega)
theorem int_neg {l : List UInt8} (h : Digs l) (hn : l ≠ []) : Lib.parseIntB 64 (45 :: l) = if dvL 0 l ≤ 9223372036854775808 then .ok (-(dvL 0 l : Int)) else .range := by
  rw [Lib.parseIntB_minus, uintB_val h hn]
  have e : (2 : Nat) ^ (64 - 1) = 9223372036854775808 := by decide
  rw [e]
  by_cases h1 : dvL 0 l ≤ 18446744073709551615
  · rw [if_pos h1]
    simp only [Lib.signedC]
    by_cases h2 : dvL 0 l ≤ 9223372036854775808
    · rw [if_neg (by omega), if_pos h2]
    · rw [if_pos (by omega), if_neg h2]
  · rw [if_neg h1, if_neg (by omega)]; rfl
theorem int_pos {c : UInt8} {l : List UInt8} (h : Digs (c :: l)) : Lib.parseIntB 64 (c :: l) = if dvL 0 (c :: l) ≤ 9223372036854775807 then .ok (dvL 0 (c :: l) : Int) else .range := by
  have hc := h c (by simp)
  rw [Lib.parseIntB_plain 64 c l (by omega) (by omega), uintB_val h (by simp)]
  have e : (2 : Nat) ^ (64 - 1) = 9223372036854775808 := by decide
  rw [e]
  generalize dvL 0 (c :: l) = n
  by_cases h1 : n ≤ 18446744073709551615
  · rw [if_pos h1]
    simp only [Lib.signlessC]
    by_cases h2 : n ≤ 9223372036854775807
    · rw [if_neg (by omega), if_pos h2]
    · rw [if_pos (by omega), if_neg h2]
  · rw [if_neg h1, if_neg (by omega)]; rfl
theorem cut_cons {s : ByteArray} {a e : Nat} (h : a < s.size) (he : a < e) : cutL s a e = (s.data[a]'h) :: cutL s (a + 1) e := by
  rw [cutL_eq, cutL_eq, dropB_at h, show e - a = (e - (a + 1)) + 1 by omega, List.take_succ_cons]
theorem cut_digs (s : ByteArray) (b : Nat) : Digs (cutL s b (dgE s b)) := by
  rw [cutL_eq, show dgE s b - b = dgL (s.data.toList.drop b) by unfold dgE; omega]
  exact dgL_take _
theorem cut_len {s : ByteArray} {a b : Nat} (h : b ≤ s.size) : (cutL s a b).length = b - a := by
  rw [cutL_eq, List.length_take, List.length_drop, ← Go.Lib.size_eq]
  omega
theorem dgE_gt {s : ByteArray} {b : Nat} (h : 48 ≤ pk s b ∧ pk s b ≤ 57) : b < dgE s b := by
  have h1 := dgE_step h
  have h2 := dgE_ge s (b + 1)
  omega
/-- the number of the digits from a place on -/
def dvS (s : ByteArray) (b : Nat) : Nat := dvL 0 (cutL s b (dgE s b))
theorem intS_neg {s : ByteArray} {a : Nat} (h : pk s a = 45) (h1 : 49 ≤ pk s (a + 1) ∧ pk s (a + 1) ≤ 57) : intS s a = if dvS s (a + 1) ≤ 9223372036854775808 then .ok (mkI (-(dvS s (a + 1) : Int)), dgE s (a + 1)) else .error (a, 29) := by
  have hl := pk_pos (s := s) (a := a) (by omega)
  have hg := dgE_gt (s := s) (b := a + 1) (by omega)
  have hsg : sgS s a = a + 1 := by unfold sgS; rw [if_pos h]
  have hl2 := pk_pos (s := s) (a := a + 1) (by omega)
  have e45 : s.data[a]'hl = 45 := UInt8.toNat_inj.1 (by rw [← pk_at hl]; exact h)
  unfold intS
  rw [if_neg (by omega), hsg, if_pos h1, cut_cons hl (by omega), e45, int_neg (cut_digs s (a + 1)) (by rw [cut_cons hl2 hg]; simp)]
  unfold dvS
  by_cases h2 : dvL 0 (cutL s (a + 1) (dgE s (a + 1))) ≤ 9223372036854775808
  · rw [if_pos h2, if_pos h2]; rfl
  · rw [if_neg h2, if_neg h2]; rfl
theorem intS_pos {s : ByteArray} {a : Nat} (h1 : 49 ≤ pk s a ∧ pk s a ≤ 57) : intS s a = if dvS s a ≤ 9223372036854775807 then .ok (mkI (dvS s a : Int), dgE s a) else .error (a, 29) := by
  have hl := pk_pos (s := s) (a := a) (by omega)
  have hg := dgE_gt (s := s) (b := a) (by omega)
  have hsg : sgS s a = a := by unfold sgS; rw [if_neg (by omega)]
  have hd := cut_digs s a
  rw [cut_cons hl hg] at hd
  unfold intS
  rw [if_neg (by omega), hsg, if_pos h1]
  unfold dvS
  rw [cut_cons hl hg, int_pos hd]
  generalize dvL 0 _ = n
  by_cases h2 : n ≤ 9223372036854775807
  · rw [if_pos h2, if_pos h2]; rfl
  · rw [if_neg h2, if_neg h2]; rfl
theorem intS_sign {s : ByteArray} {a : Nat} (h : pk s a = 45) (h1 : ¬ (49 ≤ pk s (a + 1) ∧ pk s (a + 1) ≤ 57)) : intS s a = .error (a + 1, 28) := by
  have hsg : sgS s a = a + 1 := by unfold sgS; rw [if_pos h]
  unfold intS
  rw [if_neg (by omega), hsg, if_neg h1]
theorem intS_nil {s : ByteArray} {a : Nat} (h : pk s a = 48) : intS s a = .ok (mkI 0, a + 1) := by
  unfold intS
  rw [if_pos h]
/-- the bounds by their digits -/
def mostB : ByteArray := ⟨#[57, 50, 50, 51, 51, 55, 50, 48, 51, 54, 56, 53, 52, 55, 55, 53, 56, 48, 55]⟩
def leastB : ByteArray := ⟨#[57, 50, 50, 51, 51, 55, 50, 48, 51, 54, 56, 53, 52, 55, 55, 53, 56, 48, 56]⟩
theorem most_val : dvL 0 mostB.data.toList = 9223372036854775807 := by decide
theorem least_val : dvL 0 leastB.data.toList = 9223372036854775808 := by decide
theorem most_digs : Digs mostB.data.toList := by decide
theorem least_digs : Digs leastB.data.toList := by decide
/-- the reference's way to say that there are too many -/
theorem over_iff {s : ByteArray} {b : Nat} {B : List UInt8} (hB : Digs B) (h19 : B.length = 19) (hv : 10 ^ 18 ≤ dvL 0 B) (h1 : 49 ≤ pk s b ∧ pk s b ≤ 57) :
    (19 < dgE s b - b ∨ (dgE s b - b = 19 ∧ Op.bytesLess B (cutL s b (dgE s b)) = true)) ↔ dvL 0 B < dvS s b := by
  have hl := pk_pos (s := s) (a := b) (by omega)
  have hg := dgE_gt (s := s) (b := b) (by omega)
  have hle := dgE_le (s := s) (a := b) (by omega)
  have hd := cut_digs s b
  have hlen := cut_len (s := s) (a := b) hle
  have hlt := dv_lt _ hd
  have hbig : 10 ^ (dgE s b - b - 1) ≤ dvS s b := by
    unfold dvS
    rw [cut_cons hl hg]
    have := dv_big (c := s.data[b]'hl) (r := cutL s (b + 1) (dgE s b)) (by rw [← pk_at hl]; exact h1.1)
    rw [cut_len hle] at this
    rw [show dgE s b - b - 1 = dgE s b - (b + 1) by omega]
    exact this
  have hBl := dv_lt _ hB
  rw [h19] at hBl
  rw [hlen] at hlt
  rcases Nat.lt_trichotomy (dgE s b - b) 19 with h | h | h
  · have h2 : 10 ^ (dgE s b - b) ≤ 10 ^ 18 := Nat.pow_le_pow_right (by omega) (by omega)
    constructor
    · rintro (h3 | h3)
      · omega
      · omega
    · intro h3
      unfold dvS at h3
      omega
  · have := dv_less B (cutL s b (dgE s b)) hB hd (by rw [hlen, h19, h])
    unfold dvS
    rw [← this]
    constructor
    · rintro (h3 | h3)
      · omega
      · exact h3.2
    · exact fun h3 => .inr ⟨h, h3⟩
  · have h2 : 10 ^ 19 ≤ 10 ^ (dgE s b - b - 1) := Nat.pow_le_pow_right (by omega) (by omega)
    constructor
    · intro _; omega
    · intro _; exact .inl h
end Go.Proofs.YtdmhemofhmfkoabGreatDoor

namespace Go.Proofs.YtdmhemofhmfkoabGreatDoor
open Go.RowKit
set_option maxRecDepth 8000
theorem toList_dat (s : ByteArray) : s.toList = s.data.toList := by
  exact ByteArray.toList_eq s
theorem most_list : (mostB.toList == leastB.toList) = false := by rw [toList_dat, toList_dat]; decide
theorem least_list : (leastB.toList == mostB.toList) = false := by rw [toList_dat, toList_dat]; decide
theorem dv_take {l : List UInt8} {k : Nat} (h : k < l.length) : dvL 0 (l.take (k + 1)) = dvL 0 (l.take k) * 10 + ((l[k]'h).toNat - 48) := by
  rw [List.take_succ_eq_append_getElem h, dv_app, dvC, dvN]
theorem dv_pre (l : List UInt8) (k : Nat) : dvL 0 (l.take k) ≤ dvL 0 l := by
  have h := List.take_append_drop k l
  have h2 : dvL 0 l = dvL (dvL 0 (l.take k)) (l.drop k) := by rw [← dv_app, h]
  rw [h2]
  exact dv_ge _ _
theorem bytes_tri : ∀ (x y : List UInt8), Op.bytesLess x y = false → Op.bytesLess y x = false → x = y
  | [], [], _, _ => rfl
  | [], _ :: _, h, _ => by simp [Op.bytesLess] at h
  | _ :: _, [], _, h => by simp [Op.bytesLess] at h
  | a :: x, b :: y, h1, h2 => by
    simp only [Op.bytesLess, Bool.or_eq_false_iff, decide_eq_false_iff_not, UInt8.not_lt] at h1 h2
    obtain rfl : a = b := UInt8.le_antisymm h2.1 h1.1
    have e1 : Op.bytesLess x y = false := by simpa using h1.2
    have e2 : Op.bytesLess y x = false := by simpa using h2.2
    rw [bytes_tri x y e1 e2]
theorem bytes_anti {x y : List UInt8} (hx : Digs x) (hy : Digs y) (hl : x.length = y.length) (h : Op.bytesLess x y = true) : Op.bytesLess y x = false ∧ (y == x) = false := by
  have h1 := (dv_less x y hx hy hl).1 h
  refine ⟨Bool.eq_false_iff.2 fun h2 => ?_, Bool.eq_false_iff.2 fun h2 => ?_⟩
  · have := (dv_less y x hy hx hl.symm).1 h2; omega
  · rw [beq_iff_eq] at h2; subst h2; omega
set_option maxHeartbeats 1000000 in
theorem refNumber_0 (w0 : World) (rb : Nat) (s : ByteArray) (a : Nat) (L : List PT) (O : List Nat) (w : World) (h : RR w0 rb w s a L O 0) (hL : L.length < 12) (hs : s.size ≤ 140737488355328) (hc : pk s a = 48) :
    Calls Tryz.prog 94 #[.pointer (some ⟨rb, 0, none⟩)] w fun x w' => LeafPost w0 rb s L O (intS s a) x w' := by
  obtain ⟨v5, v6, h⟩ := h
  have hlt := pk_pos (s := s) (a := a) (by omega)
  have hg := pk_get hlt
  have HX := hid (intS_nil hc)
  rw [hc] at hg
  have ha' : (a : Int) < (s.size : Int) := by omega
  have HA := hid (refAdd_any w0 rb s a 0 v5 v6 L O w h ⟨1, 0, ⟨#[]⟩, 0⟩ ⟨by simp, by simp, by simp, by simp, Nat.zero_le _, by simp⟩ hL (a + 1) hlt)
  have x0 := h.box.cell 0
  have x1 := h.box.cell 1
  simp at x0 x1
  clear h hc
  go_enter Tryz.func94, Tryz.ntmps94
  go_wp2_with fail
  refine HA.out.mono ?_
  rintro e w1 ⟨rfl, hR1⟩
  have HR := hid hR1
  clear hR1 HA
  go_wp2
  exact bodyPost_end (results_none rfl _ _ _) rfl (LeafPost.good HX.out HR.out)
set_option maxHeartbeats 2000000 in
theorem refNumber_sign (w0 : World) (rb : Nat) (s : ByteArray) (a : Nat) (L : List PT) (O : List Nat) (w : World) (h : RR w0 rb w s a L O 0) (hs : s.size ≤ 140737488355328) (hc : pk s a = 45) (hn : ¬ (49 ≤ pk s (a + 1) ∧ pk s (a + 1) ≤ 57)) :
    Calls Tryz.prog 94 #[.pointer (some ⟨rb, 0, none⟩)] w fun x w' => LeafPost w0 rb s L O (intS s a) x w' := by
  obtain ⟨v5, v6, h⟩ := h
  have hlt := pk_pos (s := s) (a := a) (by omega)
  have hg := pk_get hlt
  have HX := hid (intS_sign hc hn)
  rw [hc] at hg
  have ha' : (a : Int) < (s.size : Int) := by omega
  have HF := hid (refFault_any w0 rb s a 0 v5 v6 L O w h 28 (a + 1) hlt)
  have x0 := h.box.cell 0
  have x1 := h.box.cell 1
  simp at x0 x1
  clear h hc
  by_cases h1 : a + 1 < s.size
  · have hg1 := pk_get h1
    have hn1 : ¬ (s.size : Int) ≤ (a : Int) + 1 := by omega
    have hn2 : (a : Int) + 1 < (s.size : Int) := by omega
    obtain ⟨z, hz⟩ : ∃ z, pk s (a + 1) = z := ⟨_, rfl⟩
    rw [hz] at hg1 hn
    clear hz
    by_cases hz1 : z < 49
    · have hz2 : (z : Int) < 49 := by omega
      go_enter Tryz.func94, Tryz.ntmps94
      go_wp2_with fail
      refine HF.out.mono ?_
      rintro e w1 ⟨rfl, hR1⟩
      have HR := hid hR1
      clear hR1 HF
      go_wp2
      exact bodyPost_end (results_none rfl _ _ _) rfl (LeafPost.bad HX.out ⟨_, _, HR.out⟩)
    · have hz2 : ¬ (z : Int) < 49 := by omega
      have hz3 : (57 : Int) < (z : Int) := by omega
      go_enter Tryz.func94, Tryz.ntmps94
      go_wp2_with fail
      refine HF.out.mono ?_
      rintro e w1 ⟨rfl, hR1⟩
      have HR := hid hR1
      clear hR1 HF
      go_wp2
      exact bodyPost_end (results_none rfl _ _ _) rfl (LeafPost.bad HX.out ⟨_, _, HR.out⟩)
  · have hn1 : (s.size : Int) ≤ (a : Int) + 1 := by omega
    go_enter Tryz.func94, Tryz.ntmps94
    go_wp2_with fail
    refine HF.out.mono ?_
    rintro e w1 ⟨rfl, hR1⟩
    have HR := hid hR1
    clear hR1 HF
    go_wp2
    exact bodyPost_end (results_none rfl _ _ _) rfl (LeafPost.bad HX.out ⟨_, _, HR.out⟩)
end Go.Proofs.YtdmhemofhmfkoabGreatDoor
