import Derived.Test.YtdmhemofhmfkoabGreatDoorPack19
import Derived.Test.YtdmhemofhmfkoabGreatDoorPack2
import Derived.Test.YtdmhemofhmfkoabGreatDoorPack16
import Derived.Lib.ItoaMem
import Derived.Lib.DecodeN
namespace Go.Proofs.YtdmhemofhmfkoabGreatDoor
open Go.RowKit
set_option maxRecDepth 8000

/-- these bytes stand at this place -/
def Has (s : ByteArray) (a : Nat) (zs : List Int) : Prop := ∀ j x, zs[j]? = some x → (pk s (a + j) : Int) = x ∧ a + j < s.size
theorem Has.app {s : ByteArray} {a : Nat} {xs ys : List Int} (h : Has s a (xs ++ ys)) : Has s a xs ∧ Has s (a + xs.length) ys := by
  refine ⟨fun j x hj => ?_, fun j x hj => ?_⟩
  · have hl : j < xs.length := (List.getElem?_eq_some_iff.1 hj).1
    exact h j x (by rw [List.getElem?_append_left hl]; exact hj)
  · have := h (xs.length + j) x (by rw [List.getElem?_append_right (by omega), Nat.add_sub_cancel_left]; exact hj)
    rw [Nat.add_assoc]; exact this
theorem Has.cons {s : ByteArray} {a : Nat} {x : Int} {xs : List Int} (h : Has s a (x :: xs)) : ((pk s a : Int) = x ∧ a < s.size) ∧ Has s (a + 1) xs := by
  refine ⟨h 0 x rfl, fun j y hj => ?_⟩
  have := h (j + 1) y (by simpa using hj)
  rw [show a + 1 + j = a + (j + 1) by omega]; exact this
/-- no digit -/
def NoDig (c : Nat) : Prop := ¬ (48 ≤ c ∧ c ≤ 57)

theorem word_has {s : ByteArray} : ∀ (l : List Nat) (a : Nat), Has s a (l.map fun c : Nat => (c : Int)) → wordS s l a = .ok (a + l.length)
  | [], a, _ => rfl
  | c :: r, a, h => by
    rw [List.map_cons] at h
    obtain ⟨⟨h1, _⟩, h2⟩ := h.cons
    unfold wordS
    rw [if_pos (by omega), word_has r (a + 1) h2, List.length_cons]
    congr 1
    omega
theorem none_has {s : ByteArray} {a : Nat} (h : Has s a [110, 111, 110, 101]) : noneS s a = .ok (mkN, a + 4) := by
  unfold noneS
  rw [word_has [110, 111, 110, 101] a h]
  rfl

/-! numbers -/
theorem dec_digits : ∀ u : Nat, (∀ c ∈ Go.Lib.decDigits u, 48 ≤ c.toNat ∧ c.toNat ≤ 57) ∧ (1 ≤ u → ∃ c r, Go.Lib.decDigits u = c :: r ∧ 49 ≤ c.toNat) := by
  intro u
  induction u using Nat.strongRecOn with
  | ind u ih =>
    rw [Go.Lib.decDigits]
    by_cases h : u < 10
    · rw [dif_pos h]
      have e : (UInt8.ofNat (48 + u)).toNat = 48 + u := by rw [UInt8.toNat_ofNat', Nat.mod_eq_of_lt (by omega)]
      refine ⟨fun c hc => ?_, fun h1 => ⟨_, _, rfl, by rw [e]; omega⟩⟩
      simp only [List.mem_singleton] at hc
      subst hc
      rw [e]; omega
    · rw [dif_neg h]
      obtain ⟨i1, i2⟩ := ih (u / 10) (by omega)
      have e : (UInt8.ofNat (48 + u % 10)).toNat = 48 + u % 10 := by rw [UInt8.toNat_ofNat', Nat.mod_eq_of_lt (by omega)]
      refine ⟨fun c hc => ?_, fun _ => ?_⟩
      · rcases List.mem_append.1 hc with hc | hc
        · exact i1 c hc
        · simp only [List.mem_singleton] at hc
          subst hc
          rw [e]; omega
      · obtain ⟨c, r, h1, h2⟩ := i2 (by omega)
        exact ⟨c, _, by rw [h1, List.cons_append], h2⟩
theorem uint_dec : ∀ (u : Nat) (r : List UInt8), u ≤ 18446744073709551615 → Lib.parseUintM 18446744073709551615 0 (Go.Lib.decDigits u ++ r) = Lib.parseUintM 18446744073709551615 u r := by
  intro u
  induction u using Nat.strongRecOn with
  | ind u ih =>
    intro r hu
    rw [Go.Lib.decDigits]
    by_cases h : u < 10
    · rw [dif_pos h]
      have e : (UInt8.ofNat (48 + u)).toNat = 48 + u := by rw [UInt8.toNat_ofNat', Nat.mod_eq_of_lt (by omega)]
      simp only [List.cons_append, List.nil_append]
      conv => lhs; unfold Lib.parseUintM
      rw [e, if_pos (by omega), if_neg (by omega), if_neg (by omega)]
      congr 1
      omega
    · rw [dif_neg h, List.append_assoc, ih (u / 10) (by omega) _ (by omega)]
      have e : (UInt8.ofNat (48 + u % 10)).toNat = 48 + u % 10 := by rw [UInt8.toNat_ofNat', Nat.mod_eq_of_lt (by omega)]
      simp only [List.cons_append, List.nil_append]
      conv => lhs; unfold Lib.parseUintM
      rw [e, if_pos (by omega), if_neg (by omega), if_neg (by omega)]
      congr 1
      omega
theorem uintB_dec (u : Nat) (hu : u ≤ 18446744073709551615) : Lib.parseUintB 64 (Go.Lib.decDigits u) = .ok u := by
  have h := uint_dec u [] hu
  rw [List.append_nil] at h
  have hne : Go.Lib.decDigits u ≠ [] := by
    intro e
    have := Go.Lib.decDigits_length u
    rw [e] at this
    have h2 : 1 ≤ Go.Lib.nDigits u := by rw [Go.Lib.nDigits]; split <;> omega
    simp at this
    omega
  unfold Lib.parseUintB
  rw [if_neg hne]
  show Lib.parseUintM 18446744073709551615 0 _ = _
  rw [h]
  rfl
theorem int_itoa (i : Int) (h1 : -9223372036854775808 ≤ i) (h2 : i ≤ 9223372036854775807) : Lib.parseIntB 64 (Go.Lib.itoa i) = .ok i := by
  unfold Go.Lib.itoa
  by_cases h : i < 0
  · rw [if_pos h, Lib.parseIntB_minus, uintB_dec _ (by omega)]
    simp only [Lib.signedC, show (2 : Nat) ^ (64 - 1) = 9223372036854775808 by decide]
    rw [if_neg (by omega)]
    congr 1
    omega
  · rw [if_neg h]
    obtain ⟨d1, d2⟩ := dec_digits i.toNat
    have hu := uintB_dec i.toNat (by omega)
    cases hd : Go.Lib.decDigits i.toNat with
    | nil => rw [hd] at hu; simp [Lib.parseUintB] at hu
    | cons c r =>
      have hc := d1 c (by rw [hd]; simp)
      rw [hd] at hu
      rw [Lib.parseIntB_plain 64 c r (by omega) (by omega), hu]
      simp only [Lib.signlessC, show (2 : Nat) ^ (64 - 1) = 9223372036854775808 by decide]
      rw [if_neg (by omega)]
      congr 1
      omega
theorem dgE_run {s : ByteArray} : ∀ (m b : Nat), (∀ j, j < m → 48 ≤ pk s (b + j) ∧ pk s (b + j) ≤ 57) → NoDig (pk s (b + m)) → dgE s b = b + m := by
  intro m
  induction m with
  | zero => intro b _ h; exact dgE_stop h
  | succ m ih =>
    intro b h1 h2
    rw [← dgE_step (s := s) (a := b) (h1 0 (by omega))]
    rw [ih (b + 1) (fun j hj => by have := h1 (j + 1) (by omega); rw [show b + 1 + j = b + (j + 1) by omega]; exact this) (by rw [show b + 1 + m = b + (m + 1) by omega]; exact h2)]
    omega
theorem has_list {s : ByteArray} {a : Nat} {l : List UInt8} (h : Has s a (l.map fun b => (b.toNat : Int))) : cutL s a (a + l.length) = l ∧ ∀ j (hj : j < l.length), pk s (a + j) = (l[j]'hj).toNat := by
  have hk : ∀ j (hj : j < l.length), pk s (a + j) = (l[j]'hj).toNat ∧ a + j < s.size := fun j hj => by
    obtain ⟨h1, h2⟩ := h j _ (by rw [List.getElem?_map, List.getElem?_eq_getElem hj]; rfl)
    have h3 : (pk s (a + j) : Int) = ((l[j]'hj).toNat : Int) := h1
    exact ⟨by omega, h2⟩
  refine ⟨?_, fun j hj => (hk j hj).1⟩
  rw [cutL_eq, Nat.add_sub_cancel_left]
  apply List.ext_getElem?
  intro j
  rcases Nat.lt_or_ge j l.length with hj | hj
  · obtain ⟨h1, h2⟩ := hk j hj
    rw [List.getElem?_take_of_lt hj, List.getElem?_drop, List.getElem?_eq_getElem hj]
    rw [pk_at h2] at h1
    have h3 : s.data.toList[a + j]? = some (s.data[a + j]'h2) := by rw [Array.getElem?_toList, Array.getElem?_eq_getElem h2]
    rw [h3]
    exact congrArg some (UInt8.toNat_inj.1 h1)
  · rw [List.getElem?_eq_none hj, List.getElem?_eq_none (by rw [List.length_take]; omega)]
theorem int_has {s : ByteArray} {a : Nat} (i : Int) (h1 : -9223372036854775808 ≤ i) (h2 : i ≤ 9223372036854775807) (h : Has s a (itoaB i)) (hn : NoDig (pk s (a + (itoaB i).length))) : intS s a = .ok (mkI i, a + (itoaB i).length) := by
  have hl : (itoaB i).length = (Go.Lib.itoa i).length := by simp [itoaB]
  obtain ⟨c1, c2⟩ := has_list (l := Go.Lib.itoa i) h
  have hp := int_itoa i h1 h2
  rw [hl] at hn ⊢
  by_cases h0 : i = 0
  · subst h0
    have e : Go.Lib.itoa 0 = [48] := by unfold Go.Lib.itoa; rw [if_neg (by omega)]; exact Go.Lib.decDigits_one (by decide)
    rw [e] at c2 ⊢
    have := c2 0 (by simp)
    unfold intS
    rw [if_pos (by simpa using this)]
    rfl
  by_cases hneg : i < 0
  · obtain ⟨d1, d2⟩ := dec_digits i.natAbs
    obtain ⟨c, r, hd, hc⟩ := d2 (by omega)
    have e : Go.Lib.itoa i = 45 :: Go.Lib.decDigits i.natAbs := by unfold Go.Lib.itoa; rw [if_pos hneg]
    have p0 := c2 0 (by rw [e]; simp)
    simp only [e, Nat.add_zero, List.getElem_cons_zero] at p0
    have p0 : pk s a = 45 := p0
    have pd : ∀ j, j < (Go.Lib.decDigits i.natAbs).length → 48 ≤ pk s (a + 1 + j) ∧ pk s (a + 1 + j) ≤ 57 := fun j hj => by
      have := c2 (j + 1) (by rw [e, List.length_cons]; omega)
      simp only [e, List.getElem_cons_succ] at this
      rw [show a + 1 + j = a + (j + 1) by omega, this]
      exact d1 _ (List.getElem_mem hj)
    have pf : 49 ≤ pk s (a + 1) ∧ pk s (a + 1) ≤ 57 := by
      have h3 := c2 1 (by rw [e, hd]; simp)
      simp only [e, hd, List.getElem_cons_succ, List.getElem_cons_zero] at h3
      have h4 := pd 0 (by rw [hd]; simp)
      rw [Nat.add_zero] at h4
      omega
    have hL : (Go.Lib.itoa i).length = (Go.Lib.decDigits i.natAbs).length + 1 := by rw [e, List.length_cons]
    have hdg : dgE s (a + 1) = a + (Go.Lib.itoa i).length := by
      rw [dgE_run (Go.Lib.decDigits i.natAbs).length (a + 1) pd (by rw [show a + 1 + (Go.Lib.decDigits i.natAbs).length = a + (Go.Lib.itoa i).length by omega]; exact hn)]
      omega
    have hsg : sgS s a = a + 1 := by unfold sgS; rw [if_pos p0]
    unfold intS
    rw [if_neg (by omega), hsg, if_pos pf, hdg, c1, hp]
    rfl
  · obtain ⟨d1, d2⟩ := dec_digits i.toNat
    obtain ⟨c, r, hd, hc⟩ := d2 (by omega)
    have e : Go.Lib.itoa i = Go.Lib.decDigits i.toNat := by unfold Go.Lib.itoa; rw [if_neg hneg]
    have pd : ∀ j, j < (Go.Lib.itoa i).length → 48 ≤ pk s (a + j) ∧ pk s (a + j) ≤ 57 := fun j hj => by
      rw [c2 j hj]
      exact d1 _ (by rw [← e]; exact List.getElem_mem hj)
    have pf : 49 ≤ pk s a ∧ pk s a ≤ 57 := by
      have h3 := c2 0 (by rw [e, hd]; simp)
      simp only [e, hd, List.getElem_cons_zero, Nat.add_zero] at h3
      have h4 := pd 0 (by rw [e, hd]; simp)
      rw [Nat.add_zero] at h4
      omega
    have hsg : sgS s a = a := by unfold sgS; rw [if_neg (by omega)]
    have hdg : dgE s a = a + (Go.Lib.itoa i).length := dgE_run _ a pd hn
    unfold intS
    rw [if_neg (by omega), hsg, if_pos pf, hdg, c1, hp]
    rfl
end Go.Proofs.YtdmhemofhmfkoabGreatDoor

namespace Go.Proofs.YtdmhemofhmfkoabGreatDoor
open Go.RowKit
set_option maxRecDepth 8000
theorem str_appR (a b : List Int) : strOf a ++ strOf b = strOf (a ++ b) := bytes_ext (by rw [strOf_datC, List.map_append, ← strOf_datC, ← strOf_datC]; simp)
def dgsR : ByteArray := ⟨#[48, 49, 50, 51, 52, 53, 54, 55, 56, 57, 97, 98, 99, 100, 101, 102]⟩
theorem dgsR_list : ∀ X, X < 16 → (dgsR.data.toList.drop X).take (X + 1 - X) = [UInt8.ofNat (hexd X).toNat] := by decide +kernel
theorem dgsR_at {X : Nat} (h : X < 16) : (⟨#[48, 49, 50, 51, 52, 53, 54, 55, 56, 57, 97, 98, 99, 100, 101, 102]⟩ : ByteArray).extract X (X + 1) = strOf [hexd X] := bytes_ext (by
  rw [strOf_datC]
  show (dgsR.extract X (X + 1)).data.toList = _
  rw [Go.Lib.extract_data, dgsR_list X h]
  rfl)
theorem hexd_low {X : Nat} (h : X < 10) : hexd X = 48 + (X : Int) := by unfold hexd; rw [if_pos h]
theorem ofNat48 {u : Nat} (h : u < 10) : ((UInt8.ofNat (48 + u)).toNat : Int) = 48 + (u : Int) := by rw [UInt8.toNat_ofNat', Nat.mod_eq_of_lt (by omega)]; omega
theorem itoa_one {u : Nat} (h : u < 10) : itoaB (u : Int) = [48 + (u : Int)] := by
  unfold itoaB
  rw [Go.Lib.itoa_nonneg, Go.Lib.decDigits, dif_pos h]
  simp only [List.map_cons, List.map_nil, ofNat48 h]
theorem itoa_minus {u : Nat} (h1 : 1 ≤ u) (h : u < 10) : itoaB (-(u : Int)) = [45, 48 + (u : Int)] := by
  unfold itoaB
  rw [Go.Lib.itoa_neg u h1, Go.Lib.decDigits, dif_pos h]
  simp only [List.map_cons, List.map_nil, ofNat48 h]
  rfl
theorem itoa_more {u : Nat} (h : 10 ≤ u) : itoaB (u : Int) = itoaB ((u / 10 : Nat) : Int) ++ [48 + ((u % 10 : Nat) : Int)] := by
  unfold itoaB
  rw [Go.Lib.itoa_nonneg, Go.Lib.itoa_nonneg, Go.Lib.decDigits, dif_neg (by omega)]
  simp only [List.map_append, List.map_cons, List.map_nil, ofNat48 (show u % 10 < 10 by omega)]
theorem itoa_less {u : Nat} (h : 10 ≤ u) : itoaB (-(u : Int)) = itoaB (-((u / 10 : Nat) : Int)) ++ [48 + ((u % 10 : Nat) : Int)] := by
  unfold itoaB
  rw [Go.Lib.itoa_neg u (by omega), Go.Lib.itoa_neg (u / 10) (by omega), Go.Lib.decDigits, dif_neg (by omega)]
  simp only [List.map_append, List.map_cons, List.map_nil, ofNat48 (show u % 10 < 10 by omega), List.cons_append]
set_option maxHeartbeats 1000000 in
theorem refDecimal_any : ∀ (N u : Nat) (ng : Bool) (w : World), u ≤ N → (if ng then 1 ≤ u ∧ u ≤ 9223372036854775808 else u ≤ 9223372036854775807) →
    Calls Tryz.prog 86 #[.int .i64 (if ng then -(u : Int) else (u : Int))] w fun x w' => x = .returned (.string (strOf (itoaB (if ng then -(u : Int) else (u : Int))))) ∧ Below w.heap.size w w' := by
  intro N
  induction N using Nat.strongRecOn with
  | ind N ih =>
  intro u ng w hu hb
  cases ng
  · simp only [Bool.false_eq_true, if_false] at hb ⊢
    by_cases h10 : u < 10
    · have e1 := itoa_one h10
      have e2 : (⟨#[48, 49, 50, 51, 52, 53, 54, 55, 56, 57, 97, 98, 99, 100, 101, 102]⟩ : ByteArray).extract u (u + 1) = strOf (itoaB (u : Int)) := by rw [dgsR_at (by omega), e1, hexd_low h10]
      have HE := hid e2
      have h1 : (u : Int) < 10 := by omega
      have hw : IntKind.i64.wrap ((u : Int) + 1) = ((u + 1 : Nat) : Int) := by rw [IntKind.wrap_i64]; omega
      have h3 : (u : Int) ≤ ((u + 1 : Nat) : Int) := by omega
      have h4 : ((u + 1 : Nat) : Int) ≤ 16 := by omega
      clear e1 e2 ih hb
      go_enter Tryz.func86, Tryz.ntmps86
      go_wp2_with fail
      go_ret
      exact ⟨by rw [← HE.out]; rfl, Below.refl _ _⟩
    · have h1 : ¬ (u : Int) < 10 := by omega
      have h0 : ¬ (u : Int) < 0 := by omega
      have HI := hid (ih (u / 10) (by omega) (u / 10) false w (Nat.le_refl _) (by simp; omega))
      obtain ⟨v, hv⟩ : ∃ v, u / 10 = v := ⟨_, rfl⟩
      obtain ⟨m, hm⟩ : ∃ m, u % 10 = m := ⟨_, rfl⟩
      have e1 := itoa_more (show 10 ≤ u by omega)
      have hm10 : m < 10 := by omega
      have hvb : v ≤ 922337203685477580 := by omega
      have hdiv : (u : Int) / 10 = (v : Int) := by omega
      have hmod : (u : Int) % 10 = (m : Int) := by omega
      rw [hv, hm] at e1
      rw [hv] at HI
      simp only [Bool.false_eq_true, if_false] at HI
      have e2 : strOf (itoaB (v : Int)) ++ (⟨#[48, 49, 50, 51, 52, 53, 54, 55, 56, 57, 97, 98, 99, 100, 101, 102]⟩ : ByteArray).extract m (m + 1) = strOf (itoaB (u : Int)) := by rw [dgsR_at (by omega), e1, hexd_low hm10, str_appR]
      have HE := hid e2
      have hw : IntKind.i64.wrap ((m : Int) + 1) = ((m + 1 : Nat) : Int) := by rw [IntKind.wrap_i64]; omega
      have h3 : (m : Int) ≤ ((m + 1 : Nat) : Int) := by omega
      have h4 : ((m + 1 : Nat) : Int) ≤ 16 := by omega
      have h5 : ¬ (m : Int) < 0 := by omega
      have hlen : (strOf (itoaB (v : Int))).size ≤ 21 := by
        rw [strOf_size]; unfold itoaB; rw [List.length_map]; exact Go.Lib.itoa_length_le _ (by omega) (by omega)
      obtain ⟨P, hP⟩ : ∃ P, strOf (itoaB (v : Int)) = P := ⟨_, rfl⟩
      rw [hP] at HE HI hlen
      clear hP
      clear e1 e2 ih hb hv hm
      go_enter Tryz.func86, Tryz.ntmps86
      go_wp2_with fail
      refine HI.out.mono ?_
      rintro x w1 ⟨rfl, hb1⟩
      have HB := hid hb1
      clear hb1
      go_wp2_with fail
      go_ret
      exact ⟨by rw [← HE.out]; rfl, HB.out⟩
  · simp only [if_true] at hb ⊢
    by_cases h10 : u < 10
    · · have e1 := itoa_minus (u := u) (by omega) h10
        have e2 : (⟨#[45]⟩ : ByteArray) ++ (⟨#[48, 49, 50, 51, 52, 53, 54, 55, 56, 57, 97, 98, 99, 100, 101, 102]⟩ : ByteArray).extract u (1 + u) = strOf (itoaB (-(u : Int))) := by
          rw [Nat.add_comm 1 u, dgsR_at (by omega), e1, hexd_low h10, show (⟨#[45]⟩ : ByteArray) = strOf [45] from rfl, str_appR]; rfl
        have HE := hid e2
        have h0 : -(u : Int) < 0 := by omega
        have h01 : ¬ (0 : Int) ≤ -(u : Int) := by omega
        have h1 : -10 < -(u : Int) := by omega
        have hw1 : IntKind.i64.wrap (1 - -(u : Int)) = ((u + 1 : Nat) : Int) := by rw [IntKind.wrap_i64]; omega
        have hw2 : IntKind.i64.wrap (- -(u : Int)) = (u : Int) := by rw [IntKind.wrap_i64]; omega
        have h3 : (u : Int) ≤ ((u + 1 : Nat) : Int) := by omega
        have h4 : ((u + 1 : Nat) : Int) ≤ 16 := by omega
        clear e1 e2 ih hb
        go_enter Tryz.func86, Tryz.ntmps86
        go_wp2_with fail
        go_ret
        exact ⟨by rw [← HE.out]; rfl, Below.refl _ _⟩
    · have h0 : -(u : Int) < 0 := by omega
      have h01 : ¬ (0 : Int) ≤ -(u : Int) := by omega
      have h1 : ¬ -10 < -(u : Int) := by omega
      have HI := hid (ih (u / 10) (by omega) (u / 10) true w (Nat.le_refl _) (by simp; omega))
      obtain ⟨v, hv⟩ : ∃ v, u / 10 = v := ⟨_, rfl⟩
      obtain ⟨m, hm⟩ : ∃ m, u % 10 = m := ⟨_, rfl⟩
      have e1 := itoa_less (show 10 ≤ u by omega)
      have hm10 : m < 10 := by omega
      have hvb : v ≤ 922337203685477580 := by omega
      have hdiv : (u : Int) / 10 = (v : Int) := by omega
      have hmod : (u : Int) % 10 = (m : Int) := by omega
      rw [hv, hm] at e1
      rw [hv] at HI
      simp only [if_true] at HI
      have e2 : strOf (itoaB (-(v : Int))) ++ (⟨#[48, 49, 50, 51, 52, 53, 54, 55, 56, 57, 97, 98, 99, 100, 101, 102]⟩ : ByteArray).extract m (m + 1) = strOf (itoaB (-(u : Int))) := by rw [dgsR_at (by omega), e1, hexd_low hm10, str_appR]
      have HE := hid e2
      have hw : IntKind.i64.wrap ((m : Int) + 1) = ((m + 1 : Nat) : Int) := by rw [IntKind.wrap_i64]; omega
      have h3 : (m : Int) ≤ ((m + 1 : Nat) : Int) := by omega
      have h4 : ((m + 1 : Nat) : Int) ≤ 16 := by omega
      have hlen : (strOf (itoaB (-(v : Int)))).size ≤ 21 := by
        rw [strOf_size]; unfold itoaB; rw [List.length_map]; exact Go.Lib.itoa_length_le _ (by omega) (by omega)
      obtain ⟨P, hP⟩ : ∃ P, strOf (itoaB (-(v : Int))) = P := ⟨_, rfl⟩
      rw [hP] at HE HI hlen
      clear hP
      clear e1 e2 ih hb hv hm
      rcases Nat.eq_zero_or_pos m with hm0 | hm0
      · subst hm0
        go_enter Tryz.func86, Tryz.ntmps86
        go_wp2_with fail
        refine HI.out.mono ?_
        rintro x w1 ⟨rfl, hb1⟩
        have HB := hid hb1
        clear hb1
        go_wp2_with fail
        go_ret
        exact ⟨by rw [← HE.out]; rfl, HB.out⟩
      · go_enter Tryz.func86, Tryz.ntmps86
        go_wp2_with fail
        refine HI.out.mono ?_
        rintro x w1 ⟨rfl, hb1⟩
        have HB := hid hb1
        clear hb1
        go_wp2_with fail
        go_ret
        exact ⟨by rw [← HE.out]; rfl, HB.out⟩
theorem refDecimal (n : Int) (w : World) (h1 : -9223372036854775808 ≤ n) (h2 : n ≤ 9223372036854775807) :
    Calls Tryz.prog 86 #[.int .i64 n] w fun x w' => x = .returned (.string (strOf (itoaB n))) ∧ Below w.heap.size w w' := by
  by_cases h : n < 0
  · have e : n = -(n.natAbs : Int) := by omega
    have := refDecimal_any n.natAbs n.natAbs true w (Nat.le_refl _) (by simp; omega)
    simp only [if_true] at this
    rw [← e] at this
    exact this
  · have e : n = (n.natAbs : Int) := by omega
    have := refDecimal_any n.natAbs n.natAbs false w (Nat.le_refl _) (by simp; omega)
    simp only [Bool.false_eq_true, if_false] at this
    rw [← e] at this
    exact this
end Go.Proofs.YtdmhemofhmfkoabGreatDoor

namespace Go.Proofs.YtdmhemofhmfkoabGreatDoor
open Go.RowKit
set_option maxRecDepth 8000
/-- the further bytes of a rune -/
def runF (s : ByteArray) (a : Nat) : Nat → Nat → Nat → Option Nat
  | 0, _, v => some v
  | k + 1, i, v => if pk s (a + i) < 128 ∨ 192 ≤ pk s (a + i) then none else runF s a k (i + 1) (v * 64 + pk s (a + i) - 128)
/-- how long a rune is by its first byte, what that says, and the least rune of that length -/
def runN (c : Nat) : Nat := if 192 ≤ c ∧ c < 224 then 2 else if 224 ≤ c ∧ c < 240 then 3 else if 240 ≤ c ∧ c < 248 then 4 else 0
def runV (c : Nat) : Nat := if 192 ≤ c ∧ c < 224 then c - 192 else if 224 ≤ c ∧ c < 240 then c - 224 else if 240 ≤ c ∧ c < 248 then c - 240 else 0
def runL (c : Nat) : Nat := if 192 ≤ c ∧ c < 224 then 128 else if 224 ≤ c ∧ c < 240 then 2048 else if 240 ≤ c ∧ c < 248 then 65536 else 0
def runE (low n : Nat) : Option Nat → Nat × Nat
  | none => (0, 0)
  | some v => if v < low ∨ 1114111 < v ∨ (55296 ≤ v ∧ v < 57344) then (0, 0) else (v, n)
/-- the reference's reading of a rune -/
def runR (s : ByteArray) (a : Nat) : Nat × Nat :=
  if runN (pk s a) = 0 ∨ s.size < a + runN (pk s a) then (0, 0) else runE (runL (pk s a)) (runN (pk s a)) (runF s a (runN (pk s a) - 1) 1 (runV (pk s a)))
theorem pk_getb (s : ByteArray) (i : Nat) : (s.get! i).toNat = pk s i := by
  unfold pk
  cases h : s.data[i]? with
  | none => simp [ByteArray.get!, getElem!_def, h]; rfl
  | some x => simp [ByteArray.get!, getElem!_def, h]
set_option maxHeartbeats 4000000 in
theorem run_dec {s : ByteArray} {a : Nat} (h : a < s.size) : runR s a = if 1 < (Utf8.decode s a).2 then Utf8.decode s a else (0, 0) := by
  rw [Go.Lib.decode_at, pk_getb, pk_getb, pk_getb, pk_getb]
  have l0 := pk_lt s a
  have l1 := pk_lt s (a + 1)
  have l2 := pk_lt s (a + 2)
  have l3 := pk_lt s (a + 3)
  unfold runR
  have key : ∀ n v low : Nat, runN (pk s a) = n → runV (pk s a) = v → runL (pk s a) = low → (if n = 0 ∨ s.size < a + n then (0, 0) else runE low n (runF s a (n - 1) 1 v)) = (if 1 < (Go.Lib.decodeN (s.size - a) (pk s a) (pk s (a + 1)) (pk s (a + 2)) (pk s (a + 3))).2 then Go.Lib.decodeN (s.size - a) (pk s a) (pk s (a + 1)) (pk s (a + 2)) (pk s (a + 3)) else (0, 0)) := by
    intro n v low hn hv hl
    unfold runN at hn
    unfold runV at hv
    unfold runL at hl
    by_cases c2 : 192 ≤ pk s a ∧ pk s a < 224
    · rw [if_pos c2] at hn hv hl
      subst hn hv hl
      simp only [runF, Nat.reduceSub]
      generalize pk s a = b0 at *
      generalize pk s (a + 1) = b1 at *
      generalize pk s (a + 2) = b2 at *
      generalize pk s (a + 3) = b3 at *
      by_cases k : 2 = 0 ∨ s.size < a + 2
      · have hD : Go.Lib.decodeN (s.size - a) b0 b1 b2 b3 = (65533, 1) := by (unfold Go.Lib.decodeN; repeat' split) <;> first | rfl | (exfalso; omega)
        rw [if_pos k, hD]; rfl
      rw [if_neg k]
      by_cases k1 : b1 < 128 ∨ 192 ≤ b1
      · have hD : Go.Lib.decodeN (s.size - a) b0 b1 b2 b3 = (65533, 1) := by (unfold Go.Lib.decodeN; repeat' split) <;> first | rfl | (exfalso; omega)
        rw [if_pos k1, hD]; rfl
      rw [if_neg k1]
      have e : (b0 - 192) * 64 + b1 - 128 = b0 % 32 * 64 + b1 % 64 := by omega
      rw [e]
      have hD : Go.Lib.decodeN (s.size - a) b0 b1 b2 b3 = if b0 % 32 * 64 + b1 % 64 ≥ 128 then (b0 % 32 * 64 + b1 % 64, 2) else (65533, 1) := by
        unfold Go.Lib.decodeN
        rw [if_neg (show ¬ b0 < 128 by omega), if_pos (by omega)]
      rw [hD]
      have hvl : b0 % 32 * 64 + b1 % 64 < 2048 := by omega
      generalize b0 % 32 * 64 + b1 % 64 = v at *
      unfold runE
      by_cases k2 : v ≥ 128
      · rw [if_pos k2]; show (if _ then _ else _) = _; rw [if_neg (by omega)]; rfl
      · rw [if_neg k2]; show (if _ then _ else _) = _; rw [if_pos (by omega)]; rfl
    by_cases c3 : 224 ≤ pk s a ∧ pk s a < 240
    · rw [if_neg c2, if_pos c3] at hn hv hl
      subst hn hv hl
      simp only [runF, Nat.reduceSub, Nat.reduceAdd]
      generalize pk s a = b0 at *
      generalize pk s (a + 1) = b1 at *
      generalize pk s (a + 2) = b2 at *
      generalize pk s (a + 3) = b3 at *
      by_cases k : 3 = 0 ∨ s.size < a + 3
      · have hD : Go.Lib.decodeN (s.size - a) b0 b1 b2 b3 = (65533, 1) := by (unfold Go.Lib.decodeN; repeat' split) <;> first | rfl | (exfalso; omega)
        rw [if_pos k, hD]; rfl
      rw [if_neg k]
      by_cases k1 : b1 < 128 ∨ 192 ≤ b1
      · have hD : Go.Lib.decodeN (s.size - a) b0 b1 b2 b3 = (65533, 1) := by (unfold Go.Lib.decodeN; repeat' split) <;> first | rfl | (exfalso; omega)
        rw [if_pos k1, hD]; rfl
      rw [if_neg k1]
      by_cases k3 : b2 < 128 ∨ 192 ≤ b2
      · have hD : Go.Lib.decodeN (s.size - a) b0 b1 b2 b3 = (65533, 1) := by (unfold Go.Lib.decodeN; repeat' split) <;> first | rfl | (exfalso; omega)
        rw [if_pos k3, hD]; rfl
      rw [if_neg k3]
      have e : ((b0 - 224) * 64 + b1 - 128) * 64 + b2 - 128 = b0 % 16 * 4096 + b1 % 64 * 64 + b2 % 64 := by omega
      rw [e]
      have hD : Go.Lib.decodeN (s.size - a) b0 b1 b2 b3 = if b0 % 16 * 4096 + b1 % 64 * 64 + b2 % 64 ≥ 2048 ∧ (b0 % 16 * 4096 + b1 % 64 * 64 + b2 % 64 < 55296 ∨ (57344 ≤ b0 % 16 * 4096 + b1 % 64 * 64 + b2 % 64 ∧ b0 % 16 * 4096 + b1 % 64 * 64 + b2 % 64 ≤ 1114111)) then (b0 % 16 * 4096 + b1 % 64 * 64 + b2 % 64, 3) else (65533, 1) := by
        unfold Go.Lib.decodeN
        rw [if_neg (show ¬ b0 < 128 by omega), if_neg (show ¬ (b0 / 32 = 6 ∧ _) by omega), if_pos (by omega)]
      rw [hD]
      generalize b0 % 16 * 4096 + b1 % 64 * 64 + b2 % 64 = v at *
      unfold runE
      by_cases k2 : v ≥ 2048 ∧ (v < 55296 ∨ (57344 ≤ v ∧ v ≤ 1114111))
      · rw [if_pos k2]; show (if _ then _ else _) = _; rw [if_neg (by omega)]; rfl
      · rw [if_neg k2]; show (if _ then _ else _) = _; rw [if_pos (by omega)]; rfl
    by_cases c4 : 240 ≤ pk s a ∧ pk s a < 248
    · rw [if_neg c2, if_neg c3, if_pos c4] at hn hv hl
      subst hn hv hl
      simp only [runF, Nat.reduceSub, Nat.reduceAdd]
      generalize pk s a = b0 at *
      generalize pk s (a + 1) = b1 at *
      generalize pk s (a + 2) = b2 at *
      generalize pk s (a + 3) = b3 at *
      by_cases k : 4 = 0 ∨ s.size < a + 4
      · have hD : Go.Lib.decodeN (s.size - a) b0 b1 b2 b3 = (65533, 1) := by (unfold Go.Lib.decodeN; repeat' split) <;> first | rfl | (exfalso; omega)
        rw [if_pos k, hD]; rfl
      rw [if_neg k]
      by_cases k1 : b1 < 128 ∨ 192 ≤ b1
      · have hD : Go.Lib.decodeN (s.size - a) b0 b1 b2 b3 = (65533, 1) := by (unfold Go.Lib.decodeN; repeat' split) <;> first | rfl | (exfalso; omega)
        rw [if_pos k1, hD]; rfl
      rw [if_neg k1]
      by_cases k3 : b2 < 128 ∨ 192 ≤ b2
      · have hD : Go.Lib.decodeN (s.size - a) b0 b1 b2 b3 = (65533, 1) := by (unfold Go.Lib.decodeN; repeat' split) <;> first | rfl | (exfalso; omega)
        rw [if_pos k3, hD]; rfl
      rw [if_neg k3]
      by_cases k4 : b3 < 128 ∨ 192 ≤ b3
      · have hD : Go.Lib.decodeN (s.size - a) b0 b1 b2 b3 = (65533, 1) := by (unfold Go.Lib.decodeN; repeat' split) <;> first | rfl | (exfalso; omega)
        rw [if_pos k4, hD]; rfl
      rw [if_neg k4]
      have e : (((b0 - 240) * 64 + b1 - 128) * 64 + b2 - 128) * 64 + b3 - 128 = b0 % 8 * 262144 + b1 % 64 * 4096 + b2 % 64 * 64 + b3 % 64 := by omega
      rw [e]
      have hD : Go.Lib.decodeN (s.size - a) b0 b1 b2 b3 = if b0 % 8 * 262144 + b1 % 64 * 4096 + b2 % 64 * 64 + b3 % 64 ≥ 65536 ∧ (b0 % 8 * 262144 + b1 % 64 * 4096 + b2 % 64 * 64 + b3 % 64 < 55296 ∨ (57344 ≤ b0 % 8 * 262144 + b1 % 64 * 4096 + b2 % 64 * 64 + b3 % 64 ∧ b0 % 8 * 262144 + b1 % 64 * 4096 + b2 % 64 * 64 + b3 % 64 ≤ 1114111)) then (b0 % 8 * 262144 + b1 % 64 * 4096 + b2 % 64 * 64 + b3 % 64, 4) else (65533, 1) := by
        unfold Go.Lib.decodeN
        rw [if_neg (show ¬ b0 < 128 by omega), if_neg (show ¬ (b0 / 32 = 6 ∧ _) by omega), if_neg (show ¬ (b0 / 16 = 14 ∧ _) by omega), if_pos (by omega)]
      rw [hD]
      generalize b0 % 8 * 262144 + b1 % 64 * 4096 + b2 % 64 * 64 + b3 % 64 = v at *
      unfold runE
      by_cases k2 : v ≥ 65536 ∧ (v < 55296 ∨ (57344 ≤ v ∧ v ≤ 1114111))
      · rw [if_pos k2]; show (if _ then _ else _) = _; rw [if_neg (by omega)]; rfl
      · rw [if_neg k2]; show (if _ then _ else _) = _; rw [if_pos (by omega)]; rfl
    · rw [if_neg c2, if_neg c3, if_neg c4] at hn
      subst hn
      rw [if_pos (.inl rfl)]
      clear hv hl
      generalize pk s a = b0 at *
      generalize pk s (a + 1) = b1 at *
      generalize pk s (a + 2) = b2 at *
      generalize pk s (a + 3) = b3 at *
      have hD : (Go.Lib.decodeN (s.size - a) b0 b1 b2 b3).2 = 1 := by (unfold Go.Lib.decodeN; repeat' split) <;> first | rfl | (exfalso; omega)
      rw [if_neg (by omega)]
  exact key _ _ _ rfl rfl rfl
end Go.Proofs.YtdmhemofhmfkoabGreatDoor
