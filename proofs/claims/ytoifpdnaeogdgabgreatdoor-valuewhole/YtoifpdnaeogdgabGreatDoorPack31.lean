import Derived.Test.YtoifpdnaeogdgabGreatDoorPack19
import Derived.Test.YtoifpdnaeogdgabGreatDoorPack4
import Derived.Test.YtoifpdnaeogdgabGreatDoorPack30
import Derived.Test.YtoifpdnaeogdgabGreatDoorCanE
import Derived.Test.YtoifpdnaeogdgabGreatDoorParL
namespace Go.Proofs.YtoifpdnaeogdgabGreatDoor
open Go.RowKit
set_option maxRecDepth 8000

/-- these bytes stand at this place -/
def Has (s : ByteArray) (a : Nat) (zs : List Int) : Prop := ∀ j x, zs[j]? = some x → (pk s (a + j) : Int) = x ∧ a + j < s.size
theorem Has.app {s : ByteArray} {a : Nat} {xs ys : List Int} (h : Has s a (xs ++ ys)) : Has s a xs ∧ Has s (a + xs.length) ys := by
  refine ⟨fun j x hj => ?_, fun j x hj => ?_⟩
  · have hl : j < xs.length := (List.getElem?_eq_some_iff.1 hj).1
    exact h j x (by rw [List.getElem?_append_left hl]; exact hj)
  · have := h (xs.length + j) x (by rw [List.getElem?_append_right (by omega), Nat.add_sub_cancel_left]; exact hj)
    rw [Nat.add_assoc]; exact this
theorem Has.cons {s : ByteArray} {a : Nat} {x : Int} {xs : List Int} (h : Has s a (x :: xs)) : ((pk s a : Int) = x ∧ a < s.size) ∧ Has s (a + 1) xs := by
  refine ⟨h 0 x rfl, fun j y hj => ?_⟩
  have := h (j + 1) y (by simpa using hj)
  rw [show a + 1 + j = a + (j + 1) by omega]; exact this
/-- no digit -/
def NoDig (c : Nat) : Prop := ¬ (48 ≤ c ∧ c ≤ 57)

theorem word_has {s : ByteArray} : ∀ (l : List Nat) (a : Nat), Has s a (l.map fun c : Nat => (c : Int)) → wordS s l a = .ok (a + l.length)
  | [], a, _ => rfl
  | c :: r, a, h => by
    rw [List.map_cons] at h
    obtain ⟨⟨h1, _⟩, h2⟩ := h.cons
    unfold wordS
    rw [if_pos (by omega), word_has r (a + 1) h2, List.length_cons]
    congr 1
    omega
theorem none_has {s : ByteArray} {a : Nat} (h : Has s a [110, 111, 110, 101]) : noneS s a = .ok (mkN, a + 4) := by
  unfold noneS
  rw [word_has [110, 111, 110, 101] a h]
  rfl

/-! numbers -/
theorem dec_digits : ∀ u : Nat, (∀ c ∈ Go.Lib.decDigits u, 48 ≤ c.toNat ∧ c.toNat ≤ 57) ∧ (1 ≤ u → ∃ c r, Go.Lib.decDigits u = c :: r ∧ 49 ≤ c.toNat) := by
  intro u
  induction u using Nat.strongRecOn with
  | ind u ih =>
    rw [Go.Lib.decDigits]
    by_cases h : u < 10
    · rw [dif_pos h]
      have e : (UInt8.ofNat (48 + u)).toNat = 48 + u := by rw [UInt8.toNat_ofNat', Nat.mod_eq_of_lt (by omega)]
      refine ⟨fun c hc => ?_, fun h1 => ⟨_, _, rfl, by rw [e]; omega⟩⟩
      simp only [List.mem_singleton] at hc
      subst hc
      rw [e]; omega
    · rw [dif_neg h]
      obtain ⟨i1, i2⟩ := ih (u / 10) (by omega)
      have e : (UInt8.ofNat (48 + u % 10)).toNat = 48 + u % 10 := by rw [UInt8.toNat_ofNat', Nat.mod_eq_of_lt (by omega)]
      refine ⟨fun c hc => ?_, fun _ => ?_⟩
      · rcases List.mem_append.1 hc with hc | hc
        · exact i1 c hc
        · simp only [List.mem_singleton] at hc
          subst hc
          rw [e]; omega
      · obtain ⟨c, r, h1, h2⟩ := i2 (by omega)
        exact ⟨c, _, by rw [h1, List.cons_append], h2⟩
theorem uint_dec : ∀ (u : Nat) (r : List UInt8), u ≤ 18446744073709551615 → Lib.parseUintM 18446744073709551615 0 (Go.Lib.decDigits u ++ r) = Lib.parseUintM 18446744073709551615 u r := by
  intro u
  induction u using Nat.strongRecOn with
  | ind u ih =>
    intro r hu
    rw [Go.Lib.decDigits]
    by_cases h : u < 10
    · rw [dif_pos h]
      have e : (UInt8.ofNat (48 + u)).toNat = 48 + u := by rw [UInt8.toNat_ofNat', Nat.mod_eq_of_lt (by omega)]
      simp only [List.cons_append, List.nil_append]
      conv => lhs; unfold Lib.parseUintM
      rw [e, if_pos (by omega), if_neg (by omega), if_neg (by omega)]
      congr 1
      omega
    · rw [dif_neg h, List.append_assoc, ih (u / 10) (by omega) _ (by omega)]
      have e : (UInt8.ofNat (48 + u % 10)).toNat = 48 + u % 10 := by rw [UInt8.toNat_ofNat', Nat.mod_eq_of_lt (by omega)]
      simp only [List.cons_append, List.nil_append]
      conv => lhs; unfold Lib.parseUintM
      rw [e, if_pos (by omega), if_neg (by omega), if_neg (by omega)]
      congr 1
      omega
theorem uintB_dec (u : Nat) (hu : u ≤ 18446744073709551615) : Lib.parseUintB 64 (Go.Lib.decDigits u) = .ok u := by
  have h := uint_dec u [] hu
  rw [List.append_nil] at h
  have hne : Go.Lib.decDigits u ≠ [] := by
    intro e
    have := Go.Lib.decDigits_length u
    rw [e] at this
    have h2 : 1 ≤ Go.Lib.nDigits u := by rw [Go.Lib.nDigits]; split <;> omega
    simp at this
    omega
  unfold Lib.parseUintB
  rw [if_neg hne]
  show Lib.parseUintM 18446744073709551615 0 _ = _
  rw [h]
  rfl
theorem int_itoa (i : Int) (h1 : -9223372036854775808 ≤ i) (h2 : i ≤ 9223372036854775807) : Lib.parseIntB 64 (Go.Lib.itoa i) = .ok i := by
  unfold Go.Lib.itoa
  by_cases h : i < 0
  · rw [if_pos h, Lib.parseIntB_minus, uintB_dec _ (by omega)]
    simp only [Lib.signedC, show (2 : Nat) ^ (64 - 1) = 9223372036854775808 by decide]
    rw [if_neg (by omega)]
    congr 1
    omega
  · rw [if_neg h]
    obtain ⟨d1, d2⟩ := dec_digits i.toNat
    have hu := uintB_dec i.toNat (by omega)
    cases hd : Go.Lib.decDigits i.toNat with
    | nil => rw [hd] at hu; simp [Lib.parseUintB] at hu
    | cons c r =>
      have hc := d1 c (by rw [hd]; simp)
      rw [hd] at hu
      rw [Lib.parseIntB_plain 64 c r (by omega) (by omega), hu]
      simp only [Lib.signlessC, show (2 : Nat) ^ (64 - 1) = 9223372036854775808 by decide]
      rw [if_neg (by omega)]
      congr 1
      omega
theorem dgE_run {s : ByteArray} : ∀ (m b : Nat), (∀ j, j < m → 48 ≤ pk s (b + j) ∧ pk s (b + j) ≤ 57) → NoDig (pk s (b + m)) → dgE s b = b + m := by
  intro m
  induction m with
  | zero => intro b _ h; exact dgE_stop h
  | succ m ih =>
    intro b h1 h2
    rw [← dgE_step (s := s) (a := b) (h1 0 (by omega))]
    rw [ih (b + 1) (fun j hj => by have := h1 (j + 1) (by omega); rw [show b + 1 + j = b + (j + 1) by omega]; exact this) (by rw [show b + 1 + m = b + (m + 1) by omega]; exact h2)]
    omega
theorem has_list {s : ByteArray} {a : Nat} {l : List UInt8} (h : Has s a (l.map fun b => (b.toNat : Int))) : cutL s a (a + l.length) = l ∧ ∀ j (hj : j < l.length), pk s (a + j) = (l[j]'hj).toNat := by
  have hk : ∀ j (hj : j < l.length), pk s (a + j) = (l[j]'hj).toNat ∧ a + j < s.size := fun j hj => by
    obtain ⟨h1, h2⟩ := h j _ (by rw [List.getElem?_map, List.getElem?_eq_getElem hj]; rfl)
    have h3 : (pk s (a + j) : Int) = ((l[j]'hj).toNat : Int) := h1
    exact ⟨by omega, h2⟩
  refine ⟨?_, fun j hj => (hk j hj).1⟩
  rw [cutL_eq, Nat.add_sub_cancel_left]
  apply List.ext_getElem?
  intro j
  rcases Nat.lt_or_ge j l.length with hj | hj
  · obtain ⟨h1, h2⟩ := hk j hj
    rw [List.getElem?_take_of_lt hj, List.getElem?_drop, List.getElem?_eq_getElem hj]
    rw [pk_at h2] at h1
    have h3 : s.data.toList[a + j]? = some (s.data[a + j]'h2) := by rw [Array.getElem?_toList, Array.getElem?_eq_getElem h2]
    rw [h3]
    exact congrArg some (UInt8.toNat_inj.1 h1)
  · rw [List.getElem?_eq_none hj, List.getElem?_eq_none (by rw [List.length_take]; omega)]
theorem int_has {s : ByteArray} {a : Nat} (i : Int) (h1 : -9223372036854775808 ≤ i) (h2 : i ≤ 9223372036854775807) (h : Has s a (itoaB i)) (hn : NoDig (pk s (a + (itoaB i).length))) : intS s a = .ok (mkI i, a + (itoaB i).length) := by
  have hl : (itoaB i).length = (Go.Lib.itoa i).length := by simp [itoaB]
  obtain ⟨c1, c2⟩ := has_list (l := Go.Lib.itoa i) h
  have hp := int_itoa i h1 h2
  rw [hl] at hn ⊢
  by_cases h0 : i = 0
  · subst h0
    have e : Go.Lib.itoa 0 = [48] := by unfold Go.Lib.itoa; rw [if_neg (by omega)]; exact Go.Lib.decDigits_one (by decide)
    rw [e] at c2 ⊢
    have := c2 0 (by simp)
    unfold intS
    rw [if_pos (by simpa using this)]
    rfl
  by_cases hneg : i < 0
  · obtain ⟨d1, d2⟩ := dec_digits i.natAbs
    obtain ⟨c, r, hd, hc⟩ := d2 (by omega)
    have e : Go.Lib.itoa i = 45 :: Go.Lib.decDigits i.natAbs := by unfold Go.Lib.itoa; rw [if_pos hneg]
    have p0 := c2 0 (by rw [e]; simp)
    simp only [e, Nat.add_zero, List.getElem_cons_zero] at p0
    have p0 : pk s a = 45 := p0
    have pd : ∀ j, j < (Go.Lib.decDigits i.natAbs).length → 48 ≤ pk s (a + 1 + j) ∧ pk s (a + 1 + j) ≤ 57 := fun j hj => by
      have := c2 (j + 1) (by rw [e, List.length_cons]; omega)
      simp only [e, List.getElem_cons_succ] at this
      rw [show a + 1 + j = a + (j + 1) by omega, this]
      exact d1 _ (List.getElem_mem hj)
    have pf : 49 ≤ pk s (a + 1) ∧ pk s (a + 1) ≤ 57 := by
      have h3 := c2 1 (by rw [e, hd]; simp)
      simp only [e, hd, List.getElem_cons_succ, List.getElem_cons_zero] at h3
      have h4 := pd 0 (by rw [hd]; simp)
      rw [Nat.add_zero] at h4
      omega
    have hL : (Go.Lib.itoa i).length = (Go.Lib.decDigits i.natAbs).length + 1 := by rw [e, List.length_cons]
    have hdg : dgE s (a + 1) = a + (Go.Lib.itoa i).length := by
      rw [dgE_run (Go.Lib.decDigits i.natAbs).length (a + 1) pd (by rw [show a + 1 + (Go.Lib.decDigits i.natAbs).length = a + (Go.Lib.itoa i).length by omega]; exact hn)]
      omega
    have hsg : sgS s a = a + 1 := by unfold sgS; rw [if_pos p0]
    unfold intS
    rw [if_neg (by omega), hsg, if_pos pf, hdg, c1, hp]
    rfl
  · obtain ⟨d1, d2⟩ := dec_digits i.toNat
    obtain ⟨c, r, hd, hc⟩ := d2 (by omega)
    have e : Go.Lib.itoa i = Go.Lib.decDigits i.toNat := by unfold Go.Lib.itoa; rw [if_neg hneg]
    have pd : ∀ j, j < (Go.Lib.itoa i).length → 48 ≤ pk s (a + j) ∧ pk s (a + j) ≤ 57 := fun j hj => by
      rw [c2 j hj]
      exact d1 _ (by rw [← e]; exact List.getElem_mem hj)
    have pf : 49 ≤ pk s a ∧ pk s a ≤ 57 := by
      have h3 := c2 0 (by rw [e, hd]; simp)
      simp only [e, hd, List.getElem_cons_zero, Nat.add_zero] at h3
      have h4 := pd 0 (by rw [e, hd]; simp)
      rw [Nat.add_zero] at h4
      omega
    have hsg : sgS s a = a := by unfold sgS; rw [if_neg (by omega)]
    have hdg : dgE s a = a + (Go.Lib.itoa i).length := dgE_run _ a pd hn
    unfold intS
    rw [if_neg (by omega), hsg, if_pos pf, hdg, c1, hp]
    rfl
end Go.Proofs.YtoifpdnaeogdgabGreatDoor

namespace Go.Proofs.YtoifpdnaeogdgabGreatDoor
open Go.RowKit
set_option maxRecDepth 8000
theorem get_pk {s : ByteArray} {a : Nat} (h : a < s.size) : (s.get! a).toNat = pk s a := by
  rw [pk_at h]
  have : s.get! a = s.data[a]'h := by
    show s.data[a]! = _
    rw [getElem!_pos s.data a h]
  rw [this]
/-- a rune is read the same wherever its bytes stand -/
theorem decode_same {s u : ByteArray} {a p : Nat} (ha : a < u.size) (hw : 1 < (Utf8.decode u a).2) (hb : ∀ j, j < (Utf8.decode u a).2 → pk s (p + j) = pk u (a + j) ∧ p + j < s.size) : Utf8.decode s p = Utf8.decode u a ∧ 128 ≤ pk u a := by
  have hd := (dec_width u a).2.2 ha
  have hg : ∀ j, j < (Utf8.decode u a).2 → (s.get! (p + j)).toNat = (u.get! (a + j)).toNat := fun j hj => by
    obtain ⟨h1, h2⟩ := hb j hj
    rw [get_pk h2, get_pk (by omega), h1]
  have hp : p + (Utf8.decode u a).2 ≤ s.size := by
    have := (hb ((Utf8.decode u a).2 - 1) (by omega)).2
    omega
  have h128 : 128 ≤ pk u a := by
    rw [← get_pk ha]
    rcases Nat.lt_or_ge (u.get! a).toNat 128 with h | h
    · rw [Go.Lib.decode_at] at hw
      unfold Go.Lib.decodeN at hw
      rw [if_pos h] at hw
      simp at hw
    · exact h
  refine ⟨?_, h128⟩
  have g0 := hg 0 (by omega)
  have g1 := hg 1 hw
  have g2 : 2 < (Utf8.decode u a).2 → _ := hg 2
  have g3 : 3 < (Utf8.decode u a).2 → _ := hg 3
  simp only [Nat.add_zero] at g0
  clear hg hb
  rw [Go.Lib.decode_at s p, g0, g1]
  rw [Go.Lib.decode_at] at hw g2 g3 hp hd ⊢
  have k0 : 128 ≤ (u.get! a).toNat := by rw [get_pk ha]; exact h128
  generalize (u.get! a).toNat = b0 at *
  generalize (u.get! (a + 1)).toNat = b1 at *
  generalize (u.get! (a + 2)).toNat = b2 at *
  generalize (u.get! (a + 3)).toNat = b3 at *
  generalize (s.get! (p + 2)).toNat = c2 at *
  generalize (s.get! (p + 3)).toNat = c3 at *
  unfold Go.Lib.decodeN at hw g2 g3 hp hd ⊢
  rw [if_neg (by omega)] at hw g2 g3 hp hd ⊢
  rw [if_neg (show ¬ b0 < 128 by omega)]
  by_cases h2 : b0 / 32 = 6 ∧ (1 < u.size - a ∧ b1 / 64 = 2)
  · rw [if_pos h2] at hw g2 g3 hp hd ⊢
    by_cases h3 : b0 % 32 * 64 + b1 % 64 ≥ 128
    · rw [if_pos h3] at hw g2 g3 hp hd ⊢
      rw [if_pos ⟨h2.1, by simp only at hp; omega, h2.2.2⟩]
    · rw [if_neg h3] at hw; simp at hw
  rw [if_neg h2] at hw g2 g3 hp hd ⊢
  by_cases h3 : b0 / 16 = 14 ∧ (1 < u.size - a ∧ b1 / 64 = 2) ∧ (2 < u.size - a ∧ b2 / 64 = 2)
  · rw [if_pos h3] at hw g2 g3 hp hd ⊢
    split at hw
    · rename_i h4
      rw [if_pos h4] at g2 g3 hp hd ⊢
      have e2 := g2 (by simp)
      subst e2
      rw [if_neg (by omega), if_pos ⟨h3.1, ⟨by simp only at hp; omega, h3.2.1.2⟩, by simp only at hp; omega, h3.2.2.2⟩]
      exact if_pos h4
    · simp at hw
  rw [if_neg h3] at hw g2 g3 hp hd ⊢
  by_cases h4 : b0 / 8 = 30 ∧ (1 < u.size - a ∧ b1 / 64 = 2) ∧ (2 < u.size - a ∧ b2 / 64 = 2) ∧ (3 < u.size - a ∧ b3 / 64 = 2)
  · rw [if_pos h4] at hw g2 g3 hp hd ⊢
    split at hw
    · rename_i h5
      rw [if_pos h5] at g2 g3 hp hd ⊢
      have e2 := g2 (by simp)
      have e3 := g3 (by simp)
      subst e2 e3
      rw [if_neg (by omega), if_neg (by omega), if_pos ⟨h4.1, ⟨by simp only at hp; omega, h4.2.1.2⟩, ⟨by simp only at hp; omega, h4.2.2.1.2⟩, by simp only at hp; omega, h4.2.2.2.2⟩]
      exact if_pos h5
    · simp at hw
  · rw [if_neg h4] at hw
    simp at hw
theorem hexS_hexd : ∀ d, d < 16 → ∀ c : Nat, (c : Int) = hexd d → hexS c = some d := by
  intro d hd c hc
  unfold hexd at hc
  unfold hexS
  split at hc
  · rw [if_pos (by omega)]; congr 1; omega
  · rw [if_neg (by omega), if_pos (by omega)]; congr 1; omega
theorem quo_fuel {s : ByteArray} {k p : Nat} (hk : s.size < p + k) (hp : p < s.size) : ∃ k', k = k' + 1 := ⟨k - 1, by omega⟩
/-- bytes in base sixteen are read back -/
theorem hex_has {s : ByteArray} : ∀ (l : List Int) (k p : Nat) (acc : List Int), (∀ x ∈ l, 0 ≤ x ∧ x < 256) → Has s p (hexB l) → s.size < p + k → ∃ k', quoS s k p acc = quoS s k' (p + (hexB l).length) (acc ++ l) ∧ s.size < p + (hexB l).length + k' := by
  intro l
  induction l with
  | nil => intro k p acc _ _ hk; exact ⟨k, by simp [hexB], by simp [hexB]; exact hk⟩
  | cons x l ih =>
    intro k p acc hx h hk
    obtain ⟨x0, x1⟩ := hx x (by simp)
    have e : hexB (x :: l) = 92 :: 120 :: hexd (x.toNat / 16) :: hexd (x.toNat % 16) :: hexB l := by simp [hexB]
    rw [e] at h
    obtain ⟨⟨a1, b1⟩, h⟩ := h.cons
    obtain ⟨⟨a2, b2⟩, h⟩ := h.cons
    obtain ⟨⟨a3, b3⟩, h⟩ := h.cons
    obtain ⟨⟨a4, b4⟩, h⟩ := h.cons
    obtain ⟨k', rfl⟩ := quo_fuel hk b1
    have hes : escS s p = .ok (x.toNat, p + 4) := by
      unfold escS
      rw [if_neg (by omega), if_neg (by omega), if_neg (by omega), if_pos (by omega), hexS_hexd (x.toNat / 16) (by omega) _ a3]
      simp only
      rw [show p + 3 = p + 1 + 1 + 1 by omega, hexS_hexd (x.toNat % 16) (by omega) _ a4]
      simp only
      congr 2
      omega
    obtain ⟨k2, e1, e2⟩ := ih k' (p + 4) (acc ++ [x]) (fun y hy => hx y (by simp [hy])) h (by omega)
    have hl : (hexB (x :: l)).length = 4 + (hexB l).length := by rw [e]; simp; omega
    refine ⟨k2, ?_, by omega⟩
    conv => lhs; unfold quoS
    rw [if_neg (by omega), if_pos (by omega), hes]
    simp only
    rw [show ((x.toNat : Nat) : Int) = x by omega, e1, hl, List.append_assoc]
    congr 1
    omega
theorem drop_more {l : List Int} {a m : Nat} : l.drop a = (l.drop a).take m ++ l.drop (a + m) := by
  rw [← List.drop_drop, List.take_append_drop]
/-- the text is read back -/
theorem quo_has {s u : ByteArray} : ∀ (fuel pos k p : Nat) (acc : List Int), pos ≤ u.size → u.size ≤ pos + fuel → Has s p (quoF u fuel pos ++ [34]) → s.size < p + k → quoS s k p acc = .ok (acc ++ (txtB u).drop pos, p + (quoF u fuel pos).length + 1) := by
  intro fuel
  induction fuel with
  | zero =>
    intro pos k p acc h1 h2 h hk
    have e : quoF u 0 pos = [] := rfl
    rw [e] at h ⊢
    obtain ⟨⟨a1, b1⟩, _⟩ := h.cons
    obtain ⟨k', rfl⟩ := quo_fuel hk b1
    unfold quoS
    rw [if_pos (by omega), List.drop_eq_nil_of_le (by rw [txtB_len]; omega), List.append_nil]
    rfl
  | succ fuel ih =>
    intro pos k p acc h1 h2 h hk
    by_cases hlt : pos < u.size
    · rw [quoF_more u hlt] at h ⊢
      obtain ⟨hd1, hd2, hd3⟩ := dec_width u pos
      have hd3 := hd3 hlt
      rw [List.append_assoc] at h
      obtain ⟨hP, hQ⟩ := h.app
      have hne : piece u pos ≠ [] → p < s.size := fun hn => by
        cases hpc : piece u pos with
        | nil => exact absurd hpc hn
        | cons x r => rw [hpc] at hP; exact hP.cons.1.2
      -- what the piece is read as
      have key : ∃ k', quoS s k p acc = quoS s k' (p + (piece u pos).length) (acc ++ ((txtB u).drop pos).take (Utf8.decode u pos).2) ∧ s.size < p + (piece u pos).length + k' := by
        unfold piece at hP ⊢
        by_cases hA : (Utf8.decode u pos).1 = 34 ∨ (Utf8.decode u pos).1 = 92
        · rw [if_pos hA] at hP ⊢
          obtain ⟨l1, l2⟩ := dec_low (s := u) (a := pos) (by omega)
          obtain ⟨⟨a1, b1⟩, hP⟩ := hP.cons
          obtain ⟨⟨a2, b2⟩, _⟩ := hP.cons
          obtain ⟨k', rfl⟩ := quo_fuel hk b1
          have hes : escS s p = .ok (pk s (p + 1), p + 2) := by unfold escS; rw [if_pos (by omega)]
          refine ⟨k', ?_, by simp; omega⟩
          conv => lhs; unfold quoS
          rw [if_neg (by omega), if_pos (by omega), hes, l2, take1 hlt]
          simp only
          rw [show ((pk s (p + 1) : Nat) : Int) = ((u.get! pos).toNat : Int) by omega]
          rfl
        rw [if_neg hA] at hP ⊢
        by_cases hB : (Utf8.decode u pos).1 = 10
        · rw [if_pos hB] at hP ⊢
          obtain ⟨l1, l2⟩ := dec_low (s := u) (a := pos) (by omega)
          obtain ⟨⟨a1, b1⟩, hP⟩ := hP.cons
          obtain ⟨⟨a2, b2⟩, _⟩ := hP.cons
          obtain ⟨k', rfl⟩ := quo_fuel hk b1
          have hes : escS s p = .ok (10, p + 2) := by unfold escS; rw [if_neg (by omega), if_pos (by omega)]
          refine ⟨k', ?_, by simp; omega⟩
          conv => lhs; unfold quoS
          rw [if_neg (by omega), if_pos (by omega), hes, l2, take1 hlt]
          simp only
          rw [show ((10 : Nat) : Int) = ((u.get! pos).toNat : Int) by omega]
          rfl
        rw [if_neg hB] at hP ⊢
        by_cases hC : (Utf8.decode u pos).1 = 9
        · rw [if_pos hC] at hP ⊢
          obtain ⟨l1, l2⟩ := dec_low (s := u) (a := pos) (by omega)
          obtain ⟨⟨a1, b1⟩, hP⟩ := hP.cons
          obtain ⟨⟨a2, b2⟩, _⟩ := hP.cons
          obtain ⟨k', rfl⟩ := quo_fuel hk b1
          have hes : escS s p = .ok (9, p + 2) := by unfold escS; rw [if_neg (by omega), if_neg (by omega), if_pos (by omega)]
          refine ⟨k', ?_, by simp; omega⟩
          conv => lhs; unfold quoS
          rw [if_neg (by omega), if_pos (by omega), hes, l2, take1 hlt]
          simp only
          rw [show ((9 : Nat) : Int) = ((u.get! pos).toNat : Int) by omega]
          rfl
        rw [if_neg hC] at hP ⊢
        by_cases hD : (32 ≤ (Utf8.decode u pos).1 ∧ (Utf8.decode u pos).1 ≤ 126) ∨ (160 ≤ (Utf8.decode u pos).1 ∧ 1 < (Utf8.decode u pos).2)
        · rw [if_pos hD] at hP ⊢
          by_cases hw1 : 1 < (Utf8.decode u pos).2
          · obtain ⟨e1, _⟩ := enc_back hlt hw1
            rw [e1] at hP ⊢
            have hlen : (((txtB u).drop pos).take (Utf8.decode u pos).2).length = (Utf8.decode u pos).2 := by rw [List.length_take, List.length_drop, txtB_len]; omega
            have hby : ∀ j, j < (Utf8.decode u pos).2 → pk s (p + j) = pk u (pos + j) ∧ p + j < s.size := fun j hj => by
              have hg : (((txtB u).drop pos).take (Utf8.decode u pos).2)[j]? = some ((u.get! (pos + j)).toNat : Int) := by
                rw [List.getElem?_take_of_lt hj, List.getElem?_drop]
                exact get_txt u (by omega)
              obtain ⟨c1, c2⟩ := hP j _ hg
              rw [get_pk (by omega)] at c1
              exact ⟨by omega, c2⟩
            obtain ⟨e2, e3⟩ := decode_same hlt hw1 hby
            have hb0 := hby 0 (by omega)
            simp only [Nat.add_zero] at hb0
            have hp0 := hb0.2
            obtain ⟨k', rfl⟩ := quo_fuel hk hp0
            have hlt256 := pk_lt s p
            have hex : txtB (s.extract p (p + (Utf8.decode u pos).2)) = ((txtB u).drop pos).take (Utf8.decode u pos).2 := by
              apply List.ext_getElem?
              intro j
              rcases Nat.lt_or_ge j (Utf8.decode u pos).2 with hj | hj
              · obtain ⟨c1, c2⟩ := hby j hj
                rw [txt_cut, Nat.add_sub_cancel_left, List.getElem?_take_of_lt hj, List.getElem?_take_of_lt hj, List.getElem?_drop, List.getElem?_drop, get_txt s c2, get_txt u (by omega), get_pk c2, get_pk (by omega), c1]
              · rw [List.getElem?_eq_none (by rw [txt_cut, List.length_take]; omega), List.getElem?_eq_none (by rw [hlen]; exact hj)]
            refine ⟨k', ?_, by rw [hlen]; omega⟩
            conv => lhs; unfold quoS
            rw [if_neg (by omega), if_neg (by omega), if_neg (by omega), if_neg (by unfold badR; rw [e2]; omega), e2, hex, hlen]
          · have hr : 32 ≤ (Utf8.decode u pos).1 ∧ (Utf8.decode u pos).1 ≤ 126 := by omega
            obtain ⟨l1, l2⟩ := dec_low (s := u) (a := pos) (by omega)
            rw [enc_one (by omega)] at hP ⊢
            obtain ⟨⟨a1, b1⟩, _⟩ := hP.cons
            obtain ⟨k', rfl⟩ := quo_fuel hk b1
            have hdc : Utf8.decode s p = (pk s p, 1) := by
              rw [Go.Lib.decode_at, get_pk b1]
              unfold Go.Lib.decodeN
              rw [if_pos (by omega)]
            have hex : txtB (s.extract p (p + 1)) = [((u.get! pos).toNat : Int)] := by
              rw [txt_cut, Nat.add_sub_cancel_left, take1 b1, get_pk b1]
              congr 1
              omega
            refine ⟨k', ?_, by simp; omega⟩
            conv => lhs; unfold quoS
            rw [if_neg (by omega), if_neg (by omega), if_neg (by omega), if_neg (by unfold badR; rw [hdc]; simp only; omega), hdc]
            simp only
            rw [hex, l2, take1 hlt]
            rfl
        · rw [if_neg hD] at hP ⊢
          exact hex_has _ k p acc (fun x hx => by
            have hx2 : x ∈ txtB u := List.mem_of_mem_drop (List.mem_of_mem_take hx)
            unfold txtB at hx2
            obtain ⟨b, _, rfl⟩ := List.mem_map.1 hx2
            have := b.toNat_lt
            omega) hP hk
      obtain ⟨k', e1, e2⟩ := key
      rw [e1, ih (pos + (Utf8.decode u pos).2) k' (p + (piece u pos).length) _ hd3 (by omega) hQ e2, List.append_assoc, ← drop_more, List.length_append]
      congr 2
      omega
    · have e : quoF u (fuel + 1) pos = [] := quoF_end u hlt
      rw [e] at h ⊢
      obtain ⟨⟨a1, b1⟩, _⟩ := h.cons
      obtain ⟨k', rfl⟩ := quo_fuel hk b1
      unfold quoS
      rw [if_pos (by omega), List.drop_eq_nil_of_le (by rw [txtB_len]; omega), List.append_nil]
      rfl
theorem txt_has {s u : ByteArray} {a : Nat} (hu : u.size ≤ 24) (h : Has s a (quoB u)) : txtS s a = .ok (mkT u, a + (quoB u).length) := by
  unfold quoB at h ⊢
  rw [List.append_assoc] at h
  obtain ⟨h1, h2⟩ := h.app
  obtain ⟨⟨_, b1⟩, _⟩ := h1.cons
  have hq := quo_has (s := s) (u := u) u.size 0 (s.size + 1) (a + 1) [] (Nat.zero_le _) (by omega) h2 (by omega)
  unfold txtS
  rw [hq]
  unfold txtOf
  simp only [List.drop_zero, List.nil_append]
  rw [if_neg (by rw [txtB_len]; omega), strOf_txt]
  simp
  omega
end Go.Proofs.YtoifpdnaeogdgabGreatDoor

namespace Go.Proofs.YtoifpdnaeogdgabGreatDoor
open Go.RowKit
set_option maxRecDepth 8000
theorem sk_stop {s : ByteArray} {a : Nat} (h : pk s a ≠ 32) (h9 : pk s a ≠ 9) : skS s a = a := by
  unfold skS
  by_cases hl : a < s.size
  · rw [dropB_at hl, blL]
    rw [pk_at hl] at h h9
    rw [if_neg (by
      rintro (h1 | h1)
      · rw [h1] at h; exact h rfl
      · rw [h1] at h9; exact h9 rfl)]
    rfl
  · rw [dropB_end (by omega)]; rfl
theorem sk_step {s : ByteArray} {a : Nat} (h : pk s a = 32) : skS s a = skS s (a + 1) := by
  have hl : a < s.size := pk_pos (by omega)
  unfold skS
  rw [dropB_at hl, blL]
  rw [pk_at hl] at h
  rw [if_pos (Or.inl (UInt8.toNat_inj.1 (by rw [h]; rfl)))]
  omega
/-- what a printed value begins with -/
theorem pr_head {t : VT} (ht : Val t) : ∃ c r, prB t = c :: r ∧ ∃ n : Nat, c = (n : Int) ∧ begB n := by
  cases t with
  | nil => exact ht.elim
  | mk k i s n p c f =>
    obtain ⟨⟨h1, _⟩, _⟩ := ht
    obtain ⟨⟨k0, k3⟩, _⟩ := fit_facts h1
    rw [prB_eq]
    rcases (by omega : k = 0 ∨ k = 1 ∨ k = 2 ∨ k = 3) with rfl | rfl | rfl | rfl
    · exact ⟨110, _, rfl, 110, rfl, by simp [begB]⟩
    · simp only [if_true]
      unfold itoaB Go.Lib.itoa
      by_cases hneg : i < 0
      · rw [if_pos hneg]
        exact ⟨45, _, rfl, 45, rfl, by simp [begB]⟩
      · rw [if_neg hneg]
        have hd := (dec_digits i.toNat).1
        cases hc : Go.Lib.decDigits i.toNat with
        | nil =>
          have := Go.Lib.decDigits_length i.toNat
          rw [hc] at this
          have h2 : 1 ≤ Go.Lib.nDigits i.toNat := by rw [Go.Lib.nDigits]; split <;> omega
          simp at this
          omega
        | cons c r =>
          have := hd c (by rw [hc]; simp)
          exact ⟨_, _, rfl, c.toNat, rfl, by unfold begB; omega⟩
    · exact ⟨34, _, rfl, 34, rfl, by simp [begB]⟩
    · exact ⟨91, _, rfl, 91, rfl, by simp [begB]⟩
theorem beg_not {n : Nat} (h : begB n) : n ≠ 32 ∧ n ≠ 9 ∧ n ≠ 93 ∧ n ≠ 0 := by unfold begB at h; omega
/-- the items from the j-th on, m of them, and the bracket -/
def restB (f : Nat → VT) : Nat → Nat → List Int
  | _, 0 => [93]
  | j, m + 1 => [44, 32] ++ (prB (f j) ++ restB f (j + 1) m)
theorem rest_range (f : Nat → VT) : ∀ m j, 1 ≤ j → ((List.range' j m).flatMap fun j => (if 0 < j then [44, 32] else []) ++ prB (f j)) ++ [93] = restB f j m := by
  intro m
  induction m with
  | zero => intro j _; rfl
  | succ m ih =>
    intro j hj
    rw [List.range'_succ, List.flatMap_cons, restB, ← ih (j + 1) (by omega), if_pos (by omega)]
    simp [List.append_assoc]
theorem list_parts (f : Nat → VT) (m : Nat) : ((List.range (m + 1)).flatMap fun j => (if 0 < j then [44, 32] else []) ++ prB (f j)) ++ [93] = prB (f 0) ++ restB f 1 m := by
  rw [List.range_eq_range', List.range'_succ, List.flatMap_cons, ← rest_range f m 1 (Nat.le_refl _)]
  simp [List.append_assoc]
/-- a printed value is read back -/
def PReads (s : ByteArray) (t : VT) (d : Nat) (g : Nat → Nat → TR) : Prop := ∀ a q q', chk t d q = (0, q') → Has s a (prB t) → NoDig (pk s (a + (prB t).length)) → ∃ u, g a q = .ok (u, a + (prB t).length, q') ∧ VT.Alike t u
theorem lst_has {s : ByteArray} {d N : Nat} {g : Nat → Nat → TR} {f : Nat → VT} {Q : Nat → Nat} (hN : N ≤ 6) (hv : ∀ j, j < N → Val (f j)) (hg : ∀ j, j < N → PReads s (f j) (d + 1) g) (hQ : ∀ j, j < N → chk (f j) (d + 1) (Q j) = (0, Q (j + 1))) : ∀ (m j a M : Nat) (l : List VT), j + m + 1 = N → l.length = j → m + 1 ≤ M → Has s a (prB (f j) ++ restB f (j + 1) m) →
    ∃ us, lstS s g M a (Q j) l = .ok (mkL (l ++ us), a + (prB (f j) ++ restB f (j + 1) m).length, Q N) ∧ us.length = m + 1 ∧ ∀ i, i < m + 1 → VT.Alike (f (j + i)) (us.getD i .nil) := by
  intro m
  induction m with
  | zero =>
    intro j a M l hj hl hM h
    obtain ⟨M, rfl⟩ : ∃ M', M = M' + 1 := ⟨M - 1, by omega⟩
    obtain ⟨hP, hT⟩ := h.app
    rw [restB] at hT
    obtain ⟨⟨c1, b1⟩, _⟩ := hT.cons
    obtain ⟨u, e1, e2⟩ := hg j (by omega) a (Q j) (Q (j + 1)) (hQ j (by omega)) hP (by unfold NoDig; omega)
    refine ⟨[u], ?_, rfl, fun i hi => ?_⟩
    · unfold lstS
      rw [e1]
      simp only
      unfold sepS
      rw [sk_stop (by omega) (by omega), if_pos (by omega), restB, List.length_append]
      rw [show j + 1 = N by omega]
      rfl
    · obtain rfl : i = 0 := by omega
      exact e2
  | succ m ih =>
    intro j a M l hj hl hM h
    obtain ⟨M, rfl⟩ : ∃ M', M = M' + 1 := ⟨M - 1, by omega⟩
    obtain ⟨hP, hT⟩ := h.app
    rw [restB] at hT
    have hT1 : Has s (a + (prB (f j)).length) (44 :: 32 :: (prB (f (j + 1)) ++ restB f (j + 1 + 1) m)) := hT
    obtain ⟨⟨c1, b1⟩, hT⟩ := hT1.cons
    obtain ⟨⟨c2, b2⟩, hT⟩ := hT.cons
    obtain ⟨u, e1, e2⟩ := hg j (by omega) a (Q j) (Q (j + 1)) (hQ j (by omega)) hP (by unfold NoDig; omega)
    obtain ⟨us, i1, i2, i3⟩ := ih (j + 1) (a + (prB (f j)).length + 1 + 1) M (l ++ [u]) (by omega) (by simp [hl]) (by omega) hT
    obtain ⟨c, r, hpr, n, hcn, hbg⟩ := pr_head (hv (j + 1) (by omega))
    have hfirst : ((pk s (a + (prB (f j)).length + 1 + 1) : Nat) : Int) = c := (hT 0 c (by rw [hpr]; rfl)).1
    have hbn := beg_not hbg
    refine ⟨u :: us, ?_, by simp [i2], fun i hi => ?_⟩
    · unfold lstS
      rw [e1]
      simp only
      unfold sepS
      rw [sk_stop (a := a + (prB (f j)).length) (by omega) (by omega), if_neg (by omega), if_pos (by omega), if_neg (by simp [hl]; omega), sk_step (by omega), sk_stop (a := a + (prB (f j)).length + 1 + 1) (by omega) (by omega)]
      show lstS s g M (a + (prB (f j)).length + 1 + 1) (Q (j + 1)) (l ++ [u]) = _
      rw [i1, restB]
      simp only [List.append_assoc, List.cons_append, List.nil_append, List.length_append, List.length_cons]
      congr 3
      omega
    · cases i with
      | zero => exact e2
      | succ i =>
        have := i3 i (by omega)
        rw [show j + (i + 1) = j + 1 + i by omega]
        simpa using this
theorem part_has {s : ByteArray} {d : Nat} {g : Nat → Nat → TR} {t : VT} (ht : Val t) (hg : d < 3 → ∀ j, j < t.n → PReads s (t.item j) (d + 1) g) : PReads s t d (partT s g d) := by
  cases t with
  | nil => exact ht.elim
  | mk k i u N p c f =>
    intro a q q' hc h hn
    obtain ⟨hq, hf, hk3, hs, hN, hst⟩ := chk_parts hc
    obtain ⟨⟨_, _, _, hi1, hi2⟩, hval⟩ := id ht
    obtain ⟨⟨k0, k3⟩, fi, fs, fn⟩ := fit_facts hf
    obtain ⟨c0, r0, hpr, n0, hcn, hbg⟩ := pr_head ht
    have hfirst := h 0 c0 (by rw [hpr]; rfl)
    rw [Nat.add_zero] at hfirst
    simp only [VT.n_mk, VT.item_mk] at hg
    have hb0 : begB (pk s a) := by rw [show pk s a = n0 by omega]; exact hbg
    unfold partT
    rw [if_neg (by simpa using hb0), if_neg (by omega)]
    rw [prB_eq] at h hn hpr ⊢
    rcases (by omega : k = 0 ∨ k = 1 ∨ k = 2 ∨ k = 3) with rfl | rfl | rfl | rfl
    · simp only [show ¬ (0 : Int) = 1 by decide, show ¬ (0 : Int) = 2 by decide, show ¬ (0 : Int) = 3 by decide, or_false, if_false] at fi fs fn h ⊢
      subst fi fn
      have e : q' = q + 1 := by have := congrArg Prod.snd hst; simpa [stepN] using this.symm
      obtain ⟨⟨c1, _⟩, _⟩ := h.cons
      refine ⟨mkN, ?_, ⟨rfl, rfl, nil_text empty_toList fs, rfl, fun j hj => absurd hj (by omega)⟩⟩
      rw [if_pos (by omega), none_has h, e]
      rfl
    · simp only [show ¬ (1 : Int) = 2 by decide, show ¬ (1 : Int) = 3 by decide, or_false, if_true] at fs fn h hn hpr ⊢
      subst fn
      have e : q' = q + 1 := by have := congrArg Prod.snd hst; simpa [stepN] using this.symm
      refine ⟨mkI i, ?_, ⟨rfl, rfl, nil_text empty_toList fs, rfl, fun j hj => absurd hj (by omega)⟩⟩
      have hd : pk s a = 45 ∨ (48 ≤ pk s a ∧ pk s a ≤ 57) := by
        have : n0 = 45 ∨ (48 ≤ n0 ∧ n0 ≤ 57) := by
          unfold itoaB Go.Lib.itoa at hpr
          by_cases hneg : i < 0
          · rw [if_pos hneg] at hpr
            simp only [List.map_cons, List.cons.injEq] at hpr
            have h5 : ((45 : UInt8).toNat : Int) = 45 := rfl
            omega
          · rw [if_neg hneg] at hpr
            have hd := (dec_digits i.toNat).1
            cases hc2 : Go.Lib.decDigits i.toNat with
            | nil => rw [hc2] at hpr; simp at hpr
            | cons c2 r2 =>
              have := hd c2 (by rw [hc2]; simp)
              rw [hc2] at hpr
              simp only [List.map_cons, List.cons.injEq] at hpr
              omega
        omega
      rw [if_neg (by omega), if_neg (by omega), if_neg (by omega), int_has i hi1 hi2 h hn, e]
      rfl
    · simp only [show ¬ (2 : Int) = 1 by decide, show ¬ (2 : Int) = 3 by decide, or_false, if_true, if_false] at fi fn h hn hpr ⊢
      subst fi fn
      have e : q' = q + 1 := by have := congrArg Prod.snd hst; simpa [stepN] using this.symm
      have h34 : pk s a = 34 := by
        have h5 : quoB u = 34 :: (quoF u u.size 0 ++ [34]) := by simp [quoB]
        rw [h5] at h
        have := h.cons.1.1
        omega
      refine ⟨mkT u, ?_, ⟨rfl, rfl, rfl, rfl, fun j hj => absurd hj (by omega)⟩⟩
      rw [if_neg (by omega), if_pos h34, txt_has hs h, e]
      rfl
    · simp only [show ¬ (3 : Int) = 1 by decide, show ¬ (3 : Int) = 2 by decide, or_false, if_true, if_false] at fi fs h hn hpr ⊢
      subst fi
      have hd : d < 3 := by
        rcases Nat.lt_or_ge d 3 with h1 | h1
        · exact h1
        · exact absurd ⟨rfl, h1⟩ hk3
      rw [List.append_assoc] at h ⊢
      obtain ⟨h91, hr⟩ := h.app
      obtain ⟨⟨c1, b1⟩, _⟩ := h91.cons
      rw [if_neg (by omega), if_neg (by omega), if_pos (by omega)]
      unfold listS
      rw [if_neg (by omega)]
      have hone : a + [(91 : Int)].length = a + 1 := rfl
      rw [hone] at hr
      cases N with
      | zero =>
        obtain ⟨⟨c2, b2⟩, _⟩ := Has.cons (xs := []) hr
        have e : q' = q + 1 := by have := congrArg Prod.snd hst; simpa [stepN] using this.symm
        refine ⟨mkL [], ?_, ⟨rfl, rfl, nil_text empty_toList fs, rfl, fun j hj => absurd hj (by omega)⟩⟩
        rw [sk_stop (by omega) (by omega), if_pos (by omega), e]
        rfl
      | succ N =>
        rw [list_parts] at hr ⊢
        obtain ⟨c, r, hpr2, n, hcn2, hbg2⟩ := pr_head (hval 0 (by omega))
        have hf2 := hr 0 c (by rw [hpr2]; rfl)
        rw [Nat.add_zero] at hf2
        have hbn := beg_not hbg2
        rw [sk_stop (by omega) (by omega), if_neg (by omega)]
        obtain ⟨us, i1, i2, i3⟩ := lst_has (s := s) (d := d) (N := N + 1) (g := g) (f := f) (Q := fun j => (stepN (fun j m => chk (f j) (d + 1) m) (q + 1) j).2) hN hval (hg hd) (fun j hj => by
          have z1 := stepN_zero hst (show j ≤ N + 1 by omega)
          have z2 := stepN_zero hst (show j + 1 ≤ N + 1 by omega)
          rw [stepN_succ z1] at z2
          simp only [stepN_succ z1]
          exact Prod.ext z2 rfl) N 0 (a + 1) 6 [] (by omega) rfl (by omega) hr
        rw [hst] at i1
        simp only [List.nil_append] at i1
        refine ⟨mkL us, ?_, ⟨rfl, rfl, nil_text empty_toList fs, by show us.length = N + 1; exact i2, fun j hj => by have := i3 j hj; rw [Nat.zero_add] at this; exact this⟩⟩
        rw [show (stepN (fun j m => chk (f j) (d + 1) m) (q + 1) 0).2 = q + 1 from rfl] at i1
        rw [i1, List.length_append]
        congr 3
        simp
        omega
theorem par_has {s : ByteArray} : ∀ (t : VT) (d : Nat), Val t → d ≤ 3 → PReads s t d (parS s (3 - d) d) := by
  intro t
  induction t with
  | nil => intro d h; exact h.elim
  | mk k i u N p c h ih =>
    intro d hv hd
    by_cases h3 : d = 3
    · subst h3
      exact part_has hv (fun h => by omega)
    · rw [show 3 - d = (3 - (d + 1)) + 1 by omega]
      exact part_has hv (fun hd2 j hj => ih j (d + 1) (hv.2 j hj) (by omega))
/-- bytes as a text stand there -/
theorem has_strOf {zs r : List Int} (hz : ∀ x ∈ zs, 0 ≤ x ∧ x < 256) : Has (strOf (zs ++ r)) 0 zs := by
  intro j x hj
  have hl : j < zs.length := (List.getElem?_eq_some_iff.1 hj).1
  have hsz : (strOf (zs ++ r)).size = zs.length + r.length := by rw [strOf_size, List.length_append]
  have h1 : j < (strOf (zs ++ r)).size := by omega
  have hx := hz x (List.mem_of_getElem? hj)
  rw [Nat.zero_add]
  refine ⟨?_, h1⟩
  rw [pk_at h1]
  have h2 : (strOf (zs ++ r)).data.toList[j]? = some (UInt8.ofNat x.toNat) := by
    rw [strOf_datC, List.getElem?_map, List.getElem?_append_left hl, hj]
    rfl
  have h3 : (strOf (zs ++ r)).data.toList[j]? = some ((strOf (zs ++ r)).data[j]'h1) := by rw [Array.getElem?_toList]; exact Array.getElem?_eq_getElem (show j < (strOf (zs ++ r)).data.size from h1)
  rw [h3] at h2
  rw [Option.some.inj h2, UInt8.toNat_ofNat', Nat.mod_eq_of_lt (by omega)]
  omega
theorem pk_end {s : ByteArray} {a : Nat} (h : s.size ≤ a) : pk s a = 0 := by
  unfold pk
  rw [Array.getElem?_eq_none (show s.data.size ≤ a from h)]
  rfl
/-- what is printed is read back, the whole of it -/
theorem parse_print {t : VT} (ht : Val t) {q' : Nat} (hc : chk t 0 0 = (0, q')) (hb : ∀ x ∈ prB t, 0 ≤ x ∧ x < 256) : ∃ u, parseS (strOf (prB t)) = .ok (u, (strOf (prB t)).size) ∧ VT.Alike t u := by
  have hH : Has (strOf (prB t)) 0 (prB t) := by have := has_strOf (r := []) hb; rw [List.append_nil] at this; exact this
  have hsz : (strOf (prB t)).size = (prB t).length := strOf_size _
  obtain ⟨u, e1, e2⟩ := par_has (s := strOf (prB t)) t 0 ht (by omega) 0 0 q' hc hH (by rw [Nat.zero_add, pk_end (by omega)]; unfold NoDig; omega)
  obtain ⟨c, r, hpr, n, hcn, hbg⟩ := pr_head ht
  have hbn := beg_not hbg
  have hf := hH 0 c (by rw [hpr]; rfl)
  rw [Nat.add_zero] at hf
  have hbl : blL (strOf (prB t)).data.toList = 0 := by
    have h0 := sk_stop (s := strOf (prB t)) (a := 0) (by omega) (by omega)
    unfold skS at h0
    rw [List.drop_zero] at h0
    omega
  refine ⟨u, ?_, e2⟩
  unfold parseS
  rw [hbl]
  have htl : tl (strOf (prB t)) 0 = strOf (prB t) := bytes_ext (by rw [tl_list, List.drop_zero])
  rw [htl]
  have e1' : parS (strOf (prB t)) 3 0 0 0 = .ok (u, 0 + (prB t).length, q') := e1
  rw [e1']
  unfold endS
  simp only [Nat.zero_add]
  rw [sk_stop (by rw [pk_end (by omega)]; omega) (by rw [pk_end (by omega)]; omega), if_neg (by omega), hsz]
theorem lead_print {t : VT} (ht : Val t) {q' : Nat} (hc : chk t 0 0 = (0, q')) (hb : ∀ x ∈ prB t, 0 ≤ x ∧ x < 256) : ∃ u, parS (strOf (prB t ++ [44])) 3 0 0 0 = .ok (u, (prB t).length, q') ∧ VT.Alike t u := by
  have hH : Has (strOf (prB t ++ [44])) 0 (prB t ++ [44]) := by
    have := has_strOf (zs := prB t ++ [44]) (r := []) (fun x hx => by
      rcases List.mem_append.1 hx with h | h
      · exact hb x h
      · simp at h; omega)
    rw [List.append_nil] at this; exact this
  obtain ⟨h1, h2⟩ := hH.app
  obtain ⟨⟨c1, _⟩, _⟩ := h2.cons
  obtain ⟨u, e1, e2⟩ := par_has (s := strOf (prB t ++ [44])) t 0 ht (by omega) 0 0 q' hc h1 (by unfold NoDig; omega)
  rw [Nat.zero_add] at e1
  exact ⟨u, e1, e2⟩
end Go.Proofs.YtoifpdnaeogdgabGreatDoor
