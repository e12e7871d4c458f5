import Derived.Test.YtoifpdnaeogdgabDoorPack21
namespace Go.Proofs.YtoifpdnaeogdgabDoor
open Go.RowKit
set_option maxRecDepth 8000
theorem get_pk {s : ByteArray} {a : Nat} (h : a < s.size) : (s.get! a).toNat = pk s a := by
  rw [pk_at h]
  have : s.get! a = s.data[a]'h := by
    show s.data[a]! = _
    rw [getElem!_pos s.data a h]
  rw [this]
/-- a rune is read the same wherever its bytes stand -/
theorem decode_same {s u : ByteArray} {a p : Nat} (ha : a < u.size) (hw : 1 < (Utf8.decode u a).2) (hb : ∀ j, j < (Utf8.decode u a).2 → pk s (p + j) = pk u (a + j) ∧ p + j < s.size) : Utf8.decode s p = Utf8.decode u a ∧ 128 ≤ pk u a := by
  have hd := (dec_width u a).2.2 ha
  have hg : ∀ j, j < (Utf8.decode u a).2 → (s.get! (p + j)).toNat = (u.get! (a + j)).toNat := fun j hj => by
    obtain ⟨h1, h2⟩ := hb j hj
    rw [get_pk h2, get_pk (by omega), h1]
  have hp : p + (Utf8.decode u a).2 ≤ s.size := by
    have := (hb ((Utf8.decode u a).2 - 1) (by omega)).2
    omega
  have h128 : 128 ≤ pk u a := by
    rw [← get_pk ha]
    rcases Nat.lt_or_ge (u.get! a).toNat 128 with h | h
    · rw [Go.Lib.decode_at] at hw
      unfold Go.Lib.decodeN at hw
      rw [if_pos h] at hw
      simp at hw
    · exact h
  refine ⟨?_, h128⟩
  have g0 := hg 0 (by omega)
  have g1 := hg 1 hw
  have g2 : 2 < (Utf8.decode u a).2 → _ := hg 2
  have g3 : 3 < (Utf8.decode u a).2 → _ := hg 3
  simp only [Nat.add_zero] at g0
  clear hg hb
  rw [Go.Lib.decode_at s p, g0, g1]
  rw [Go.Lib.decode_at] at hw g2 g3 hp hd ⊢
  have k0 : 128 ≤ (u.get! a).toNat := by rw [get_pk ha]; exact h128
  generalize (u.get! a).toNat = b0 at *
  generalize (u.get! (a + 1)).toNat = b1 at *
  generalize (u.get! (a + 2)).toNat = b2 at *
  generalize (u.get! (a + 3)).toNat = b3 at *
  generalize (s.get! (p + 2)).toNat = c2 at *
  generalize (s.get! (p + 3)).toNat = c3 at *
  unfold Go.Lib.decodeN at hw g2 g3 hp hd ⊢
  rw [if_neg (by omega)] at hw g2 g3 hp hd ⊢
  rw [if_neg (show ¬ b0 < 128 by omega)]
  by_cases h2 : b0 / 32 = 6 ∧ (1 < u.size - a ∧ b1 / 64 = 2)
  · rw [if_pos h2] at hw g2 g3 hp hd ⊢
    by_cases h3 : b0 % 32 * 64 + b1 % 64 ≥ 128
    · rw [if_pos h3] at hw g2 g3 hp hd ⊢
      rw [if_pos ⟨h2.1, by simp only at hp; omega, h2.2.2⟩]
    · rw [if_neg h3] at hw; simp at hw
  rw [if_neg h2] at hw g2 g3 hp hd ⊢
  by_cases h3 : b0 / 16 = 14 ∧ (1 < u.size - a ∧ b1 / 64 = 2) ∧ (2 < u.size - a ∧ b2 / 64 = 2)
  · rw [if_pos h3] at hw g2 g3 hp hd ⊢
    split at hw
    · rename_i h4
      rw [if_pos h4] at g2 g3 hp hd ⊢
      have e2 := g2 (by simp)
      subst e2
      rw [if_neg (by omega), if_pos ⟨h3.1, ⟨by simp only at hp; omega, h3.2.1.2⟩, by simp only at hp; omega, h3.2.2.2⟩]
      exact if_pos h4
    · simp at hw
  rw [if_neg h3] at hw g2 g3 hp hd ⊢
  by_cases h4 : b0 / 8 = 30 ∧ (1 < u.size - a ∧ b1 / 64 = 2) ∧ (2 < u.size - a ∧ b2 / 64 = 2) ∧ (3 < u.size - a ∧ b3 / 64 = 2)
  · rw [if_pos h4] at hw g2 g3 hp hd ⊢
    split at hw
    · rename_i h5
      rw [if_pos h5] at g2 g3 hp hd ⊢
      have e2 := g2 (by simp)
      have e3 := g3 (by simp)
      subst e2 e3
      rw [if_neg (by omega), if_neg (by omega), if_pos ⟨h4.1, ⟨by simp only at hp; omega, h4.2.1.2⟩, ⟨by simp only at hp; omega, h4.2.2.1.2⟩, by simp only at hp; omega, h4.2.2.2.2⟩]
      exact if_pos h5
    · simp at hw
  · rw [if_neg h4] at hw
    simp at hw
theorem hexS_hexd : ∀ d, d < 16 → ∀ c : Nat, (c : Int) = hexd d → hexS c = some d := by
  intro d hd c hc
  unfold hexd at hc
  unfold hexS
  split at hc
  · rw [if_pos (by omega)]; congr 1; omega
  · rw [if_neg (by omega), if_pos (by omega)]; congr 1; omega
theorem quo_fuel {s : ByteArray} {k p : Nat} (hk : s.size < p + k) (hp : p < s.size) : ∃ k', k = k' + 1 := ⟨k - 1, by omega⟩
/-- bytes in base sixteen are read back -/
theorem hex_has {s : ByteArray} : ∀ (l : List Int) (k p : Nat) (acc : List Int), (∀ x ∈ l, 0 ≤ x ∧ x < 256) → Has s p (hexB l) → s.size < p + k → ∃ k', quoS s k p acc = quoS s k' (p + (hexB l).length) (acc ++ l) ∧ s.size < p + (hexB l).length + k' := by
  intro l
  induction l with
  | nil => intro k p acc _ _ hk; exact ⟨k, by simp [hexB], by simp [hexB]; exact hk⟩
  | cons x l ih =>
    intro k p acc hx h hk
    obtain ⟨x0, x1⟩ := hx x (by simp)
    have e : hexB (x :: l) = 92 :: 120 :: hexd (x.toNat / 16) :: hexd (x.toNat % 16) :: hexB l := by simp [hexB]
    rw [e] at h
    obtain ⟨⟨a1, b1⟩, h⟩ := h.cons
    obtain ⟨⟨a2, b2⟩, h⟩ := h.cons
    obtain ⟨⟨a3, b3⟩, h⟩ := h.cons
    obtain ⟨⟨a4, b4⟩, h⟩ := h.cons
    obtain ⟨k', rfl⟩ := quo_fuel hk b1
    have hes : escS s p = .ok (x.toNat, p + 4) := by
      unfold escS
      rw [if_neg (by omega), if_neg (by omega), if_neg (by omega), if_pos (by omega), hexS_hexd (x.toNat / 16) (by omega) _ a3]
      simp only
      rw [show p + 3 = p + 1 + 1 + 1 by omega, hexS_hexd (x.toNat % 16) (by omega) _ a4]
      simp only
      congr 2
      omega
    obtain ⟨k2, e1, e2⟩ := ih k' (p + 4) (acc ++ [x]) (fun y hy => hx y (by simp [hy])) h (by omega)
    have hl : (hexB (x :: l)).length = 4 + (hexB l).length := by rw [e]; simp; omega
    refine ⟨k2, ?_, by omega⟩
    conv => lhs; unfold quoS
    rw [if_neg (by omega), if_pos (by omega), hes]
    simp only
    rw [show ((x.toNat : Nat) : Int) = x by omega, e1, hl, List.append_assoc]
    congr 1
    omega
theorem drop_more {l : List Int} {a m : Nat} : l.drop a = (l.drop a).take m ++ l.drop (a + m) := by
  rw [← List.drop_drop, List.take_append_drop]
/-- the text is read back -/
theorem quo_has {s u : ByteArray} : ∀ (fuel pos k p : Nat) (acc : List Int), pos ≤ u.size → u.size ≤ pos + fuel → Has s p (quoF u fuel pos ++ [34]) → s.size < p + k → quoS s k p acc = .ok (acc ++ (txtB u).drop pos, p + (quoF u fuel pos).length + 1) := by
  intro fuel
  induction fuel with
  | zero =>
    intro pos k p acc h1 h2 h hk
    have e : quoF u 0 pos = [] := rfl
    rw [e] at h ⊢
    obtain ⟨⟨a1, b1⟩, _⟩ := h.cons
    obtain ⟨k', rfl⟩ := quo_fuel hk b1
    unfold quoS
    rw [if_pos (by omega), List.drop_eq_nil_of_le (by rw [txtB_len]; omega), List.append_nil]
    rfl
  | succ fuel ih =>
    intro pos k p acc h1 h2 h hk
    by_cases hlt : pos < u.size
    · rw [quoF_more u hlt] at h ⊢
      obtain ⟨hd1, hd2, hd3⟩ := dec_width u pos
      have hd3 := hd3 hlt
      rw [List.append_assoc] at h
      obtain ⟨hP, hQ⟩ := h.app
      have hne : piece u pos ≠ [] → p < s.size := fun hn => by
        cases hpc : piece u pos with
        | nil => exact absurd hpc hn
        | cons x r => rw [hpc] at hP; exact hP.cons.1.2
      -- what the piece is read as
      have key : ∃ k', quoS s k p acc = quoS s k' (p + (piece u pos).length) (acc ++ ((txtB u).drop pos).take (Utf8.decode u pos).2) ∧ s.size < p + (piece u pos).length + k' := by
        unfold piece at hP ⊢
        by_cases hA : (Utf8.decode u pos).1 = 34 ∨ (Utf8.decode u pos).1 = 92
        · rw [if_pos hA] at hP ⊢
          obtain ⟨l1, l2⟩ := dec_low (s := u) (a := pos) (by omega)
          obtain ⟨⟨a1, b1⟩, hP⟩ := hP.cons
          obtain ⟨⟨a2, b2⟩, _⟩ := hP.cons
          obtain ⟨k', rfl⟩ := quo_fuel hk b1
          have hes : escS s p = .ok (pk s (p + 1), p + 2) := by unfold escS; rw [if_pos (by omega)]
          refine ⟨k', ?_, by simp; omega⟩
          conv => lhs; unfold quoS
          rw [if_neg (by omega), if_pos (by omega), hes, l2, take1 hlt]
          simp only
          rw [show ((pk s (p + 1) : Nat) : Int) = ((u.get! pos).toNat : Int) by omega]
          rfl
        rw [if_neg hA] at hP ⊢
        by_cases hB : (Utf8.decode u pos).1 = 10
        · rw [if_pos hB] at hP ⊢
          obtain ⟨l1, l2⟩ := dec_low (s := u) (a := pos) (by omega)
          obtain ⟨⟨a1, b1⟩, hP⟩ := hP.cons
          obtain ⟨⟨a2, b2⟩, _⟩ := hP.cons
          obtain ⟨k', rfl⟩ := quo_fuel hk b1
          have hes : escS s p = .ok (10, p + 2) := by unfold escS; rw [if_neg (by omega), if_pos (by omega)]
          refine ⟨k', ?_, by simp; omega⟩
          conv => lhs; unfold quoS
          rw [if_neg (by omega), if_pos (by omega), hes, l2, take1 hlt]
          simp only
          rw [show ((10 : Nat) : Int) = ((u.get! pos).toNat : Int) by omega]
          rfl
        rw [if_neg hB] at hP ⊢
        by_cases hC : (Utf8.decode u pos).1 = 9
        · rw [if_pos hC] at hP ⊢
          obtain ⟨l1, l2⟩ := dec_low (s := u) (a := pos) (by omega)
          obtain ⟨⟨a1, b1⟩, hP⟩ := hP.cons
          obtain ⟨⟨a2, b2⟩, _⟩ := hP.cons
          obtain ⟨k', rfl⟩ := quo_fuel hk b1
          have hes : escS s p = .ok (9, p + 2) := by unfold escS; rw [if_neg (by omega), if_neg (by omega), if_pos (by omega)]
          refine ⟨k', ?_, by simp; omega⟩
          conv => lhs; unfold quoS
          rw [if_neg (by omega), if_pos (by omega), hes, l2, take1 hlt]
          simp only
          rw [show ((9 : Nat) : Int) = ((u.get! pos).toNat : Int) by omega]
          rfl
        rw [if_neg hC] at hP ⊢
        by_cases hD : (32 ≤ (Utf8.decode u pos).1 ∧ (Utf8.decode u pos).1 ≤ 126) ∨ (160 ≤ (Utf8.decode u pos).1 ∧ 1 < (Utf8.decode u pos).2)
        · rw [if_pos hD] at hP ⊢
          by_cases hw1 : 1 < (Utf8.decode u pos).2
          · obtain ⟨e1, _⟩ := enc_back hlt hw1
            rw [e1] at hP ⊢
            have hlen : (((txtB u).drop pos).take (Utf8.decode u pos).2).length = (Utf8.decode u pos).2 := by rw [List.length_take, List.length_drop, txtB_len]; omega
            have hby : ∀ j, j < (Utf8.decode u pos).2 → pk s (p + j) = pk u (pos + j) ∧ p + j < s.size := fun j hj => by
              have hg : (((txtB u).drop pos).take (Utf8.decode u pos).2)[j]? = some ((u.get! (pos + j)).toNat : Int) := by
                rw [List.getElem?_take_of_lt hj, List.getElem?_drop]
                exact get_txt u (by omega)
              obtain ⟨c1, c2⟩ := hP j _ hg
              rw [get_pk (by omega)] at c1
              exact ⟨by omega, c2⟩
            obtain ⟨e2, e3⟩ := decode_same hlt hw1 hby
            have hb0 := hby 0 (by omega)
            simp only [Nat.add_zero] at hb0
            have hp0 := hb0.2
            obtain ⟨k', rfl⟩ := quo_fuel hk hp0
            have hlt256 := pk_lt s p
            have hex : txtB (s.extract p (p + (Utf8.decode u pos).2)) = ((txtB u).drop pos).take (Utf8.decode u pos).2 := by
              apply List.ext_getElem?
              intro j
              rcases Nat.lt_or_ge j (Utf8.decode u pos).2 with hj | hj
              · obtain ⟨c1, c2⟩ := hby j hj
                rw [txt_cut, Nat.add_sub_cancel_left, List.getElem?_take_of_lt hj, List.getElem?_take_of_lt hj, List.getElem?_drop, List.getElem?_drop, get_txt s c2, get_txt u (by omega), get_pk c2, get_pk (by omega), c1]
              · rw [List.getElem?_eq_none (by rw [txt_cut, List.length_take]; omega), List.getElem?_eq_none (by rw [hlen]; exact hj)]
            refine ⟨k', ?_, by rw [hlen]; omega⟩
            conv => lhs; unfold quoS
            rw [if_neg (by omega), if_neg (by omega), if_neg (by omega), if_neg (by unfold badR; rw [e2]; omega), e2, hex, hlen]
          · have hr : 32 ≤ (Utf8.decode u pos).1 ∧ (Utf8.decode u pos).1 ≤ 126 := by omega
            obtain ⟨l1, l2⟩ := dec_low (s := u) (a := pos) (by omega)
            rw [enc_one (by omega)] at hP ⊢
            obtain ⟨⟨a1, b1⟩, _⟩ := hP.cons
            obtain ⟨k', rfl⟩ := quo_fuel hk b1
            have hdc : Utf8.decode s p = (pk s p, 1) := by
              rw [Go.Lib.decode_at, get_pk b1]
              unfold Go.Lib.decodeN
              rw [if_pos (by omega)]
            have hex : txtB (s.extract p (p + 1)) = [((u.get! pos).toNat : Int)] := by
              rw [txt_cut, Nat.add_sub_cancel_left, take1 b1, get_pk b1]
              congr 1
              omega
            refine ⟨k', ?_, by simp; omega⟩
            conv => lhs; unfold quoS
            rw [if_neg (by omega), if_neg (by omega), if_neg (by omega), if_neg (by unfold badR; rw [hdc]; simp only; omega), hdc]
            simp only
            rw [hex, l2, take1 hlt]
            rfl
        · rw [if_neg hD] at hP ⊢
          exact hex_has _ k p acc (fun x hx => by
            have hx2 : x ∈ txtB u := List.mem_of_mem_drop (List.mem_of_mem_take hx)
            unfold txtB at hx2
            obtain ⟨b, _, rfl⟩ := List.mem_map.1 hx2
            have := b.toNat_lt
            omega) hP hk
      obtain ⟨k', e1, e2⟩ := key
      rw [e1, ih (pos + (Utf8.decode u pos).2) k' (p + (piece u pos).length) _ hd3 (by omega) hQ e2, List.append_assoc, ← drop_more, List.length_append]
      congr 2
      omega
    · have e : quoF u (fuel + 1) pos = [] := quoF_end u hlt
      rw [e] at h ⊢
      obtain ⟨⟨a1, b1⟩, _⟩ := h.cons
      obtain ⟨k', rfl⟩ := quo_fuel hk b1
      unfold quoS
      rw [if_pos (by omega), List.drop_eq_nil_of_le (by rw [txtB_len]; omega), List.append_nil]
      rfl
theorem txt_has {s u : ByteArray} {a : Nat} (hu : u.size ≤ 24) (h : Has s a (quoB u)) : txtS s a = .ok (mkT u, a + (quoB u).length) := by
  unfold quoB at h ⊢
  rw [List.append_assoc] at h
  obtain ⟨h1, h2⟩ := h.app
  obtain ⟨⟨_, b1⟩, _⟩ := h1.cons
  have hq := quo_has (s := s) (u := u) u.size 0 (s.size + 1) (a + 1) [] (Nat.zero_le _) (by omega) h2 (by omega)
  unfold txtS
  rw [hq]
  unfold txtOf
  simp only [List.drop_zero, List.nil_append]
  rw [if_neg (by rw [txtB_len]; omega), strOf_txt]
  simp
  omega
end Go.Proofs.YtoifpdnaeogdgabDoor
