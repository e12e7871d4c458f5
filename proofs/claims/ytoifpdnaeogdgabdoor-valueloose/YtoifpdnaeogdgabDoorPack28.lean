import Derived.Test.YtoifpdnaeogdgabDoorWhlQ
import Derived.Test.YtoifpdnaeogdgabDoorParL
import Derived.Test.YtoifpdnaeogdgabDoorPack21
import Derived.Test.YtoifpdnaeogdgabDoorPack2
namespace Go.Proofs.YtoifpdnaeogdgabDoor
open Go.RowKit
set_option maxRecDepth 8000
theorem sk_stop {s : ByteArray} {a : Nat} (h : pk s a ≠ 32) (h9 : pk s a ≠ 9) : skS s a = a := by
  unfold skS
  by_cases hl : a < s.size
  · rw [dropB_at hl, blL]
    rw [pk_at hl] at h h9
    rw [if_neg (by
      rintro (h1 | h1)
      · rw [h1] at h; exact h rfl
      · rw [h1] at h9; exact h9 rfl)]
    rfl
  · rw [dropB_end (by omega)]; rfl
theorem sk_step {s : ByteArray} {a : Nat} (h : pk s a = 32) : skS s a = skS s (a + 1) := by
  have hl : a < s.size := pk_pos (by omega)
  unfold skS
  rw [dropB_at hl, blL]
  rw [pk_at hl] at h
  rw [if_pos (Or.inl (UInt8.toNat_inj.1 (by rw [h]; rfl)))]
  omega
/-- what a printed value begins with -/
theorem pr_head {t : VT} (ht : Val t) : ∃ c r, prB t = c :: r ∧ ∃ n : Nat, c = (n : Int) ∧ begB n := by
  cases t with
  | nil => exact ht.elim
  | mk k i s n p c f =>
    obtain ⟨⟨h1, _⟩, _⟩ := ht
    obtain ⟨⟨k0, k3⟩, _⟩ := fit_facts h1
    rw [prB_eq]
    rcases (by omega : k = 0 ∨ k = 1 ∨ k = 2 ∨ k = 3) with rfl | rfl | rfl | rfl
    · exact ⟨110, _, rfl, 110, rfl, by simp [begB]⟩
    · simp only [if_true]
      unfold itoaB Go.Lib.itoa
      by_cases hneg : i < 0
      · rw [if_pos hneg]
        exact ⟨45, _, rfl, 45, rfl, by simp [begB]⟩
      · rw [if_neg hneg]
        have hd := (dec_digits i.toNat).1
        cases hc : Go.Lib.decDigits i.toNat with
        | nil =>
          have := Go.Lib.decDigits_length i.toNat
          rw [hc] at this
          have h2 : 1 ≤ Go.Lib.nDigits i.toNat := by rw [Go.Lib.nDigits]; split <;> omega
          simp at this
          omega
        | cons c r =>
          have := hd c (by rw [hc]; simp)
          exact ⟨_, _, rfl, c.toNat, rfl, by unfold begB; omega⟩
    · exact ⟨34, _, rfl, 34, rfl, by simp [begB]⟩
    · exact ⟨91, _, rfl, 91, rfl, by simp [begB]⟩
theorem beg_not {n : Nat} (h : begB n) : n ≠ 32 ∧ n ≠ 9 ∧ n ≠ 93 ∧ n ≠ 0 := by unfold begB at h; omega
/-- the items from the j-th on, m of them, and the bracket -/
def restB (f : Nat → VT) : Nat → Nat → List Int
  | _, 0 => [93]
  | j, m + 1 => [44, 32] ++ (prB (f j) ++ restB f (j + 1) m)
theorem rest_range (f : Nat → VT) : ∀ m j, 1 ≤ j → ((List.range' j m).flatMap fun j => (if 0 < j then [44, 32] else []) ++ prB (f j)) ++ [93] = restB f j m := by
  intro m
  induction m with
  | zero => intro j _; rfl
  | succ m ih =>
    intro j hj
    rw [List.range'_succ, List.flatMap_cons, restB, ← ih (j + 1) (by omega), if_pos (by omega)]
    simp [List.append_assoc]
theorem list_parts (f : Nat → VT) (m : Nat) : ((List.range (m + 1)).flatMap fun j => (if 0 < j then [44, 32] else []) ++ prB (f j)) ++ [93] = prB (f 0) ++ restB f 1 m := by
  rw [List.range_eq_range', List.range'_succ, List.flatMap_cons, ← rest_range f m 1 (Nat.le_refl _)]
  simp [List.append_assoc]
/-- a printed value is read back -/
def PReads (s : ByteArray) (t : VT) (d : Nat) (g : Nat → Nat → TR) : Prop := ∀ a q q', chk t d q = (0, q') → Has s a (prB t) → NoDig (pk s (a + (prB t).length)) → ∃ u, g a q = .ok (u, a + (prB t).length, q') ∧ VT.Alike t u
theorem lst_has {s : ByteArray} {d N : Nat} {g : Nat → Nat → TR} {f : Nat → VT} {Q : Nat → Nat} (hN : N ≤ 6) (hv : ∀ j, j < N → Val (f j)) (hg : ∀ j, j < N → PReads s (f j) (d + 1) g) (hQ : ∀ j, j < N → chk (f j) (d + 1) (Q j) = (0, Q (j + 1))) : ∀ (m j a M : Nat) (l : List VT), j + m + 1 = N → l.length = j → m + 1 ≤ M → Has s a (prB (f j) ++ restB f (j + 1) m) →
    ∃ us, lstS s g M a (Q j) l = .ok (mkL (l ++ us), a + (prB (f j) ++ restB f (j + 1) m).length, Q N) ∧ us.length = m + 1 ∧ ∀ i, i < m + 1 → VT.Alike (f (j + i)) (us.getD i .nil) := by
  intro m
  induction m with
  | zero =>
    intro j a M l hj hl hM h
    obtain ⟨M, rfl⟩ : ∃ M', M = M' + 1 := ⟨M - 1, by omega⟩
    obtain ⟨hP, hT⟩ := h.app
    rw [restB] at hT
    obtain ⟨⟨c1, b1⟩, _⟩ := hT.cons
    obtain ⟨u, e1, e2⟩ := hg j (by omega) a (Q j) (Q (j + 1)) (hQ j (by omega)) hP (by unfold NoDig; omega)
    refine ⟨[u], ?_, rfl, fun i hi => ?_⟩
    · unfold lstS
      rw [e1]
      simp only
      unfold sepS
      rw [sk_stop (by omega) (by omega), if_pos (by omega), restB, List.length_append]
      rw [show j + 1 = N by omega]
      rfl
    · obtain rfl : i = 0 := by omega
      exact e2
  | succ m ih =>
    intro j a M l hj hl hM h
    obtain ⟨M, rfl⟩ : ∃ M', M = M' + 1 := ⟨M - 1, by omega⟩
    obtain ⟨hP, hT⟩ := h.app
    rw [restB] at hT
    have hT1 : Has s (a + (prB (f j)).length) (44 :: 32 :: (prB (f (j + 1)) ++ restB f (j + 1 + 1) m)) := hT
    obtain ⟨⟨c1, b1⟩, hT⟩ := hT1.cons
    obtain ⟨⟨c2, b2⟩, hT⟩ := hT.cons
    obtain ⟨u, e1, e2⟩ := hg j (by omega) a (Q j) (Q (j + 1)) (hQ j (by omega)) hP (by unfold NoDig; omega)
    obtain ⟨us, i1, i2, i3⟩ := ih (j + 1) (a + (prB (f j)).length + 1 + 1) M (l ++ [u]) (by omega) (by simp [hl]) (by omega) hT
    obtain ⟨c, r, hpr, n, hcn, hbg⟩ := pr_head (hv (j + 1) (by omega))
    have hfirst : ((pk s (a + (prB (f j)).length + 1 + 1) : Nat) : Int) = c := (hT 0 c (by rw [hpr]; rfl)).1
    have hbn := beg_not hbg
    refine ⟨u :: us, ?_, by simp [i2], fun i hi => ?_⟩
    · unfold lstS
      rw [e1]
      simp only
      unfold sepS
      rw [sk_stop (a := a + (prB (f j)).length) (by omega) (by omega), if_neg (by omega), if_pos (by omega), if_neg (by simp [hl]; omega), sk_step (by omega), sk_stop (a := a + (prB (f j)).length + 1 + 1) (by omega) (by omega)]
      show lstS s g M (a + (prB (f j)).length + 1 + 1) (Q (j + 1)) (l ++ [u]) = _
      rw [i1, restB]
      simp only [List.append_assoc, List.cons_append, List.nil_append, List.length_append, List.length_cons]
      congr 3
      omega
    · cases i with
      | zero => exact e2
      | succ i =>
        have := i3 i (by omega)
        rw [show j + (i + 1) = j + 1 + i by omega]
        simpa using this
theorem part_has {s : ByteArray} {d : Nat} {g : Nat → Nat → TR} {t : VT} (ht : Val t) (hg : d < 3 → ∀ j, j < t.n → PReads s (t.item j) (d + 1) g) : PReads s t d (partT s g d) := by
  cases t with
  | nil => exact ht.elim
  | mk k i u N p c f =>
    intro a q q' hc h hn
    obtain ⟨hq, hf, hk3, hs, hN, hst⟩ := chk_parts hc
    obtain ⟨⟨_, _, _, hi1, hi2⟩, hval⟩ := id ht
    obtain ⟨⟨k0, k3⟩, fi, fs, fn⟩ := fit_facts hf
    obtain ⟨c0, r0, hpr, n0, hcn, hbg⟩ := pr_head ht
    have hfirst := h 0 c0 (by rw [hpr]; rfl)
    rw [Nat.add_zero] at hfirst
    simp only [VT.n_mk, VT.item_mk] at hg
    have hb0 : begB (pk s a) := by rw [show pk s a = n0 by omega]; exact hbg
    unfold partT
    rw [if_neg (by simpa using hb0), if_neg (by omega)]
    rw [prB_eq] at h hn hpr ⊢
    rcases (by omega : k = 0 ∨ k = 1 ∨ k = 2 ∨ k = 3) with rfl | rfl | rfl | rfl
    · simp only [show ¬ (0 : Int) = 1 by decide, show ¬ (0 : Int) = 2 by decide, show ¬ (0 : Int) = 3 by decide, or_false, if_false] at fi fs fn h ⊢
      subst fi fn
      have e : q' = q + 1 := by have := congrArg Prod.snd hst; simpa [stepN] using this.symm
      obtain ⟨⟨c1, _⟩, _⟩ := h.cons
      refine ⟨mkN, ?_, ⟨rfl, rfl, nil_text empty_toList fs, rfl, fun j hj => absurd hj (by omega)⟩⟩
      rw [if_pos (by omega), none_has h, e]
      rfl
    · simp only [show ¬ (1 : Int) = 2 by decide, show ¬ (1 : Int) = 3 by decide, or_false, if_true] at fs fn h hn hpr ⊢
      subst fn
      have e : q' = q + 1 := by have := congrArg Prod.snd hst; simpa [stepN] using this.symm
      refine ⟨mkI i, ?_, ⟨rfl, rfl, nil_text empty_toList fs, rfl, fun j hj => absurd hj (by omega)⟩⟩
      have hd : pk s a = 45 ∨ (48 ≤ pk s a ∧ pk s a ≤ 57) := by
        have : n0 = 45 ∨ (48 ≤ n0 ∧ n0 ≤ 57) := by
          unfold itoaB Go.Lib.itoa at hpr
          by_cases hneg : i < 0
          · rw [if_pos hneg] at hpr
            simp only [List.map_cons, List.cons.injEq] at hpr
            have h5 : ((45 : UInt8).toNat : Int) = 45 := rfl
            omega
          · rw [if_neg hneg] at hpr
            have hd := (dec_digits i.toNat).1
            cases hc2 : Go.Lib.decDigits i.toNat with
            | nil => rw [hc2] at hpr; simp at hpr
            | cons c2 r2 =>
              have := hd c2 (by rw [hc2]; simp)
              rw [hc2] at hpr
              simp only [List.map_cons, List.cons.injEq] at hpr
              omega
        omega
      rw [if_neg (by omega), if_neg (by omega), if_neg (by omega), int_has i hi1 hi2 h hn, e]
      rfl
    · simp only [show ¬ (2 : Int) = 1 by decide, show ¬ (2 : Int) = 3 by decide, or_false, if_true, if_false] at fi fn h hn hpr ⊢
      subst fi fn
      have e : q' = q + 1 := by have := congrArg Prod.snd hst; simpa [stepN] using this.symm
      have h34 : pk s a = 34 := by
        have h5 : quoB u = 34 :: (quoF u u.size 0 ++ [34]) := by simp [quoB]
        rw [h5] at h
        have := h.cons.1.1
        omega
      refine ⟨mkT u, ?_, ⟨rfl, rfl, rfl, rfl, fun j hj => absurd hj (by omega)⟩⟩
      rw [if_neg (by omega), if_pos h34, txt_has hs h, e]
      rfl
    · simp only [show ¬ (3 : Int) = 1 by decide, show ¬ (3 : Int) = 2 by decide, or_false, if_true, if_false] at fi fs h hn hpr ⊢
      subst fi
      have hd : d < 3 := by
        rcases Nat.lt_or_ge d 3 with h1 | h1
        · exact h1
        · exact absurd ⟨rfl, h1⟩ hk3
      rw [List.append_assoc] at h ⊢
      obtain ⟨h91, hr⟩ := h.app
      obtain ⟨⟨c1, b1⟩, _⟩ := h91.cons
      rw [if_neg (by omega), if_neg (by omega), if_pos (by omega)]
      unfold listS
      rw [if_neg (by omega)]
      have hone : a + [(91 : Int)].length = a + 1 := rfl
      rw [hone] at hr
      cases N with
      | zero =>
        obtain ⟨⟨c2, b2⟩, _⟩ := Has.cons (xs := []) hr
        have e : q' = q + 1 := by have := congrArg Prod.snd hst; simpa [stepN] using this.symm
        refine ⟨mkL [], ?_, ⟨rfl, rfl, nil_text empty_toList fs, rfl, fun j hj => absurd hj (by omega)⟩⟩
        rw [sk_stop (by omega) (by omega), if_pos (by omega), e]
        rfl
      | succ N =>
        rw [list_parts] at hr ⊢
        obtain ⟨c, r, hpr2, n, hcn2, hbg2⟩ := pr_head (hval 0 (by omega))
        have hf2 := hr 0 c (by rw [hpr2]; rfl)
        rw [Nat.add_zero] at hf2
        have hbn := beg_not hbg2
        rw [sk_stop (by omega) (by omega), if_neg (by omega)]
        obtain ⟨us, i1, i2, i3⟩ := lst_has (s := s) (d := d) (N := N + 1) (g := g) (f := f) (Q := fun j => (stepN (fun j m => chk (f j) (d + 1) m) (q + 1) j).2) hN hval (hg hd) (fun j hj => by
          have z1 := stepN_zero hst (show j ≤ N + 1 by omega)
          have z2 := stepN_zero hst (show j + 1 ≤ N + 1 by omega)
          rw [stepN_succ z1] at z2
          simp only [stepN_succ z1]
          exact Prod.ext z2 rfl) N 0 (a + 1) 6 [] (by omega) rfl (by omega) hr
        rw [hst] at i1
        simp only [List.nil_append] at i1
        refine ⟨mkL us, ?_, ⟨rfl, rfl, nil_text empty_toList fs, by show us.length = N + 1; exact i2, fun j hj => by have := i3 j hj; rw [Nat.zero_add] at this; exact this⟩⟩
        rw [show (stepN (fun j m => chk (f j) (d + 1) m) (q + 1) 0).2 = q + 1 from rfl] at i1
        rw [i1, List.length_append]
        congr 3
        simp
        omega
theorem par_has {s : ByteArray} : ∀ (t : VT) (d : Nat), Val t → d ≤ 3 → PReads s t d (parS s (3 - d) d) := by
  intro t
  induction t with
  | nil => intro d h; exact h.elim
  | mk k i u N p c h ih =>
    intro d hv hd
    by_cases h3 : d = 3
    · subst h3
      exact part_has hv (fun h => by omega)
    · rw [show 3 - d = (3 - (d + 1)) + 1 by omega]
      exact part_has hv (fun hd2 j hj => ih j (d + 1) (hv.2 j hj) (by omega))
/-- bytes as a text stand there -/
theorem has_strOf {zs r : List Int} (hz : ∀ x ∈ zs, 0 ≤ x ∧ x < 256) : Has (strOf (zs ++ r)) 0 zs := by
  intro j x hj
  have hl : j < zs.length := (List.getElem?_eq_some_iff.1 hj).1
  have hsz : (strOf (zs ++ r)).size = zs.length + r.length := by rw [strOf_size, List.length_append]
  have h1 : j < (strOf (zs ++ r)).size := by omega
  have hx := hz x (List.mem_of_getElem? hj)
  rw [Nat.zero_add]
  refine ⟨?_, h1⟩
  rw [pk_at h1]
  have h2 : (strOf (zs ++ r)).data.toList[j]? = some (UInt8.ofNat x.toNat) := by
    rw [strOf_datC, List.getElem?_map, List.getElem?_append_left hl, hj]
    rfl
  have h3 : (strOf (zs ++ r)).data.toList[j]? = some ((strOf (zs ++ r)).data[j]'h1) := by rw [Array.getElem?_toList]; exact Array.getElem?_eq_getElem (show j < (strOf (zs ++ r)).data.size from h1)
  rw [h3] at h2
  rw [Option.some.inj h2, UInt8.toNat_ofNat', Nat.mod_eq_of_lt (by omega)]
  omega
theorem pk_end {s : ByteArray} {a : Nat} (h : s.size ≤ a) : pk s a = 0 := by
  unfold pk
  rw [Array.getElem?_eq_none (show s.data.size ≤ a from h)]
  rfl
/-- what is printed is read back, the whole of it -/
theorem parse_print {t : VT} (ht : Val t) {q' : Nat} (hc : chk t 0 0 = (0, q')) (hb : ∀ x ∈ prB t, 0 ≤ x ∧ x < 256) : ∃ u, parseS (strOf (prB t)) = .ok (u, (strOf (prB t)).size) ∧ VT.Alike t u := by
  have hH : Has (strOf (prB t)) 0 (prB t) := by have := has_strOf (r := []) hb; rw [List.append_nil] at this; exact this
  have hsz : (strOf (prB t)).size = (prB t).length := strOf_size _
  obtain ⟨u, e1, e2⟩ := par_has (s := strOf (prB t)) t 0 ht (by omega) 0 0 q' hc hH (by rw [Nat.zero_add, pk_end (by omega)]; unfold NoDig; omega)
  obtain ⟨c, r, hpr, n, hcn, hbg⟩ := pr_head ht
  have hbn := beg_not hbg
  have hf := hH 0 c (by rw [hpr]; rfl)
  rw [Nat.add_zero] at hf
  have hbl : blL (strOf (prB t)).data.toList = 0 := by
    have h0 := sk_stop (s := strOf (prB t)) (a := 0) (by omega) (by omega)
    unfold skS at h0
    rw [List.drop_zero] at h0
    omega
  refine ⟨u, ?_, e2⟩
  unfold parseS
  rw [hbl]
  have htl : tl (strOf (prB t)) 0 = strOf (prB t) := bytes_ext (by rw [tl_list, List.drop_zero])
  rw [htl]
  have e1' : parS (strOf (prB t)) 3 0 0 0 = .ok (u, 0 + (prB t).length, q') := e1
  rw [e1']
  unfold endS
  simp only [Nat.zero_add]
  rw [sk_stop (by rw [pk_end (by omega)]; omega) (by rw [pk_end (by omega)]; omega), if_neg (by omega), hsz]
theorem lead_print {t : VT} (ht : Val t) {q' : Nat} (hc : chk t 0 0 = (0, q')) (hb : ∀ x ∈ prB t, 0 ≤ x ∧ x < 256) : ∃ u, parS (strOf (prB t ++ [44])) 3 0 0 0 = .ok (u, (prB t).length, q') ∧ VT.Alike t u := by
  have hH : Has (strOf (prB t ++ [44])) 0 (prB t ++ [44]) := by
    have := has_strOf (zs := prB t ++ [44]) (r := []) (fun x hx => by
      rcases List.mem_append.1 hx with h | h
      · exact hb x h
      · simp at h; omega)
    rw [List.append_nil] at this; exact this
  obtain ⟨h1, h2⟩ := hH.app
  obtain ⟨⟨c1, _⟩, _⟩ := h2.cons
  obtain ⟨u, e1, e2⟩ := par_has (s := strOf (prB t ++ [44])) t 0 ht (by omega) 0 0 q' hc h1 (by unfold NoDig; omega)
  rw [Nat.zero_add] at e1
  exact ⟨u, e1, e2⟩
end Go.Proofs.YtoifpdnaeogdgabDoor

namespace Go.Proofs.YtoifpdnaeogdgabDoor
open Go.RowKit
set_option maxRecDepth 8000
/-- bytes, all of them -/
def BtW (l : List Int) : Prop := ∀ x ∈ l, 0 ≤ x ∧ x < 256
theorem BtW.app {a b : List Int} (ha : BtW a) (hb : BtW b) : BtW (a ++ b) := fun x hx => (List.mem_append.1 hx).elim (ha x) (hb x)
theorem txt_btW (s : ByteArray) : BtW (txtB s) := txt_range s
theorem hexd_btW (d : Nat) (h : d < 16) : 0 ≤ hexd d ∧ hexd d < 256 := by unfold hexd; split <;> omega
theorem hexB_btW (l : List Int) : (∀ x ∈ l, 0 ≤ x ∧ x < 256) → BtW (hexB l) := by
  intro h x hx
  obtain ⟨b, hb, hx⟩ := List.mem_flatMap.1 hx
  have h1 := h b hb
  have e1 := hexd_btW (b.toNat / 16) (by omega)
  have e2 := hexd_btW (b.toNat % 16) (by omega)
  simp only [List.mem_cons, List.not_mem_nil, or_false] at hx
  rcases hx with rfl | rfl | rfl | rfl <;> omega
theorem piece_btW (s : ByteArray) (a : Nat) : BtW (piece s a) := by
  unfold piece
  split
  · rename_i h
    intro x hx
    simp only [List.mem_cons, List.not_mem_nil, or_false] at hx
    omega
  split
  · intro x hx; simp only [List.mem_cons, List.not_mem_nil, or_false] at hx; omega
  split
  · intro x hx; simp only [List.mem_cons, List.not_mem_nil, or_false] at hx; omega
  split
  · exact txt_btW _
  · exact hexB_btW _ fun x hx => txt_range s x (List.mem_of_mem_drop (List.mem_of_mem_take hx))
theorem quoF_btW (s : ByteArray) : ∀ k a, BtW (quoF s k a) := by
  intro k
  induction k with
  | zero => intro a x hx; cases hx
  | succ k ih =>
    intro a
    rw [quoF]
    split
    · exact (piece_btW s a).app (ih _)
    · intro x hx; cases hx
theorem pr_btW : ∀ t : VT, BtW (prB t) := by
  intro t
  have n4 : BtW [110, 111, 110, 101] := by intro x hx; simp only [List.mem_cons, List.not_mem_nil, or_false] at hx; omega
  induction t with
  | nil => exact n4
  | mk k i s n p c f ih =>
    rw [prB_eq]
    split
    · intro x hx
      unfold itoaB at hx
      obtain ⟨b, _, rfl⟩ := List.mem_map.1 hx
      have := b.toNat_lt
      omega
    · split
      · rw [quoB]
        refine BtW.app (BtW.app ?_ (quoF_btW s _ _)) ?_
        all_goals (intro x hx; simp only [List.mem_cons, List.not_mem_nil, or_false] at hx; omega)
      · split
        · refine BtW.app (BtW.app ?_ ?_) ?_
          · intro x hx; simp only [List.mem_cons, List.not_mem_nil, or_false] at hx; omega
          · intro x hx
            obtain ⟨j, _, hx⟩ := List.mem_flatMap.1 hx
            rcases List.mem_append.1 hx with hx | hx
            · split at hx
              · simp only [List.mem_cons, List.not_mem_nil, or_false] at hx; omega
              · cases hx
            · exact ih j x hx
          · intro x hx; simp only [List.mem_cons, List.not_mem_nil, or_false] at hx; omega
        · exact n4
/-- alike values stand together -/
theorem compare_self (l : List UInt8) : Go.Lib.compareBytes l l = 0 := by
  induction l with
  | nil => rfl
  | cons a l ih =>
    unfold Go.Lib.compareBytes
    rw [if_neg (UInt8.lt_irrefl a), if_neg (UInt8.lt_irrefl a)]
    exact ih
theorem ord_alike : ∀ t u : VT, VT.Alike t u → ordV t u = 0 := by
  intro t
  induction t with
  | nil => intro u _; rfl
  | mk k i s n p c f ih =>
    intro u h
    obtain ⟨h1, h2, h3, h4, h5⟩ := h
    rw [ordV_eq, h1, h2, h3, h4]
    have z : ∀ m, m ≤ n → firstN (fun j => ordV (f j) (u.item j)) m = 0 := by
      intro m
      induction m with
      | zero => intro _; rfl
      | succ m ihm => intro hm; rw [firstN_succ (ihm (by omega))]; exact ih m _ (h5 m (by omega))
    have c0 : ∀ x : Int, cmpI x x = 0 := fun x => by unfold cmpI; rw [if_neg (by omega), if_neg (by omega)]
    rw [if_neg (by simp)]
    split
    · exact c0 i
    split
    · exact compare_self _
    · rw [z _ (by omega), if_neg (by simp)]
      exact c0 _
end Go.Proofs.YtoifpdnaeogdgabDoor

namespace Go.Proofs.YtoifpdnaeogdgabDoor
open Go.RowKit
set_option maxRecDepth 8000
/-- blanks alone -/
def Blank (zs : List Int) : Prop := ∀ x ∈ zs, x = 32 ∨ x = 9
theorem Blank.app {a b : List Int} (ha : Blank a) (hb : Blank b) : Blank (a ++ b) := fun x hx => (List.mem_append.1 hx).elim (ha x) (hb x)
/-- a digit of sixteen, small or great -/
def HexC (x : Int) (d : Nat) : Prop := ∃ n : Nat, x = (n : Int) ∧ hexS n = some d ∧ n < 256
/-- a text's bytes, one by one: as they stand, or by their digits -/
inductive LooseQ : List Int → List Int → Prop where
  | nil : LooseQ [] []
  | raw {x : Int} {r t : List Int} (h1 : 32 ≤ x) (h2 : x ≤ 126) (h3 : x ≠ 34) (h4 : x ≠ 92) (h : LooseQ r t) : LooseQ (x :: r) (x :: t)
  | hex {x a b : Int} {r t : List Int} (h1 : 0 ≤ x) (h2 : x < 256) (h3 : HexC a (x.toNat / 16)) (h4 : HexC b (x.toNat % 16)) (h : LooseQ r t) : LooseQ (x :: r) (92 :: 120 :: a :: b :: t)
theorem LooseQ.app {a s b t : List Int} (h : LooseQ a s) (k : LooseQ b t) : LooseQ (a ++ b) (s ++ t) := by
  induction h with
  | nil => exact k
  | raw h1 h2 h3 h4 _ ih => exact .raw h1 h2 h3 h4 ih
  | hex h1 h2 h3 h4 _ ih => exact .hex h1 h2 h3 h4 ih
/-- the items of a list behind the first, and the bracket -/
def restL (R : Nat → List Int → Prop) : Nat → Nat → List Int → Prop
  | _, 0, zs => ∃ b, Blank b ∧ zs = b ++ [93]
  | j, m + 1, zs => ∃ b1 b2 c r, Blank b1 ∧ Blank b2 ∧ R j c ∧ restL R (j + 1) m r ∧ zs = b1 ++ (44 :: (b2 ++ (c ++ r)))
/-- the text of a value, loosely -/
def looseT : VT → List Int → Prop
  | .nil, _ => False
  | .mk k i s n _ _ f, zs => if k = 1 then zs = itoaB i else if k = 2 then ∃ t, LooseQ (txtB s) t ∧ zs = 34 :: (t ++ [34]) else if k = 3 then
      (n = 0 ∧ ∃ b, Blank b ∧ zs = 91 :: (b ++ [93])) ∨ (0 < n ∧ ∃ b c0 r, Blank b ∧ looseT (f 0) c0 ∧ restL (fun j c => looseT (f j) c) 1 (n - 1) r ∧ zs = 91 :: (b ++ (c0 ++ r))) else zs = [110, 111, 110, 101]
theorem looseT_eq (k i : Int) (s : ByteArray) (n : Nat) (p : Option Addr) (c : Nat) (f : Nat → VT) (zs : List Int) : looseT (.mk k i s n p c f) zs = (if k = 1 then zs = itoaB i else if k = 2 then ∃ t, LooseQ (txtB s) t ∧ zs = 34 :: (t ++ [34]) else if k = 3 then
      (n = 0 ∧ ∃ b, Blank b ∧ zs = 91 :: (b ++ [93])) ∨ (0 < n ∧ ∃ b c0 r, Blank b ∧ looseT (f 0) c0 ∧ restL (fun j c => looseT (f j) c) 1 (n - 1) r ∧ zs = 91 :: (b ++ (c0 ++ r))) else zs = [110, 111, 110, 101]) := rfl
/-- the text of the first j items -/
def accL (R : Nat → List Int → Prop) : Nat → List Int → Prop
  | 0, zs => zs = []
  | j + 1, zs => ∃ a c, accL R j a ∧ R j c ∧ ((j = 0 ∧ zs = a ++ c) ∨ (0 < j ∧ ∃ b1 b2, Blank b1 ∧ Blank b2 ∧ zs = a ++ (b1 ++ (44 :: (b2 ++ c)))))
theorem acc_rest {R : Nat → List Int → Prop} : ∀ (j m : Nat) (zs r : List Int), accL R (j + 1) zs → restL R (j + 1) m r → ∃ c0 r', R 0 c0 ∧ restL R 1 (m + j) r' ∧ zs ++ r = c0 ++ r' := by
  intro j
  induction j with
  | zero =>
    intro m zs r h hr
    obtain ⟨a, c, ha, hc, ⟨_, he⟩ | ⟨h0, _⟩⟩ := h
    · have ha' : a = [] := ha
      exact ⟨c, r, hc, hr, by rw [he, ha']; rfl⟩
    · exact absurd h0 (Nat.lt_irrefl _)
  | succ j ih =>
    intro m zs r h hr
    obtain ⟨a, c, ha, hc, ⟨h0, _⟩ | ⟨_, b1, b2, hb1, hb2, he⟩⟩ := h
    · omega
    · obtain ⟨c0, r', h1, h2, h3⟩ := ih (m + 1) a (b1 ++ (44 :: (b2 ++ (c ++ r)))) ha ⟨b1, b2, c, r, hb1, hb2, hc, hr, rfl⟩
      refine ⟨c0, r', h1, by rw [show m + (j + 1) = m + 1 + j by omega]; exact h2, ?_⟩
      rw [← h3, he]
      simp [List.append_assoc]

theorem hexS_of {x : Int} {d : Nat} (h : HexC x d) {c : Nat} (hc : (c : Int) = x) : hexS c = some d := by
  obtain ⟨n, h1, h2, _⟩ := h
  rw [show c = n by omega]; exact h2
/-- a loose text is read back -/
theorem quo_loose {s : ByteArray} {l t : List Int} (h : LooseQ l t) : ∀ (k p : Nat) (acc : List Int), Has s p (t ++ [34]) → s.size < p + k → quoS s k p acc = .ok (acc ++ l, p + t.length + 1) := by
  induction h with
  | nil =>
    intro k p acc h hk
    obtain ⟨⟨a1, b1⟩, _⟩ := Has.cons (xs := []) h
    obtain ⟨k', rfl⟩ := quo_fuel hk b1
    unfold quoS
    rw [if_pos (by omega), List.append_nil]
    rfl
  | @raw x r t h1 h2 h3 h4 _ ih =>
    intro k p acc h hk
    obtain ⟨⟨a1, b1⟩, h'⟩ := Has.cons (xs := t ++ [34]) h
    obtain ⟨k', rfl⟩ := quo_fuel hk b1
    have hdc : Utf8.decode s p = (pk s p, 1) := by
      rw [Go.Lib.decode_at, get_pk b1]
      unfold Go.Lib.decodeN
      rw [if_pos (by omega)]
    have hex : txtB (s.extract p (p + 1)) = [x] := by
      rw [txt_cut, Nat.add_sub_cancel_left, take1 b1, get_pk b1, a1]
    conv => lhs; unfold quoS
    rw [if_neg (by omega), if_neg (by omega), if_neg (by omega), if_neg (by unfold badR; rw [hdc]; simp only; omega), hdc]
    simp only
    rw [hex, ih k' (p + 1) (acc ++ [x]) h' (by omega), List.append_assoc, List.length_cons]
    congr 2
    omega
  | @hex x a b r t h1 h2 h3 h4 _ ih =>
    intro k p acc h hk
    obtain ⟨⟨a1, b1⟩, h⟩ := Has.cons (xs := 120 :: a :: b :: (t ++ [34])) h
    obtain ⟨⟨a2, b2⟩, h⟩ := h.cons
    obtain ⟨⟨a3, b3⟩, h⟩ := h.cons
    obtain ⟨⟨a4, b4⟩, h⟩ := h.cons
    obtain ⟨k', rfl⟩ := quo_fuel hk b1
    have hes : escS s p = .ok (x.toNat, p + 4) := by
      unfold escS
      rw [if_neg (by omega), if_neg (by omega), if_neg (by omega), if_pos (by omega), hexS_of h3 a3]
      simp only
      rw [show p + 3 = p + 1 + 1 + 1 by omega, hexS_of h4 a4]
      simp only
      congr 2
      omega
    conv => lhs; unfold quoS
    rw [if_neg (by omega), if_pos (by omega), hes]
    simp only
    rw [show ((x.toNat : Nat) : Int) = x by omega, ih k' (p + 4) (acc ++ [x]) h (by omega), List.append_assoc]
    simp only [List.length_cons]
    congr 2
    omega
theorem txt_loose {s u : ByteArray} {a : Nat} {t : List Int} (hu : u.size ≤ 24) (hq : LooseQ (txtB u) t) (h : Has s a (34 :: (t ++ [34]))) : txtS s a = .ok (mkT u, a + (34 :: (t ++ [34])).length) := by
  obtain ⟨⟨_, b1⟩, h2⟩ := h.cons
  have hq := quo_loose hq (s.size + 1) (a + 1) [] h2 (by omega)
  unfold txtS
  rw [hq]
  unfold txtOf
  simp only [List.nil_append]
  rw [if_neg (by rw [txtB_len]; omega), strOf_txt]
  simp
  omega
theorem sk_blank {s : ByteArray} : ∀ (b : List Int) (a : Nat), Blank b → Has s a b → pk s (a + b.length) ≠ 32 → pk s (a + b.length) ≠ 9 → skS s a = a + b.length := by
  intro b
  induction b with
  | nil => intro a _ _ h1 h2; exact sk_stop h1 h2
  | cons x b ih =>
    intro a hb h h1 h2
    obtain ⟨⟨a1, b1⟩, h'⟩ := h.cons
    have e := ih (a + 1) (fun y hy => hb y (by simp [hy])) h' (by rw [List.length_cons] at h1; rw [show a + 1 + b.length = a + (b.length + 1) by omega]; exact h1) (by rw [List.length_cons] at h2; rw [show a + 1 + b.length = a + (b.length + 1) by omega]; exact h2)
    have hx := hb x (by simp)
    have hs : skS s a = skS s (a + 1) := by
      rcases hx with hx | hx
      · exact sk_step (by omega)
      · have hl : a < s.size := b1
        unfold skS
        rw [dropB_at hl, blL]
        have h9 : pk s a = 9 := by omega
        rw [pk_at hl] at h9
        rw [if_pos (Or.inr (UInt8.toNat_inj.1 (by rw [h9]; rfl)))]
        omega
    rw [hs, e, List.length_cons]
    omega
theorem loose_head {t : VT} (ht : Val t) {zs : List Int} (h : looseT t zs) : ∃ c r, zs = c :: r ∧ ∃ n : Nat, c = (n : Int) ∧ begB n := by
  cases t with
  | nil => exact ht.elim
  | mk k i s n p c f =>
    rw [looseT_eq] at h
    split at h
    · rename_i hk
      have h1 := pr_head ht
      rw [prB_eq, if_pos hk] at h1
      rw [h]; exact h1
    split at h
    · obtain ⟨t, _, rfl⟩ := h
      exact ⟨34, _, rfl, 34, rfl, by simp [begB]⟩
    split at h
    · rcases h with ⟨_, b, _, rfl⟩ | ⟨_, b, c0, r, _, _, _, rfl⟩
      · exact ⟨91, _, rfl, 91, rfl, by simp [begB]⟩
      · exact ⟨91, _, rfl, 91, rfl, by simp [begB]⟩
    · exact ⟨110, _, h, 110, rfl, by simp [begB]⟩
/-- a loose text is read back -/
def LReads (s : ByteArray) (t : VT) (d : Nat) (g : Nat → Nat → TR) : Prop := ∀ a q q' zs, chk t d q = (0, q') → looseT t zs → Has s a zs → NoDig (pk s (a + zs.length)) → ∃ u, g a q = .ok (u, a + zs.length, q') ∧ VT.Alike t u
theorem blank_nodig {s : ByteArray} {a : Nat} {b : List Int} {c : Int} {r : List Int} (hb : Blank b) (h : Has s a (b ++ c :: r)) (hc : c = 93 ∨ c = 44) : NoDig (pk s a) ∧ skS s a = a + b.length := by
  obtain ⟨h1, h2⟩ := h.app
  obtain ⟨⟨c1, _⟩, _⟩ := h2.cons
  refine ⟨?_, sk_blank b a hb h1 (by omega) (by omega)⟩
  cases b with
  | nil =>
    simp only [List.length_nil, Nat.add_zero] at c1
    unfold NoDig; omega
  | cons x b =>
    have hx := hb x (by simp)
    have := h1.cons.1.1
    unfold NoDig; omega
theorem lst_loose {s : ByteArray} {d N : Nat} {g : Nat → Nat → TR} {f : Nat → VT} {Q : Nat → Nat} (hN : N ≤ 6) (hv : ∀ j, j < N → Val (f j)) (hg : ∀ j, j < N → LReads s (f j) (d + 1) g) (hQ : ∀ j, j < N → chk (f j) (d + 1) (Q j) = (0, Q (j + 1))) : ∀ (m j a M : Nat) (l : List VT) (c r : List Int), j + m + 1 = N → l.length = j → m + 1 ≤ M → looseT (f j) c → restL (fun j c => looseT (f j) c) (j + 1) m r → Has s a (c ++ r) →
    ∃ us, lstS s g M a (Q j) l = .ok (mkL (l ++ us), a + (c ++ r).length, Q N) ∧ us.length = m + 1 ∧ ∀ i, i < m + 1 → VT.Alike (f (j + i)) (us.getD i .nil) := by
  intro m
  induction m with
  | zero =>
    intro j a M l c r hj hl hM hc hr h
    obtain ⟨M, rfl⟩ : ∃ M', M = M' + 1 := ⟨M - 1, by omega⟩
    obtain ⟨hP, hT⟩ := h.app
    obtain ⟨b, hb, rfl⟩ := hr
    obtain ⟨nd, sk⟩ := blank_nodig hb hT (.inl rfl)
    obtain ⟨⟨c1, _⟩, _⟩ := hT.app.2.cons
    obtain ⟨u, e1, e2⟩ := hg j (by omega) a (Q j) (Q (j + 1)) c (hQ j (by omega)) hc hP nd
    refine ⟨[u], ?_, rfl, fun i hi => ?_⟩
    · unfold lstS
      rw [e1]
      simp only
      unfold sepS
      rw [sk, if_pos (by omega)]
      simp only [List.length_append, List.length_cons, List.length_nil]
      rw [show j + 1 = N by omega]
      congr 3
      omega
    · obtain rfl : i = 0 := by omega
      exact e2
  | succ m ih =>
    intro j a M l c r hj hl hM hc hr h
    obtain ⟨M, rfl⟩ : ∃ M', M = M' + 1 := ⟨M - 1, by omega⟩
    obtain ⟨hP, hT⟩ := h.app
    obtain ⟨b1, b2, c', r', hb1, hb2, hc', hr', rfl⟩ := hr
    obtain ⟨nd, sk⟩ := blank_nodig hb1 hT (.inr rfl)
    obtain ⟨hT1, hT2⟩ := hT.app
    obtain ⟨⟨c1, b1'⟩, hT3⟩ := hT2.cons
    obtain ⟨hT4, hT5⟩ := hT3.app
    obtain ⟨u, e1, e2⟩ := hg j (by omega) a (Q j) (Q (j + 1)) c (hQ j (by omega)) hc hP nd
    obtain ⟨us, i1, i2, i3⟩ := ih (j + 1) (a + c.length + b1.length + 1 + b2.length) M (l ++ [u]) c' r' (by omega) (by simp [hl]) (by omega) hc' hr' hT5
    obtain ⟨x, y, hxy, n, hcn, hbg⟩ := loose_head (hv (j + 1) (by omega)) hc'
    have hfirst : ((pk s (a + c.length + b1.length + 1 + b2.length) : Nat) : Int) = x := (hT5 0 x (by rw [hxy]; rfl)).1
    have hbn := beg_not hbg
    have sk2 := sk_blank b2 (a + c.length + b1.length + 1) hb2 hT4 (by omega) (by omega)
    refine ⟨u :: us, ?_, by simp [i2], fun i hi => ?_⟩
    · unfold lstS
      rw [e1]
      simp only
      unfold sepS
      rw [sk, if_neg (by omega), if_pos (by omega), if_neg (by simp [hl]; omega), sk2]
      show lstS s g M (a + c.length + b1.length + 1 + b2.length) (Q (j + 1)) (l ++ [u]) = _
      rw [i1]
      simp only [List.append_assoc, List.cons_append, List.nil_append, List.length_append, List.length_cons]
      congr 3
      omega
    · cases i with
      | zero => exact e2
      | succ i =>
        have := i3 i (by omega)
        rw [show j + (i + 1) = j + 1 + i by omega]
        simpa using this
theorem part_loose {s : ByteArray} {d : Nat} {g : Nat → Nat → TR} {t : VT} (ht : Val t) (hg : d < 3 → ∀ j, j < t.n → LReads s (t.item j) (d + 1) g) : LReads s t d (partT s g d) := by
  cases t with
  | nil => exact ht.elim
  | mk k i u N p c f =>
    intro a q q' zs hc hz h hn
    obtain ⟨hq, hf, hk3, hs, hN, hst⟩ := chk_parts hc
    obtain ⟨⟨_, _, _, hi1, hi2⟩, hval⟩ := id ht
    obtain ⟨⟨k0, k3⟩, fi, fs, fn⟩ := fit_facts hf
    rcases (by omega : k = 0 ∨ k = 1 ∨ k = 2 ∨ k = 3) with rfl | rfl | rfl | rfl
    · have he : zs = prB (.mk 0 i u N p c f) := by rw [looseT_eq] at hz; rw [prB_eq]; simpa using hz
      subst he
      exact part_has (g := g) ht (fun hd j hj => by simp only [VT.n_mk] at hj; simp at fn; omega) a q q' hc h hn
    · have he : zs = prB (.mk 1 i u N p c f) := by rw [looseT_eq] at hz; rw [prB_eq]; simpa using hz
      subst he
      exact part_has (g := g) ht (fun hd j hj => by simp only [VT.n_mk] at hj; simp at fn; omega) a q q' hc h hn
    · rw [looseT_eq] at hz
      simp only [show ¬ (2 : Int) = 1 by decide, show ¬ (2 : Int) = 3 by decide, or_false, if_true, if_false] at fi fn hz
      subst fi fn
      obtain ⟨t, hq2, rfl⟩ := hz
      obtain ⟨⟨c1, _⟩, _⟩ := h.cons
      have e : q' = q + 1 := by have := congrArg Prod.snd hst; simpa [stepN] using this.symm
      refine ⟨mkT u, ?_, ⟨rfl, rfl, rfl, rfl, fun j hj => absurd hj (by omega)⟩⟩
      unfold partT
      rw [if_neg (by unfold begB; omega), if_neg (by omega), if_neg (by omega), if_pos (by omega), txt_loose hs hq2 h, e]
      rfl
    · rw [looseT_eq] at hz
      simp only [show ¬ (3 : Int) = 1 by decide, show ¬ (3 : Int) = 2 by decide, or_false, if_true, if_false] at fi fs hz
      subst fi
      simp only [VT.n_mk, VT.item_mk] at hg
      have hd : d < 3 := by
        rcases Nat.lt_or_ge d 3 with h1 | h1
        · exact h1
        · exact absurd ⟨rfl, h1⟩ hk3
      have h91 : pk s a = 91 := by
        rcases hz with ⟨_, b, _, rfl⟩ | ⟨_, b, c0, r, _, _, _, rfl⟩
        · have := h.cons.1.1; omega
        · have := h.cons.1.1; omega
      unfold partT
      rw [if_neg (by unfold begB; omega), if_neg (by omega), if_neg (by omega), if_neg (by omega), if_pos h91]
      unfold listS
      rw [if_neg (by omega)]
      rcases hz with ⟨rfl, b, hb, rfl⟩ | ⟨h0, b, c0, r, hb, hc0, hr, rfl⟩
      · obtain ⟨_, hr⟩ := h.cons
        obtain ⟨_, sk⟩ := blank_nodig hb hr (.inl rfl)
        obtain ⟨⟨c2, _⟩, _⟩ := hr.app.2.cons
        have e : q' = q + 1 := by have := congrArg Prod.snd hst; simpa [stepN] using this.symm
        refine ⟨mkL [], ?_, ⟨rfl, rfl, nil_text empty_toList fs, rfl, fun j hj => absurd hj (by omega)⟩⟩
        rw [sk, if_pos (by omega), e]
        simp only [List.length_append, List.length_cons, List.length_nil]
        congr 3
        omega
      · obtain ⟨N, rfl⟩ : ∃ N', N = N' + 1 := ⟨N - 1, by omega⟩
        obtain ⟨_, hr1⟩ := h.cons
        obtain ⟨hb1, hr2⟩ := hr1.app
        obtain ⟨x, y, hxy, n, hcn, hbg⟩ := loose_head (hval 0 (by omega)) hc0
        have hfirst : ((pk s (a + 1 + b.length) : Nat) : Int) = x := (hr2 0 x (by rw [hxy]; rfl)).1
        have hbn := beg_not hbg
        have sk := sk_blank b (a + 1) hb hb1 (by omega) (by omega)
        rw [sk, if_neg (by omega)]
        obtain ⟨us, i1, i2, i3⟩ := lst_loose (s := s) (d := d) (N := N + 1) (g := g) (f := f) (Q := fun j => (stepN (fun j m => chk (f j) (d + 1) m) (q + 1) j).2) hN hval (hg hd) (fun j hj => by
          have z1 := stepN_zero hst (show j ≤ N + 1 by omega)
          have z2 := stepN_zero hst (show j + 1 ≤ N + 1 by omega)
          rw [stepN_succ z1] at z2
          simp only [stepN_succ z1]
          exact Prod.ext z2 rfl) N 0 (a + 1 + b.length) 6 [] c0 r (by omega) rfl (by omega) hc0 hr hr2
        rw [hst] at i1
        simp only [List.nil_append] at i1
        refine ⟨mkL us, ?_, ⟨rfl, rfl, nil_text empty_toList fs, by show us.length = N + 1; exact i2, fun j hj => by have := i3 j hj; rw [Nat.zero_add] at this; exact this⟩⟩
        rw [show (stepN (fun j m => chk (f j) (d + 1) m) (q + 1) 0).2 = q + 1 from rfl] at i1
        rw [i1]
        simp only [List.length_append, List.length_cons]
        congr 3
        omega
theorem par_loose {s : ByteArray} : ∀ (t : VT) (d : Nat), Val t → d ≤ 3 → LReads s t d (parS s (3 - d) d) := by
  intro t
  induction t with
  | nil => intro d h; exact h.elim
  | mk k i u N p c h ih =>
    intro d hv hd
    by_cases h3 : d = 3
    · subst h3
      exact part_loose hv (fun h => by omega)
    · rw [show 3 - d = (3 - (d + 1)) + 1 by omega]
      exact part_loose hv (fun hd2 j hj => ih j (d + 1) (hv.2 j hj) (by omega))
end Go.Proofs.YtoifpdnaeogdgabDoor
