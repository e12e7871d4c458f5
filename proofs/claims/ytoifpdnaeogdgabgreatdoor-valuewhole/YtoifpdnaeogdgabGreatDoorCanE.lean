import Derived.Test.YtoifpdnaeogdgabGreatDoorPack19
namespace Go.Proofs.YtoifpdnaeogdgabGreatDoor
open Go.RowKit
set_option maxRecDepth 8000

theorem chk_parts {k i : Int} {s : ByteArray} {n : Nat} {p : Option Addr} {c : Nat} {f : Nat → VT} {d q q' : Nat} (h : chk (.mk k i s n p c f) d q = (0, q')) :
    q < 12 ∧ fitB k i s n = true ∧ ¬ (k = 3 ∧ 3 ≤ d) ∧ s.size ≤ 24 ∧ n ≤ 6 ∧ stepN (fun j m => chk (f j) (d + 1) m) (q + 1) n = (0, q') := by
  rw [chk_eq] at h
  by_cases h1 : 12 ≤ q
  · rw [if_pos h1] at h; simp at h
  rw [if_neg h1] at h
  by_cases h2 : fitB k i s n = false
  · rw [if_pos h2] at h; simp at h
  rw [if_neg h2] at h
  by_cases h3 : k = 3 ∧ 3 ≤ d
  · rw [if_pos h3] at h; simp at h
  rw [if_neg h3] at h
  by_cases h4 : 24 < s.size
  · rw [if_pos h4] at h; simp at h
  rw [if_neg h4] at h
  by_cases h5 : 6 < n
  · rw [if_pos h5] at h; simp at h
  rw [if_neg h5] at h
  exact ⟨by omega, by simpa using h2, h3, by omega, by omega, h⟩
/-- the bytes of the first m items -/
def encN (f : Nat → VT) (m : Nat) : List Int := (List.range m).flatMap fun j => encB (f j)
theorem encN_succ (f : Nat → VT) (m : Nat) : encN f (m + 1) = encN f m ++ encB (f m) := by
  unfold encN
  rw [List.range_succ, List.flatMap_append]
  simp
theorem encN_pre (f : Nat → VT) {k N : Nat} (hk : k ≤ N) : ∃ r, encN f N = encN f k ++ r := by
  obtain ⟨e, rfl⟩ : ∃ e, N = k + e := ⟨N - k, by omega⟩
  clear hk
  induction e with
  | zero => exact ⟨[], by simp⟩
  | succ e ihe =>
    obtain ⟨r, hr⟩ := ihe
    exact ⟨r ++ encB (f (k + e)), by rw [← Nat.add_assoc, encN_succ, hr, List.append_assoc]⟩
theorem empty_toList : (⟨#[]⟩ : ByteArray).toList = [] := by rw [Go.Lib.toList_data]
theorem enc_pos (t : VT) : 0 < (encB t).length := by
  cases t with
  | nil => simp [encB]
  | mk k i s n p c f => rw [encB_eq]; simp
/-- what reading makes of a valid value's bytes, whole or cut -/
def Reads (f : Nat → Int) (n : Nat) (t : VT) (d : Nat) (g : Nat → Nat → DR) : Prop := ∀ a q q', chk t d q = (0, q') → (∀ j x, (encB t)[j]? = some x → f (a + j) = x) →
  (a + (encB t).length ≤ n → ∃ u, g a q = .ok (u, a + (encB t).length, q') ∧ VT.Alike t u) ∧ (n < a + (encB t).length → g a q = .error 28)
theorem stepN_zero {g : Nat → Nat → Nat × Nat} {m n q' : Nat} (h : stepN g m n = (0, q')) {j : Nat} (hj : j ≤ n) : (stepN g m j).1 = 0 := by
  by_cases hz : (stepN g m j).1 = 0
  · exact hz
  · have := stepN_stuck hj hz
    rw [this] at h
    rw [h] at hz
    exact absurd rfl hz
theorem items_read {f : Nat → Int} {n d : Nat} {g : Nat → Nat → DR} {h : Nat → VT} {N : Nat} (hg : ∀ j, j < N → Reads f n (h j) (d + 1) g) (a q : Nat) (hq : ∀ j, j ≤ N → (stepN (fun j m => chk (h j) (d + 1) m) q j).1 = 0)
    (hb : ∀ j x, (encN h N)[j]? = some x → f (a + j) = x) : ∀ m, m ≤ N →
    (a + (encN h m).length ≤ n → ∃ l, itemsS g m a q = .ok (l, a + (encN h m).length, (stepN (fun j m => chk (h j) (d + 1) m) q m).2) ∧ l.length = m ∧ ∀ j, j < m → VT.Alike (h j) (l.getD j .nil)) ∧ (n < a + (encN h m).length → a ≤ n → itemsS g m a q = .error 28) := by
  intro m
  induction m with
  | zero => intro _; exact ⟨fun _ => ⟨[], rfl, rfl, fun j hj => absurd hj (by omega)⟩, fun h1 h2 => by simp [encN] at h1; omega⟩
  | succ m ih =>
    intro hm
    obtain ⟨ih1, ih2⟩ := ih (by omega)
    obtain ⟨r, hr⟩ := encN_pre h hm
    have hbm : ∀ j x, (encB (h m))[j]? = some x → f (a + (encN h m).length + j) = x := by
      intro j x hj
      rw [Nat.add_assoc]
      apply hb
      rw [hr, encN_succ, List.append_assoc, List.getElem?_append_right (by omega), Nat.add_sub_cancel_left]
      have hlt : j < (encB (h m)).length := by
        rcases Nat.lt_or_ge j (encB (h m)).length with h1 | h1
        · exact h1
        · rw [List.getElem?_eq_none h1] at hj; cases hj
      rw [List.getElem?_append_left hlt]
      exact hj
    have hz := hq (m + 1) hm
    rw [stepN_succ (hq m (by omega))] at hz
    obtain ⟨q2, hq2⟩ : ∃ q2, chk (h m) (d + 1) (stepN (fun j m => chk (h j) (d + 1) m) q m).2 = (0, q2) := ⟨_, Prod.ext hz rfl⟩
    have hG := hg m (by omega) (a + (encN h m).length) _ q2 hq2 hbm
    have hst : (stepN (fun j m => chk (h j) (d + 1) m) q (m + 1)).2 = q2 := by rw [stepN_succ (hq m (by omega)), hq2]
    have hl : (encN h (m + 1)).length = (encN h m).length + (encB (h m)).length := by rw [encN_succ, List.length_append]
    rw [hl, hst]
    refine ⟨fun hn => ?_, fun hn ha => ?_⟩
    · obtain ⟨l, e1, e2, e3⟩ := ih1 (by omega)
      obtain ⟨u, e4, e5⟩ := hG.1 (by omega)
      refine ⟨l ++ [u], by rw [itemsS_next e1 e4, Nat.add_assoc], by simp [e2], fun j hj => ?_⟩
      by_cases hjm : j < m
      · have := e3 j hjm
        simpa [List.getD_eq_getElem?_getD, List.getElem?_append_left (show j < l.length by omega)] using this
      · obtain rfl : j = m := by omega
        simpa [List.getD_eq_getElem?_getD, List.getElem?_append_right (show l.length ≤ j by omega), e2] using e5
    · by_cases hn2 : a + (encN h m).length ≤ n
      · obtain ⟨l, e1, e2, e3⟩ := ih1 hn2
        exact itemsS_stuck e1 (hG.2 (by omega)) (by omega)
      · rw [itemsS, ih2 (by omega) ha]
theorem part_read {f : Nat → Int} {n d : Nat} {g : Nat → Nat → DR} {t : VT} (ht : Val t) (hg : d < 3 → ∀ j, j < t.n → Reads f n (t.item j) (d + 1) g) : Reads f n t d (partS f n g d) := by
  cases t with
  | nil => exact ht.elim
  | mk k i s N p c h =>
    intro a q q' hc hb
    obtain ⟨hq, hf, hk3, hs, hN, hst⟩ := chk_parts hc
    obtain ⟨⟨_, _, _, hi1, hi2⟩, hval⟩ := ht
    obtain ⟨⟨k0, k3⟩, fi, fs, fn⟩ := fit_facts hf
    simp only [VT.n_mk, VT.item_mk] at hg
    rw [encB_eq] at hb ⊢
    have h0 := hb 0 k rfl
    simp only [Nat.add_zero] at h0
    unfold partS
    rw [h0]
    have htail : ∀ j x, (if k = 1 then grpB (foldN i) else if k = 2 then (s.size : Int) :: txtB s else if k = 3 then (N : Int) :: (List.range N).flatMap fun j => encB (h j) else [])[j]? = some x → f (a + 1 + j) = x := by
      intro j x hj
      have := hb (j + 1) x (by simpa using hj)
      rw [← this]; congr 1; omega
    clear hb h0
    simp only [List.length_cons]
    rcases (by omega : k = 0 ∨ k = 1 ∨ k = 2 ∨ k = 3) with rfl | rfl | rfl | rfl
    · simp only [show ¬ (0 : Int) = 1 by decide, show ¬ (0 : Int) = 2 by decide, show ¬ (0 : Int) = 3 by decide, or_false, if_false, List.length_nil] at fi fs fn htail ⊢
      subst fi fn
      refine ⟨fun hn => ⟨mkN, ?_, ⟨rfl, rfl, nil_text empty_toList fs, rfl, fun j hj => absurd hj (by omega)⟩⟩, fun hn => if_pos (by omega)⟩
      have e : q' = q + 1 := by have := congrArg Prod.snd hst; simpa [stepN] using this.symm
      rw [if_neg (by omega), if_neg (by omega), if_neg (by decide), if_neg (by simp), if_pos (by decide), e]
    · simp only [show ¬ (1 : Int) = 2 by decide, show ¬ (1 : Int) = 3 by decide, or_false, if_true] at fs fn htail ⊢
      subst fn
      have e : q' = q + 1 := by have := congrArg Prod.snd hst; simpa [stepN] using this.symm
      have hfo := foldN_lt hi1 hi2
      obtain ⟨g1, g2⟩ := grp_full f n (foldN i) (a + 1) 0 0 (by simpa using hfo) (fun h => by omega) (by decide) (by omega) htail
      simp only [Nat.sub_zero, Nat.zero_add, Nat.mul_zero, Nat.pow_zero, Nat.mul_one] at g1 g2
      refine ⟨fun hn => ⟨mkI i, ?_, ⟨rfl, rfl, nil_text empty_toList fs, rfl, fun j hj => absurd hj (by omega)⟩⟩, fun hn => ?_⟩
      · rw [if_neg (by omega), if_neg (by omega), if_neg (by decide), if_neg (by simp), if_neg (by decide), if_pos (by decide), g1 (by omega), e]
        simp only [unfold_fold]
        congr 3
        omega
      · by_cases hn2 : n ≤ a
        · exact if_pos hn2
        · rw [if_neg hn2, if_neg (by omega), if_neg (by decide), if_neg (by simp), if_neg (by decide), if_pos (by decide), g2 (by omega)]
    · simp only [show ¬ (2 : Int) = 1 by decide, show ¬ (2 : Int) = 3 by decide, or_false, if_true, if_false] at fi fn htail ⊢
      subst fi fn
      have e : q' = q + 1 := by have := congrArg Prod.snd hst; simpa [stepN] using this.symm
      have h1 := htail 0 _ rfl
      simp only [Nat.add_zero] at h1
      have hby : bytesAt f (a + 2) s.size = txtB s := by
        apply List.ext_getElem?
        intro j
        rcases Nat.lt_or_ge j s.size with hj | hj
        · have hj2 : j < (txtB s).length := by rw [txtB_len]; exact hj
          have := htail (j + 1) ((txtB s)[j]'hj2) (by simp [List.getElem?_eq_getElem hj2])
          rw [List.getElem?_eq_getElem hj2, ← this]
          simp only [bytesAt, List.getElem?_map, List.getElem?_range hj, Option.map_some]
          congr 2
          omega
        · rw [List.getElem?_eq_none (by rw [bytesAt_len]; exact hj), List.getElem?_eq_none (by rw [txtB_len]; exact hj)]
      simp only [List.length_cons, txtB_len]
      rw [h1]
      refine ⟨fun hn => ⟨mkT s, ?_, ⟨rfl, rfl, rfl, rfl, fun j hj => absurd hj (by omega)⟩⟩, fun hn => ?_⟩
      · rw [if_neg (by omega), if_neg (by omega), if_neg (by decide), if_neg (by simp), if_neg (by decide), if_neg (by decide), if_neg (by omega), if_pos (by decide)]
        simp only [Int.toNat_natCast]
        rw [if_neg (by omega), if_neg (by omega), hby, strOf_txt, e]
        congr 3
        omega
      · by_cases hn2 : n ≤ a
        · exact if_pos hn2
        · rw [if_neg hn2, if_neg (by omega), if_neg (by decide), if_neg (by simp), if_neg (by decide), if_neg (by decide)]
          by_cases hn3 : n ≤ a + 1
          · exact if_pos hn3
          · rw [if_neg hn3, if_pos (by decide)]
            simp only [Int.toNat_natCast]
            rw [if_neg (by omega), if_pos (by omega)]
    · simp only [show ¬ (3 : Int) = 1 by decide, show ¬ (3 : Int) = 2 by decide, or_false, if_true, if_false] at fi fs htail ⊢
      subst fi
      have hd : d < 3 := by
        rcases Nat.lt_or_ge d 3 with h1 | h1
        · exact h1
        · exact absurd ⟨rfl, h1⟩ hk3
      have h1 := htail 0 _ rfl
      simp only [Nat.add_zero] at h1
      have hz : ∀ j, j ≤ N → (stepN (fun j m => chk (h j) (d + 1) m) (q + 1) j).1 = 0 := fun j hj => stepN_zero hst hj
      obtain ⟨r1, r2⟩ := items_read (hg hd) (a + 2) (q + 1) hz (fun j x hj => by
        have := htail (j + 1) x (by simpa [encN] using hj)
        rw [← this]; congr 1; omega) N (Nat.le_refl _)
      simp only [List.length_cons]
      rw [show ((List.range N).flatMap fun j => encB (h j)) = encN h N from rfl, h1]
      rw [hst] at r1
      simp only at r1
      have hd3 : ¬ ((3 : Int).toNat = 3 ∧ 3 ≤ d) := fun hx => by omega
      refine ⟨fun hn => ?_, fun hn => ?_⟩
      · obtain ⟨l, e1, e2, e3⟩ := r1 (by omega)
        refine ⟨mkL l, ?_, ⟨rfl, rfl, nil_text empty_toList fs, by show l.length = N; exact e2, fun j hj => e3 j hj⟩⟩
        rw [if_neg (by omega), if_neg (by omega), if_neg (by decide), if_neg hd3, if_neg (by decide), if_neg (by decide), if_neg (by omega), if_neg (by decide)]
        simp only [Int.toNat_natCast]
        rw [if_neg (by omega), e1]
        simp only
        congr 3
        omega
      · by_cases hn2 : n ≤ a
        · exact if_pos hn2
        · rw [if_neg hn2, if_neg (by omega), if_neg (by decide), if_neg hd3, if_neg (by decide), if_neg (by decide)]
          by_cases hn3 : n ≤ a + 1
          · exact if_pos hn3
          · rw [if_neg hn3, if_neg (by decide)]
            simp only [Int.toNat_natCast]
            rw [if_neg (by omega), r2 (by omega) (by omega)]
theorem dec_read {f : Nat → Int} {n : Nat} : ∀ (t : VT) (d : Nat), Val t → d ≤ 3 → Reads f n t d (decS f n (3 - d) d) := by
  intro t
  induction t with
  | nil => intro d h; exact h.elim
  | mk k i s N p c h ih =>
    intro d hv hd
    by_cases h3 : d = 3
    · subst h3
      exact part_read hv (fun h => by omega)
    · rw [show 3 - d = (3 - (d + 1)) + 1 by omega]
      exact part_read hv (fun hd2 j hj => ih j (d + 1) (hv.2 j hj) (by omega))
end Go.Proofs.YtoifpdnaeogdgabGreatDoor
