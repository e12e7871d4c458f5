import Derived.Test.YtdbcdnljjgdkfaaGreatPack7
import Derived.Test.YtdbcdnljjgdkfaaGreatPack24
namespace Go.Proofs.YtdbcdnljjgdkfaaGreat
open Go.RowKit
set_option maxRecDepth 8000

theorem chk_parts {k i : Int} {s : ByteArray} {n : Nat} {p : Option Addr} {c : Nat} {f : Nat → VT} {d q q' : Nat} (h : chk (.mk k i s n p c f) d q = (0, q')) :
    q < 12 ∧ fitB k i s n = true ∧ ¬ (k = 3 ∧ 3 ≤ d) ∧ s.size ≤ 24 ∧ n ≤ 6 ∧ stepN (fun j m => chk (f j) (d + 1) m) (q + 1) n = (0, q') := by
  rw [chk_eq] at h
  by_cases h1 : 12 ≤ q
  · rw [if_pos h1] at h; simp at h
  rw [if_neg h1] at h
  by_cases h2 : fitB k i s n = false
  · rw [if_pos h2] at h; simp at h
  rw [if_neg h2] at h
  by_cases h3 : k = 3 ∧ 3 ≤ d
  · rw [if_pos h3] at h; simp at h
  rw [if_neg h3] at h
  by_cases h4 : 24 < s.size
  · rw [if_pos h4] at h; simp at h
  rw [if_neg h4] at h
  by_cases h5 : 6 < n
  · rw [if_pos h5] at h; simp at h
  rw [if_neg h5] at h
  exact ⟨by omega, by simpa using h2, h3, by omega, by omega, h⟩
/-- the bytes of the first m items -/
def encN (f : Nat → VT) (m : Nat) : List Int := (List.range m).flatMap fun j => encB (f j)
theorem encN_succ (f : Nat → VT) (m : Nat) : encN f (m + 1) = encN f m ++ encB (f m) := by
  unfold encN
  rw [List.range_succ, List.flatMap_append]
  simp
theorem encN_pre (f : Nat → VT) {k N : Nat} (hk : k ≤ N) : ∃ r, encN f N = encN f k ++ r := by
  obtain ⟨e, rfl⟩ : ∃ e, N = k + e := ⟨N - k, by omega⟩
  clear hk
  induction e with
  | zero => exact ⟨[], by simp⟩
  | succ e ihe =>
    obtain ⟨r, hr⟩ := ihe
    exact ⟨r ++ encB (f (k + e)), by rw [← Nat.add_assoc, encN_succ, hr, List.append_assoc]⟩
theorem empty_toList : (⟨#[]⟩ : ByteArray).toList = [] := by rw [Go.Lib.toList_data]
theorem enc_pos (t : VT) : 0 < (encB t).length := by
  cases t with
  | nil => simp [encB]
  | mk k i s n p c f => rw [encB_eq]; simp
/-- what reading makes of a valid value's bytes, whole or cut -/
def Reads (f : Nat → Int) (n : Nat) (t : VT) (d : Nat) (g : Nat → Nat → DR) : Prop := ∀ a q q', chk t d q = (0, q') → (∀ j x, (encB t)[j]? = some x → f (a + j) = x) →
  (a + (encB t).length ≤ n → ∃ u, g a q = .ok (u, a + (encB t).length, q') ∧ VT.Alike t u) ∧ (n < a + (encB t).length → g a q = .error 28)
theorem stepN_zero {g : Nat → Nat → Nat × Nat} {m n q' : Nat} (h : stepN g m n = (0, q')) {j : Nat} (hj : j ≤ n) : (stepN g m j).1 = 0 := by
  by_cases hz : (stepN g m j).1 = 0
  · exact hz
  · have := stepN_stuck hj hz
    rw [this] at h
    rw [h] at hz
    exact absurd rfl hz
theorem items_read {f : Nat → Int} {n d : Nat} {g : Nat → Nat → DR} {h : Nat → VT} {N : Nat} (hg : ∀ j, j < N → Reads f n (h j) (d + 1) g) (a q : Nat) (hq : ∀ j, j ≤ N → (stepN (fun j m => chk (h j) (d + 1) m) q j).1 = 0)
    (hb : ∀ j x, (encN h N)[j]? = some x → f (a + j) = x) : ∀ m, m ≤ N →
    (a + (encN h m).length ≤ n → ∃ l, itemsS g m a q = .ok (l, a + (encN h m).length, (stepN (fun j m => chk (h j) (d + 1) m) q m).2) ∧ l.length = m ∧ ∀ j, j < m → VT.Alike (h j) (l.getD j .nil)) ∧ (n < a + (encN h m).length → a ≤ n → itemsS g m a q = .error 28) := by
  intro m
  induction m with
  | zero => intro _; exact ⟨fun _ => ⟨[], rfl, rfl, fun j hj => absurd hj (by omega)⟩, fun h1 h2 => by simp [encN] at h1; omega⟩
  | succ m ih =>
    intro hm
    obtain ⟨ih1, ih2⟩ := ih (by omega)
    obtain ⟨r, hr⟩ := encN_pre h hm
    have hbm : ∀ j x, (encB (h m))[j]? = some x → f (a + (encN h m).length + j) = x := by
      intro j x hj
      rw [Nat.add_assoc]
      apply hb
      rw [hr, encN_succ, List.append_assoc, List.getElem?_append_right (by omega), Nat.add_sub_cancel_left]
      have hlt : j < (encB (h m)).length := by
        rcases Nat.lt_or_ge j (encB (h m)).length with h1 | h1
        · exact h1
        · rw [List.getElem?_eq_none h1] at hj; cases hj
      rw [List.getElem?_append_left hlt]
      exact hj
    have hz := hq (m + 1) hm
    rw [stepN_succ (hq m (by omega))] at hz
    obtain ⟨q2, hq2⟩ : ∃ q2, chk (h m) (d + 1) (stepN (fun j m => chk (h j) (d + 1) m) q m).2 = (0, q2) := ⟨_, Prod.ext hz rfl⟩
    have hG := hg m (by omega) (a + (encN h m).length) _ q2 hq2 hbm
    have hst : (stepN (fun j m => chk (h j) (d + 1) m) q (m + 1)).2 = q2 := by rw [stepN_succ (hq m (by omega)), hq2]
    have hl : (encN h (m + 1)).length = (encN h m).length + (encB (h m)).length := by rw [encN_succ, List.length_append]
    rw [hl, hst]
    refine ⟨fun hn => ?_, fun hn ha => ?_⟩
    · obtain ⟨l, e1, e2, e3⟩ := ih1 (by omega)
      obtain ⟨u, e4, e5⟩ := hG.1 (by omega)
      refine ⟨l ++ [u], by rw [itemsS_next e1 e4, Nat.add_assoc], by simp [e2], fun j hj => ?_⟩
      by_cases hjm : j < m
      · have := e3 j hjm
        simpa [List.getD_eq_getElem?_getD, List.getElem?_append_left (show j < l.length by omega)] using this
      · obtain rfl : j = m := by omega
        simpa [List.getD_eq_getElem?_getD, List.getElem?_append_right (show l.length ≤ j by omega), e2] using e5
    · by_cases hn2 : a + (encN h m).length ≤ n
      · obtain ⟨l, e1, e2, e3⟩ := ih1 hn2
        exact itemsS_stuck e1 (hG.2 (by omega)) (by omega)
      · rw [itemsS, ih2 (by omega) ha]
theorem part_read {f : Nat → Int} {n d : Nat} {g : Nat → Nat → DR} {t : VT} (ht : Val t) (hg : d < 3 → ∀ j, j < t.n → Reads f n (t.item j) (d + 1) g) : Reads f n t d (partS f n g d) := by
  cases t with
  | nil => exact ht.elim
  | mk k i s N p c h =>
    intro a q q' hc hb
    obtain ⟨hq, hf, hk3, hs, hN, hst⟩ := chk_parts hc
    obtain ⟨⟨_, _, _, hi1, hi2⟩, hval⟩ := ht
    obtain ⟨⟨k0, k3⟩, fi, fs, fn⟩ := fit_facts hf
    simp only [VT.n_mk, VT.item_mk] at hg
    rw [encB_eq] at hb ⊢
    have h0 := hb 0 k rfl
    simp only [Nat.add_zero] at h0
    unfold partS
    rw [h0]
    have htail : ∀ j x, (if k = 1 then grpB (foldN i) else if k = 2 then (s.size : Int) :: txtB s else if k = 3 then (N : Int) :: (List.range N).flatMap fun j => encB (h j) else [])[j]? = some x → f (a + 1 + j) = x := by
      intro j x hj
      have := hb (j + 1) x (by simpa using hj)
      rw [← this]; congr 1; omega
    clear hb h0
    simp only [List.length_cons]
    rcases (by omega : k = 0 ∨ k = 1 ∨ k = 2 ∨ k = 3) with rfl | rfl | rfl | rfl
    · simp only [show ¬ (0 : Int) = 1 by decide, show ¬ (0 : Int) = 2 by decide, show ¬ (0 : Int) = 3 by decide, or_false, if_false, List.length_nil] at fi fs fn htail ⊢
      subst fi fn
      refine ⟨fun hn => ⟨mkN, ?_, ⟨rfl, rfl, nil_text empty_toList fs, rfl, fun j hj => absurd hj (by omega)⟩⟩, fun hn => if_pos (by omega)⟩
      have e : q' = q + 1 := by have := congrArg Prod.snd hst; simpa [stepN] using this.symm
      rw [if_neg (by omega), if_neg (by omega), if_neg (by decide), if_neg (by simp), if_pos (by decide), e]
    · simp only [show ¬ (1 : Int) = 2 by decide, show ¬ (1 : Int) = 3 by decide, or_false, if_true] at fs fn htail ⊢
      subst fn
      have e : q' = q + 1 := by have := congrArg Prod.snd hst; simpa [stepN] using this.symm
      have hfo := foldN_lt hi1 hi2
      obtain ⟨g1, g2⟩ := grp_full f n (foldN i) (a + 1) 0 0 (by simpa using hfo) (fun h => by omega) (by decide) (by omega) htail
      simp only [Nat.sub_zero, Nat.zero_add, Nat.mul_zero, Nat.pow_zero, Nat.mul_one] at g1 g2
      refine ⟨fun hn => ⟨mkI i, ?_, ⟨rfl, rfl, nil_text empty_toList fs, rfl, fun j hj => absurd hj (by omega)⟩⟩, fun hn => ?_⟩
      · rw [if_neg (by omega), if_neg (by omega), if_neg (by decide), if_neg (by simp), if_neg (by decide), if_pos (by decide), g1 (by omega), e]
        simp only [unfold_fold]
        congr 3
        omega
      · by_cases hn2 : n ≤ a
        · exact if_pos hn2
        · rw [if_neg hn2, if_neg (by omega), if_neg (by decide), if_neg (by simp), if_neg (by decide), if_pos (by decide), g2 (by omega)]
    · simp only [show ¬ (2 : Int) = 1 by decide, show ¬ (2 : Int) = 3 by decide, or_false, if_true, if_false] at fi fn htail ⊢
      subst fi fn
      have e : q' = q + 1 := by have := congrArg Prod.snd hst; simpa [stepN] using this.symm
      have h1 := htail 0 _ rfl
      simp only [Nat.add_zero] at h1
      have hby : bytesAt f (a + 2) s.size = txtB s := by
        apply List.ext_getElem?
        intro j
        rcases Nat.lt_or_ge j s.size with hj | hj
        · have hj2 : j < (txtB s).length := by rw [txtB_len]; exact hj
          have := htail (j + 1) ((txtB s)[j]'hj2) (by simp [List.getElem?_eq_getElem hj2])
          rw [List.getElem?_eq_getElem hj2, ← this]
          simp only [bytesAt, List.getElem?_map, List.getElem?_range hj, Option.map_some]
          congr 2
          omega
        · rw [List.getElem?_eq_none (by rw [bytesAt_len]; exact hj), List.getElem?_eq_none (by rw [txtB_len]; exact hj)]
      simp only [List.length_cons, txtB_len]
      rw [h1]
      refine ⟨fun hn => ⟨mkT s, ?_, ⟨rfl, rfl, rfl, rfl, fun j hj => absurd hj (by omega)⟩⟩, fun hn => ?_⟩
      · rw [if_neg (by omega), if_neg (by omega), if_neg (by decide), if_neg (by simp), if_neg (by decide), if_neg (by decide), if_neg (by omega), if_pos (by decide)]
        simp only [Int.toNat_natCast]
        rw [if_neg (by omega), if_neg (by omega), hby, strOf_txt, e]
        congr 3
        omega
      · by_cases hn2 : n ≤ a
        · exact if_pos hn2
        · rw [if_neg hn2, if_neg (by omega), if_neg (by decide), if_neg (by simp), if_neg (by decide), if_neg (by decide)]
          by_cases hn3 : n ≤ a + 1
          · exact if_pos hn3
          · rw [if_neg hn3, if_pos (by decide)]
            simp only [Int.toNat_natCast]
            rw [if_neg (by omega), if_pos (by omega)]
    · simp only [show ¬ (3 : Int) = 1 by decide, show ¬ (3 : Int) = 2 by decide, or_false, if_true, if_false] at fi fs htail ⊢
      subst fi
      have hd : d < 3 := by
        rcases Nat.lt_or_ge d 3 with h1 | h1
        · exact h1
        · exact absurd ⟨rfl, h1⟩ hk3
      have h1 := htail 0 _ rfl
      simp only [Nat.add_zero] at h1
      have hz : ∀ j, j ≤ N → (stepN (fun j m => chk (h j) (d + 1) m) (q + 1) j).1 = 0 := fun j hj => stepN_zero hst hj
      obtain ⟨r1, r2⟩ := items_read (hg hd) (a + 2) (q + 1) hz (fun j x hj => by
        have := htail (j + 1) x (by simpa [encN] using hj)
        rw [← this]; congr 1; omega) N (Nat.le_refl _)
      simp only [List.length_cons]
      rw [show ((List.range N).flatMap fun j => encB (h j)) = encN h N from rfl, h1]
      rw [hst] at r1
      simp only at r1
      have hd3 : ¬ ((3 : Int).toNat = 3 ∧ 3 ≤ d) := fun hx => by omega
      refine ⟨fun hn => ?_, fun hn => ?_⟩
      · obtain ⟨l, e1, e2, e3⟩ := r1 (by omega)
        refine ⟨mkL l, ?_, ⟨rfl, rfl, nil_text empty_toList fs, by show l.length = N; exact e2, fun j hj => e3 j hj⟩⟩
        rw [if_neg (by omega), if_neg (by omega), if_neg (by decide), if_neg hd3, if_neg (by decide), if_neg (by decide), if_neg (by omega), if_neg (by decide)]
        simp only [Int.toNat_natCast]
        rw [if_neg (by omega), e1]
        simp only
        congr 3
        omega
      · by_cases hn2 : n ≤ a
        · exact if_pos hn2
        · rw [if_neg hn2, if_neg (by omega), if_neg (by decide), if_neg hd3, if_neg (by decide), if_neg (by decide)]
          by_cases hn3 : n ≤ a + 1
          · exact if_pos hn3
          · rw [if_neg hn3, if_neg (by decide)]
            simp only [Int.toNat_natCast]
            rw [if_neg (by omega), r2 (by omega) (by omega)]
theorem dec_read {f : Nat → Int} {n : Nat} : ∀ (t : VT) (d : Nat), Val t → d ≤ 3 → Reads f n t d (decS f n (3 - d) d) := by
  intro t
  induction t with
  | nil => intro d h; exact h.elim
  | mk k i s N p c h ih =>
    intro d hv hd
    by_cases h3 : d = 3
    · subst h3
      exact part_read hv (fun h => by omega)
    · rw [show 3 - d = (3 - (d + 1)) + 1 by omega]
      exact part_read hv (fun hd2 j hj => ih j (d + 1) (hv.2 j hj) (by omega))
end Go.Proofs.YtdbcdnljjgdkfaaGreat

namespace Go.Proofs.YtdbcdnljjgdkfaaGreat
open Go.RowKit
set_option maxRecDepth 8000

/-- the bytes are read back, whole; cut short they are refused, never for what follows them -/
structure Back {α : Type} (s : RS α) (B : List Int) (Q : α → Prop) : Prop where
  whole : ∀ R, ∃ y, s (B ++ R) = .ok (y, R) ∧ Q y
  short : ∀ A C, B = A ++ C → C ≠ [] → ∃ e, s A = .error e ∧ e ≠ 0 ∧ e ≠ 44
theorem Back.bind {α β : Type} {s : RS α} {g : α → RS β} {B C : List Int} {Q : α → Prop} {Q2 : β → Prop} (h : Back s B Q) (h2 : ∀ y, Q y → Back (g y) C Q2) : Back (bindS s g) (B ++ C) Q2 := by
  refine ⟨fun R => ?_, fun A D hA hD => ?_⟩
  · obtain ⟨y, h3, h4⟩ := h.whole (C ++ R)
    obtain ⟨z, h5, h6⟩ := (h2 y h4).whole R
    refine ⟨z, ?_, h6⟩
    unfold bindS
    rw [List.append_assoc, h3]
    exact h5
  · rcases List.append_eq_append_iff.1 hA with ⟨X, h3, h4⟩ | ⟨X, h3, h4⟩
    · obtain ⟨y, h5, h6⟩ := h.whole X
      obtain ⟨e, h7, h8⟩ := (h2 y h6).short X D h4 hD
      refine ⟨e, ?_, h8⟩
      unfold bindS
      rw [h3, h5]
      exact h7
    · by_cases hX : X = []
      · subst hX
        obtain ⟨y, h5, h6⟩ := h.whole []
        obtain ⟨e, h7, h8⟩ := (h2 y h6).short [] D (by simpa using h4.symm) hD
        refine ⟨e, ?_, h8⟩
        unfold bindS
        rw [List.append_nil] at h3 h5
        rw [← h3, h5]
        exact h7
      · obtain ⟨e, h7, h8⟩ := h.short A X h3 hX
        refine ⟨e, ?_, h8⟩
        unfold bindS
        rw [h7]
theorem Back.ret {α : Type} {y : α} {Q : α → Prop} (h : Q y) : Back (retS y) [] Q :=
  ⟨fun R => ⟨y, rfl, h⟩, fun A C hA hC => by
    have : A = [] ∧ C = [] := by simpa using hA.symm
    exact absurd this.2 hC⟩
theorem Back.mono {α : Type} {s : RS α} {B : List Int} {Q Q2 : α → Prop} (h : Back s B Q) (hQ : ∀ y, Q y → Q2 y) : Back s B Q2 :=
  ⟨fun R => by obtain ⟨y, h1, h2⟩ := h.whole R; exact ⟨y, h1, hQ y h2⟩, h.short⟩
theorem Back.map {α β : Type} {s : RS α} {f : α → β} {B : List Int} {Q : α → Prop} {Q2 : β → Prop} (h : Back s B Q) (hQ : ∀ y, Q y → Q2 (f y)) : Back (bindS s fun y => retS (f y)) B Q2 := by
  have := h.bind (g := fun y => retS (f y)) (C := []) (fun y hy => Back.ret (hQ y hy))
  rwa [List.append_nil] at this
theorem back_take (l : List Int) : Back (takeS l.length) l (· = l) := by
  refine ⟨fun R => ⟨l, ?_, rfl⟩, fun A C hA hC => ⟨40, ?_, by decide, by decide⟩⟩
  · unfold takeS
    rw [if_pos (by simp)]
    simp
  · unfold takeS
    have : 0 < C.length := List.length_pos_iff.2 hC
    rw [if_neg (by rw [hA, List.length_append]; omega)]
theorem back_numG (bound : Nat) : ∀ k i u j, u < 2 ^ (7 * i) → (0 < i → 1 ≤ j) → u + j * 2 ^ (7 * i) ≤ bound → j < 128 ^ (k + 1) → Back (numG bound (k + 1) i u) (grpB j) (· = u + j * 2 ^ (7 * i)) := by
  intro k
  induction k with
  | zero =>
    intro i u j hu hi hb hj
    have hj : j < 128 := by simpa using hj
    have hm : u ||| j % 128 * 2 ^ (7 * i) = u + j * 2 ^ (7 * i) := by rw [Nat.mod_eq_of_lt hj, or_plus hu]
    rw [grpB_small hj]
    refine ⟨fun R => ⟨_, ?_, rfl⟩, fun A C hA hC => ⟨40, ?_, by decide, by decide⟩⟩
    · rw [List.singleton_append, numG_lo hj, hm]
      unfold endS
      rw [if_neg (by simp; omega), if_neg (by omega)]
      rfl
    · cases A with
      | nil => exact numG_nil ..
      | cons a A =>
        simp only [List.cons_append, List.cons.injEq] at hA
        exact absurd (List.append_eq_nil_iff.1 hA.2.symm).2 hC
  | succ k ih =>
    intro i u j hu hi hb hj
    by_cases hs : j < 128
    · have hm : u ||| j % 128 * 2 ^ (7 * i) = u + j * 2 ^ (7 * i) := by rw [Nat.mod_eq_of_lt hs, or_plus hu]
      rw [grpB_small hs]
      refine ⟨fun R => ⟨_, ?_, rfl⟩, fun A C hA hC => ⟨40, ?_, by decide, by decide⟩⟩
      · rw [List.singleton_append, numG_lo hs, hm]
        unfold endS
        rw [if_neg (by simp; omega), if_neg (by omega)]
        rfl
      · cases A with
        | nil => exact numG_nil ..
        | cons a A =>
          simp only [List.cons_append, List.cons.injEq] at hA
          exact absurd (List.append_eq_nil_iff.1 hA.2.symm).2 hC
    · have hp : 0 < 2 ^ (7 * i) := Nat.two_pow_pos _
      have hq : j % 128 * 2 ^ (7 * i) ≤ 127 * 2 ^ (7 * i) := Nat.mul_le_mul (by omega) (Nat.le_refl _)
      have e1 : j / 128 * (128 * 2 ^ (7 * i)) = (128 * (j / 128)) * 2 ^ (7 * i) := by rw [← Nat.mul_assoc, Nat.mul_comm (j / 128) 128]
      have e2 : j * 2 ^ (7 * i) = (128 * (j / 128)) * 2 ^ (7 * i) + j % 128 * 2 ^ (7 * i) := by
        rw [← Nat.add_mul]
        congr 1
        omega
      have hv : u + j % 128 * 2 ^ (7 * i) + j / 128 * 2 ^ (7 * (i + 1)) = u + j * 2 ^ (7 * i) := by
        rw [pow7, e1, e2]
        omega
      have hu2 : u + j % 128 * 2 ^ (7 * i) < 2 ^ (7 * (i + 1)) := by
        rw [pow7]
        omega
      have hlt : j / 128 < 128 ^ (k + 1) := by
        rw [Nat.pow_succ] at hj
        exact Nat.div_lt_of_lt_mul (by rw [Nat.mul_comm]; exact hj)
      have H := ih (i + 1) (u + j % 128 * 2 ^ (7 * i)) (j / 128) hu2 (fun _ => by omega) (by rw [hv]; exact hb) hlt
      rw [hv] at H
      have hc : ¬ (j % 128 + 128) < 128 := by omega
      have hm : (j % 128 + 128) % 128 = j % 128 := by omega
      rw [grpB_great hs]
      refine ⟨fun R => ?_, fun A C hA hC => ?_⟩
      · obtain ⟨y, h1, h2⟩ := H.whole R
        refine ⟨y, ?_, h2⟩
        rw [List.cons_append, numG_hi hc, hm, or_plus hu]
        exact h1
      · cases A with
        | nil => exact ⟨40, numG_nil .., by decide, by decide⟩
        | cons a A =>
          simp only [List.cons_append, List.cons.injEq] at hA
          obtain ⟨e, h1, h2⟩ := H.short A C hA.2 hC
          refine ⟨e, ?_, h2⟩
          rw [← hA.1, numG_hi hc, hm, or_plus hu]
          exact h1
theorem back_num {bound m : Nat} (h : m ≤ bound) (hm : m < 34359738368) : Back (numS bound) (grpB m) (· = m) := by
  have := back_numG bound 4 0 0 m (by decide) (fun h => absurd h (by decide)) (by simpa using h) (Nat.lt_of_lt_of_le hm (by decide))
  simpa [numS] using this
theorem back_word {u : Nat} (h : u < 4294967296) : Back wordS (wordB u) (· = u) := by
  refine Back.map (back_take (wordB u)) fun y hy => ?_
  subst hy
  simp only [wordB, wordN, List.getD_cons_zero, List.getD_cons_succ, Int.toNat_natCast]
  omega
theorem back_first (x : Int) : Back (firstS x) [x] (fun _ => True) := by
  have := (back_take [x]).bind (g := fun l => if l.headD 0 = x then retS () else failS 41) (C := []) (Q2 := fun _ => True) (fun y hy => by
    subst hy
    simp only [List.headD_cons, if_true]
    exact Back.ret trivial)
  exact this
theorem back_key {k : ByteArray} (h : k.size ≤ 12) : Back keyS (keyB k) (· = k) := by
  refine (back_num h (by omega)).bind fun n hn => ?_
  subst hn
  have := back_take (txtB k)
  rw [txtB_len] at this
  refine Back.map this fun y hy => ?_
  subst hy
  exact strOf_txt k
theorem grpS_same {f g : Nat → Int} {n : Nat} (h : ∀ j, j < n → f j = g j) : ∀ k a i u, grpS f n k a i u = grpS g n k a i u := by
  intro k
  induction k with
  | zero => intro a i u; rfl
  | succ k ih =>
    intro a i u
    rw [grpS, grpS]
    by_cases ha : n ≤ a
    · rw [if_pos ha, if_pos ha]
    · rw [if_neg ha, if_neg ha, h a (by omega), ih]
theorem itemsS_same {f g : Nat → Nat → DR} (h : ∀ a q, f a q = g a q) : ∀ m a q, itemsS f m a q = itemsS g m a q := by
  have e : f = g := funext fun a => funext fun q => h a q
  intro m a q
  rw [e]
theorem partS_same {f g : Nat → Int} {n : Nat} (h : ∀ j, j < n → f j = g j) {r s : Nat → Nat → DR} (hr : ∀ a q, r a q = s a q) (d a q : Nat) : partS f n r d a q = partS g n s d a q := by
  unfold partS
  by_cases ha : n ≤ a
  · rw [if_pos ha, if_pos ha]
  · rw [if_neg ha, if_neg ha, h a (by omega), grpS_same h]
    by_cases ha1 : n ≤ a + 1
    · rw [if_pos ha1, if_pos ha1]
    · rw [if_neg ha1, if_neg ha1, h (a + 1) (by omega), itemsS_same hr]
      by_cases hb : n < a + 2 + (g (a + 1)).toNat
      · rw [if_pos hb, if_pos hb]
      · rw [if_neg hb, if_neg hb]
        have e : bytesAt f (a + 2) (g (a + 1)).toNat = bytesAt g (a + 2) (g (a + 1)).toNat := by
          unfold bytesAt
          apply List.map_congr_left
          intro j hj
          exact h _ (by have := List.mem_range.1 hj; omega)
        rw [e]
theorem decS_same {f g : Nat → Int} {n : Nat} (h : ∀ j, j < n → f j = g j) : ∀ k d a q, decS f n k d a q = decS g n k d a q := by
  intro k
  induction k with
  | zero => intro d a q; exact partS_same h (fun _ _ => rfl) d a q
  | succ k ih => intro d a q; exact partS_same h (fun a q => ih (d + 1) a q) d a q
theorem back_val {t : VT} (ht : Val t) (hc : (chk t 0 0).1 = 0) : Back valS (valB t) (fun y => VT.Alike t y) := by
  have e : valB t = encB t := by unfold valB cleanT; rw [if_pos hc]
  have hq : chk t 0 0 = (0, (chk t 0 0).2) := Prod.ext hc rfl
  rw [e]
  refine ⟨fun R => ?_, fun A C hA hC => ⟨28, ?_, by decide, by decide⟩⟩
  · have H := dec_read (f := fun j => (encB t ++ R).getD j 0) (n := (encB t ++ R).length) t 0 ht (by decide) 0 0 _ hq (fun j x hx => by
      have hj : j < (encB t).length := by
        rcases Nat.lt_or_ge j (encB t).length with h1 | h1
        · exact h1
        · rw [List.getElem?_eq_none h1] at hx; cases hx
      show (encB t ++ R).getD (0 + j) 0 = x
      rw [Nat.zero_add, List.getD_eq_getElem?_getD, List.getElem?_append_left hj, hx]
      rfl)
    obtain ⟨u, h1, h2⟩ := H.1 (by simp)
    refine ⟨u, ?_, h2⟩
    unfold valS
    have h1 : decS (fun j => (encB t ++ R).getD j 0) (encB t ++ R).length 3 0 0 0 = _ := h1
    rw [h1]
    simp
  · have hl : 0 < C.length := List.length_pos_iff.2 hC
    have H := dec_read (f := fun j => (encB t).getD j 0) (n := A.length) t 0 ht (by decide) 0 0 _ hq (fun j x hx => by
      show (encB t).getD (0 + j) 0 = x
      rw [Nat.zero_add, List.getD_eq_getElem?_getD, hx]
      rfl)
    have h1 := H.2 (by rw [hA, List.length_append]; omega)
    have h1 : decS (fun j => (encB t).getD j 0) A.length 3 0 0 0 = .error 28 := h1
    unfold valS
    rw [decS_same (g := fun j => (encB t).getD j 0) (fun j hj => by
      show A.getD j 0 = (encB t).getD j 0
      rw [hA, List.getD_eq_getElem?_getD, List.getD_eq_getElem?_getD, List.getElem?_append_left hj]), h1]
end Go.Proofs.YtdbcdnljjgdkfaaGreat

namespace Go.Proofs.YtdbcdnljjgdkfaaGreat
open Go.RowKit
set_option maxRecDepth 8000

theorem Back.eq {α : Type} {s : RS α} {B C : List Int} {Q : α → Prop} (h : Back s B Q) (e : B = C) : Back s C Q := e ▸ h
theorem back_iter {α β σ : Type} (d : α) {item : σ → RS α} {nx : σ → α → σ} {enc : β → List Int} {f : Nat → β} {Q : β → α → Prop} {St : Nat → σ → Prop} {n : Nat} {s : σ} (h0 : St 0 s)
    (hI : ∀ j, j < n → ∀ t, St j t → Back (item t) (enc (f j)) (fun x => Q (f j) x ∧ St (j + 1) (nx t x))) :
    ∀ m, m ≤ n → Back (iterS item nx m s) ((List.range m).flatMap fun j => enc (f j)) (fun y => y.1.length = m ∧ (∀ j, j < m → Q (f j) (y.1.getD j d)) ∧ St m y.2) := by
  intro m
  induction m with
  | zero => intro _; exact Back.ret ⟨rfl, fun j hj => absurd hj (by omega), h0⟩
  | succ m ih =>
    intro hm
    have h1 := ih (by omega)
    have h2 : Back (iterS item nx (m + 1) s) (((List.range m).flatMap fun j => enc (f j)) ++ enc (f m)) (fun y => y.1.length = m + 1 ∧ (∀ j, j < m + 1 → Q (f j) (y.1.getD j d)) ∧ St (m + 1) y.2) := by
      refine h1.bind fun y hy => ?_
      obtain ⟨a1, a2, a3⟩ := hy
      refine Back.map (hI m (by omega) y.2 a3) fun x hx => ?_
      refine ⟨by simp [a1], fun j hj => ?_, hx.2⟩
      by_cases hjm : j < m
      · have e : (y.1 ++ [x]).getD j d = y.1.getD j d := by
          rw [List.getD_eq_getElem?_getD, List.getD_eq_getElem?_getD, List.getElem?_append_left (by omega)]
        show Q (f j) ((y.1 ++ [x]).getD j d)
        rw [e]
        exact a2 j hjm
      · have hj' : j = m := by omega
        subst hj'
        have e : (y.1 ++ [x]).getD j d = x := by
          rw [List.getD_eq_getElem?_getD, List.getElem?_append_right (by omega)]
          simp [a1]
        show Q (f j) ((y.1 ++ [x]).getD j d)
        rw [e]
        exact hx.1
    exact h2.eq (by simp [List.range_succ])
theorem back_list {α β σ : Type} (d : α) {bound : Nat} {item : σ → RS α} {nx : σ → α → σ} {enc : β → List Int} {f : Nat → β} {Q : β → α → Prop} (St : Nat → σ → Prop) {n : Nat} {s : σ} (hn : n ≤ bound) (hb : n < 34359738368) (h0 : St 0 s)
    (hI : ∀ j, j < n → ∀ t, St j t → Back (item t) (enc (f j)) (fun x => Q (f j) x ∧ St (j + 1) (nx t x))) :
    Back (listS bound item nx s) (listB enc n f) (fun ys => ys.length = n ∧ ∀ j, j < n → Q (f j) (ys.getD j d)) := by
  refine (back_num hn hb).bind fun m hm => ?_
  subst hm
  exact Back.map (back_iter d h0 hI m (Nat.le_refl _)) fun y hy => ⟨hy.1, hy.2.1⟩
theorem back_plain {α β : Type} (d : α) {bound : Nat} {item : RS α} {enc : β → List Int} {f : Nat → β} {Q : β → α → Prop} {n : Nat} (hn : n ≤ bound) (hb : n < 34359738368) (hI : ∀ j, j < n → Back item (enc (f j)) (fun x => Q (f j) x)) :
    Back (listS bound (fun _ : Unit => item) (fun _ _ => ()) ()) (listB enc n f) (fun ys => ys.length = n ∧ ∀ j, j < n → Q (f j) (ys.getD j d)) :=
  back_list d (fun _ _ => True) hn hb trivial fun j hj _ _ => (hI j hj).mono fun _ h => ⟨h, trivial⟩
theorem back_hop {i : Int} (h0 : 0 ≤ i) (h9 : i ≤ 9) : Back hopI (hopB i) (fun x => x = i) := by
  refine Back.map (back_num (m := i.toNat) (by omega) (by omega)) fun y hy => ?_
  subst hy
  omega
theorem back_rec {w : World} {S : Nat → Prop} {r : RT} (hin : RT.In w S r) (h : chkRec r = 0) : Back recS (recB r) (fun y => RT.Alike r y) := by
  have hv := vr_of h
  have hc : (chk r.v 0 0).1 = 0 := by
    unfold chkRec at h
    split at h
    · cases h
    split at h
    · rename_i h2; exact absurd h h2
    · rename_i h2; exact Decidable.not_not.1 h2
  refine (back_key hv.key).bind fun k hk => (back_val (val_of r.v 0 0 hin.v hc) hc).bind fun v hv2 => ?_
  subst hk
  refine Back.map (back_plain (enc := hopB) (Q := fun i x => x = i) (0 : Int) hv.n (by have := hv.n; omega) fun j hj => back_hop (hv.loop j hj).1 (hv.loop j hj).2) fun l hl => ?_
  exact ⟨rfl, hv2, hl.1, hl.2⟩
theorem back_recs {w : World} {S : Nat → Prop} {l : LT RT} (hin : ∀ j, j < l.n → RT.In w S (l.item j)) (hn : l.n ≤ 256) (h : ∀ j, j < l.n → chkRec (l.item j) = 0) : Back recsS (recsB l) (fun ys => ys.length = l.n ∧ ∀ j, j < l.n → RT.Alike (l.item j) (ys.getD j zeroR)) :=
  back_plain zeroR hn (by omega) fun j hj => back_rec (hin j hj) (h j hj)
theorem back_recsL {w : World} {S : Nat → Prop} {l : LT RT} (hin : ∀ j, j < l.n → RT.In w S (l.item j)) (hn : l.n ≤ 256) (h : ∀ j, j < l.n → chkRec (l.item j) = 0) : Back recsL (recsB l) (fun y => RecsAlike l y) :=
  Back.map (back_recs hin hn h) fun _ hl => ⟨hl.1, hl.2⟩
theorem back_logs {w : World} {S : Nat → Prop} {l : LT (LT RT)} (hin : ∀ j, j < l.n → ∀ i, i < (l.item j).n → RT.In w S ((l.item j).item i)) (hn : l.n ≤ 4) (hn2 : ∀ j, j < l.n → (l.item j).n ≤ 256) (h : ∀ j, j < l.n → ∀ i, i < (l.item j).n → chkRec ((l.item j).item i) = 0) : Back logsL (listB recsB l.n l.item) (fun ys => ys.length = l.n ∧ ∀ j, j < l.n → RecsAlike (l.item j) (ys.getD j (mkLT zeroR []))) :=
  back_plain (mkLT zeroR []) hn (by omega) fun j hj => back_recsL (hin j hj) (hn2 j hj) (h j hj)
/-- a state's cells, alike: their key and values -/
structure CAlike (t u : VT) : Prop where
  text : u.text = t.text
  n : u.n = t.n
  item : ∀ j, j < t.n → VT.Alike (t.item j) (u.item j)
theorem back_rise {s : Option ByteArray} {k : ByteArray} (h : k.size ≤ 12) (hr : rises s k) : Back (riseS s) (keyB k) (· = k) := by
  have := (back_key h).bind (g := fun k => if (match s with | none => true | some l => Op.bytesLess l.toList k.toList) = true then retS k else failS 42) (C := []) (Q2 := (· = k)) (fun y hy => by
    subst hy
    cases s with
    | none => exact Back.ret rfl
    | some l =>
      show Back (if Op.bytesLess l.toList y.toList = true then retS y else failS 42) [] _
      rw [if_pos (hr l rfl)]
      exact Back.ret rfl)
  rw [List.append_nil] at this
  exact this
theorem back_cell {w : World} {S : Nat → Prop} {s : Option ByteArray} {t : VT} (hin : VT.In w S t) (hk : t.text.size ≤ 12) (hr : rises s t.text) (hc : chkVals t = 0) : Back (cellS s) (cellB t) (fun x => CAlike t x) := by
  refine (back_rise hk hr).bind fun k hk => ?_
  subst hk
  have hn : t.n ≤ 6 := by
    unfold chkVals at hc
    split at hc
    · cases hc
    · omega
  have hv : ∀ j, j < t.n → (chk (t.item j) 0 0).1 = 0 := by
    unfold chkVals at hc
    rw [if_neg (by omega)] at hc
    exact firstC_all _ hc
  have hl := cell_vals hin
  refine Back.map (back_plain (enc := valB) (Q := fun t x => VT.Alike t x) VT.nil hn (by omega) fun j hj => back_val (val_of _ 0 0 (hl.each j hj) (hv j hj)) (hv j hj)) fun l hl => ?_
  exact ⟨rfl, hl.1, hl.2⟩
/-- the key ahead of item j -/
def Ahead (g : Nat → ByteArray) (j : Nat) (s : Option ByteArray) : Prop := (j = 0 → s = none) ∧ (0 < j → s = some (g (j - 1)))
theorem Ahead.rises {g : Nat → ByteArray} {j : Nat} {s : Option ByteArray} (h : Ahead g j s) (hr : 0 < j → Op.bytesLess (g (j - 1)).toList (g j).toList = true) : rises s (g j) := by
  intro l hl
  by_cases hj : j = 0
  · rw [h.1 hj] at hl; cases hl
  · rw [h.2 (by omega)] at hl
    cases hl
    exact hr (by omega)
theorem back_cells {w : World} {S : Nat → Prop} {n : Nat} {f : Nat → VT} (hin : ∀ j, j < n → VT.In w S (f j)) (hn : n ≤ 64) (hc : ∀ j, j < n → chkCell f j = 0) : Back cellsS (listB cellB n f) (fun ys => ys.length = n ∧ ∀ j, j < n → CAlike (f j) (ys.getD j .nil)) := by
  refine back_list VT.nil (Ahead fun j => (f j).text) hn (by omega) ⟨fun _ => rfl, fun h => absurd h (by decide)⟩ fun j hj s hs => ?_
  have h1 := hc j hj
  unfold chkCell at h1
  split at h1
  · cases h1
  rename_i h2
  split at h1
  · cases h1
  rename_i h3
  refine (back_cell (hin j hj) (by omega) (Ahead.rises (g := fun j => (f j).text) hs fun h0 => ?_) h1).mono fun x hx => ⟨hx, fun h => absurd h (by omega), fun _ => ?_⟩
  · cases hb : Op.bytesLess (f (j - 1)).text.toList (f j).text.toList
    · exact absurd ⟨h0, hb⟩ h3
    · rfl
  · show some x.text = some (f (j + 1 - 1)).text
    rw [hx.text]
    rfl
theorem back_gone {l : LT ByteArray} (hn : l.n ≤ 64) (h : Rises l) : Back goneS (listB keyB l.n l.item) (fun ys => ys.length = l.n ∧ ∀ j, j < l.n → ys.getD j ⟨#[]⟩ = l.item j) := by
  refine back_list (Q := fun k x => x = k) (⟨#[]⟩ : ByteArray) (Ahead l.item) hn (by omega) ⟨fun _ => rfl, fun h => absurd h (by decide)⟩ fun j hj s hs => ?_
  refine (back_rise (h j hj).1 (hs.rises (h j hj).2)).mono fun x hx => ⟨hx, fun h => absurd h (by omega), fun _ => ?_⟩
  show some x = some (l.item (j + 1 - 1))
  rw [hx]
  rfl
structure SAlike (s t : ST) : Prop where
  num : t.num = s.num
  n : t.n = s.n
  cell : ∀ j, j < s.n → CAlike (s.cell j) (t.cell j)
theorem back_state {w : World} {S : Nat → Prop} {s : ST} (hin : ∀ j, j < s.n → VT.In w S (s.cell j)) (h : chkState s = 0) : Back stateS (stateB s) (fun y => SAlike s y) := by
  have hv := vs_of h
  have hc : ∀ j, j < s.n → chkCell s.cell j = 0 := by
    unfold chkState at h
    split at h
    · cases h
    split at h
    · cases h
    exact firstC_all _ h
  have h0 := hv.num0
  have h1 := hv.num1
  refine (back_num (m := s.num.toNat) (by omega) (by omega)).bind fun n hn => ?_
  subst hn
  refine Back.map (back_cells hin hv.n hc) fun l hl => ⟨?_, hl.1, hl.2⟩
  show ((s.num.toNat : Nat) : Int) = s.num
  omega
theorem back_delta {w : World} {S : Nat → Prop} {d : DT} (hin : ∀ j, j < d.set.n → VT.In w S (d.set.item j)) (h : chkState ⟨(d.num : Int), d.set.p, d.set.n, d.set.c, d.set.item⟩ = 0) (hn : d.gone.n ≤ 64) (hr : Rises d.gone) :
    Back deltaS (deltaB d) (fun y => y.1 = d.num ∧ (y.2.1.length = d.set.n ∧ ∀ j, j < d.set.n → CAlike (d.set.item j) (y.2.1.getD j .nil)) ∧ (y.2.2.length = d.gone.n ∧ ∀ j, j < d.gone.n → y.2.2.getD j ⟨#[]⟩ = d.gone.item j)) := by
  have hv := vs_of h
  have hc : ∀ j, j < d.set.n → chkCell d.set.item j = 0 := by
    unfold chkState at h
    split at h
    · cases h
    split at h
    · cases h
    exact firstC_all _ h
  have h1 : (d.num : Int) ≤ 1073741824 := hv.num1
  refine (back_num (m := d.num) (by omega) (by omega)).bind fun n hn2 => (back_cells hin hv.n hc).bind fun c hcc => Back.map (back_gone hn hr) fun g hg => ⟨hn2, hcc, hg⟩
theorem back_file {u : Nat × Nat} (h1 : u.1 ≤ 65536) (h2 : u.2 < 4294967296) : Back fileS (fileB u) (fun y => y = u) := by
  refine (back_num h1 (by omega)).bind fun n hn => Back.map (back_word h2) fun x hx => ?_
  rw [hn, hx]
theorem back_man {m : MT} (h : VM m) : Back manS (manB m) (fun y => y.1 = m.id ∧ y.2.1 = m.sum ∧ y.2.2.length = m.rows.n ∧ ∀ j, j < m.rows.n → y.2.2.getD j (0, 0) = m.rows.item j) := by
  have h1 := h.id
  have h2 := h.n
  exact (back_first 77).bind fun _ _ => (back_num h1 (by omega)).bind fun i hi => (back_word h.sum).bind fun u hu => Back.map (back_plain (enc := fileB) (Q := fun u x => x = u) ((0, 0) : Nat × Nat) h2 (by omega) fun j hj => back_file (h.rows j hj).1 (h.rows j hj).2) fun l hl => ⟨hi, hu, hl.1, hl.2⟩
theorem back_row {w : World} {S : Nat → Prop} {o : OT} (hin : RT.In w S o.rec_) (hn : o.num ≤ 1073741824) (hr : chkRec o.rec_ = 0) : Back outS (outB o) (fun y => y.1 = o.num ∧ RT.Alike o.rec_ y.2) :=
  (back_first 79).bind fun _ _ => (back_num hn (by omega)).bind fun _ ha => Back.map (back_rec hin hr) fun _ h => ⟨ha, h⟩
structure GAlike (g : GT) (y : GP) : Prop where
  id : y.id = g.id
  task : y.task = g.task
  base : y.base = g.base
  sum : y.sum = g.sum
  st : SAlike g.st y.st
  dnum : y.dl.1 = g.d.num
  set : y.dl.2.1.length = g.d.set.n ∧ ∀ j, j < g.d.set.n → CAlike (g.d.set.item j) (y.dl.2.1.getD j .nil)
  gone : y.dl.2.2.length = g.d.gone.n ∧ ∀ j, j < g.d.gone.n → y.dl.2.2.getD j ⟨#[]⟩ = g.d.gone.item j
  logs : y.logs.length = g.logs.n ∧ ∀ j, j < g.logs.n → RecsAlike (g.logs.item j) (y.logs.getD j (mkLT zeroR []))
  pend : y.pend.length = g.pend.n ∧ ∀ j, j < g.pend.n → RT.Alike (g.pend.item j) (y.pend.getD j zeroR)
theorem back_seg {w : World} {S : Nat → Prop} {g : GT} (hin : GT.In w S g) (h : FG g) : Back segS (segB g) (fun y => GAlike g y) := by
  have hid := h.id
  have htk := h.task
  have hbs := h.base
  have hlg : Back logsL (listB recsB g.logs.n g.logs.item) _ := back_logs (w := w) (S := S) (fun j hj i hi => (hin.logs.each j hj).each i hi) h.ln h.ln2 h.logs
  have hpd : Back recsS (recsB g.pend) _ := back_recs (w := w) (S := S) (fun j hj => hin.pend.each j hj) h.pn h.pend
  refine (back_first 83).bind fun _ _ => (back_num hid (by omega)).bind fun i hi => (back_num htk (by omega)).bind fun t ht => (back_num hbs (by omega)).bind fun b hb => ?_
  subst hi ht hb
  by_cases h0 : g.base = 0
  · rw [if_pos h0, if_pos h0]
    obtain ⟨z1, z2, z3, z4, z5⟩ := h.zero0 h0
    refine (back_state (fun j hj => hin.st.i.each j hj) z5).bind fun s hs => hlg.bind fun l hl => Back.map hpd fun p hp => ?_
    exact ⟨rfl, rfl, h0.symm, z1.symm, hs, z2.symm, ⟨z3.symm, fun j hj => absurd hj (by omega)⟩, ⟨z4.symm, fun j hj => absurd hj (by omega)⟩, hl, hp⟩
  · rw [if_neg h0, if_neg h0]
    obtain ⟨z1, z2, z3, z4, z5⟩ := h.zero1 h0
    have key : Back (bindS wordS fun u => bindS deltaS fun d => bindS logsL fun l => bindS recsS fun p => retS (⟨g.id, g.task, g.base, u, mkS 0 [], d, l, p⟩ : GP)) (wordB g.sum ++ (deltaB g.d ++ (listB recsB g.logs.n g.logs.item ++ recsB g.pend))) (fun y => GAlike g y) :=
      (back_word h.sum).bind fun u hu => (back_delta (fun j hj => hin.d.set.each j hj) z3 z4 z5).bind fun d hd => hlg.bind fun l hl => Back.map hpd fun p hp =>
        ⟨rfl, rfl, rfl, hu, ⟨z1.symm, z2.symm, fun j hj => absurd hj (by omega)⟩, hd.1, hd.2.1, hd.2.2, hl, hp⟩
    exact key.eq (by simp [List.append_assoc])
end Go.Proofs.YtdbcdnljjgdkfaaGreat

namespace Go.Proofs.YtdbcdnljjgdkfaaGreat
open Go.RowKit
set_option maxRecDepth 8000

theorem first_bad {x y : Int} {L : List Int} (h : y ≠ x) : firstS x (y :: L) = .error 41 := by
  have e : takeS 1 (y :: L) = .ok ([y], L) := by simp [takeS]
  unfold firstS bindS
  rw [e]
  show (if y = x then retS () else failS 41) L = _
  rw [if_neg h]
  rfl
theorem seg_bad {y : Int} {L : List Int} (h : y ≠ 83) : segS (y :: L) = .error 41 := by
  unfold segS bindS
  rw [first_bad h]
theorem man_bad {y : Int} {L : List Int} (h : y ≠ 77) : manS (y :: L) = .error 41 := by
  unfold manS bindS
  rw [first_bad h]
theorem out_bad {y : Int} {L : List Int} (h : y ≠ 79) : outS (y :: L) = .error 41 := by
  unfold outS bindS
  rw [first_bad h]
theorem in_nilL {α : Type} {E : El α} (w : World) (S : Nat → Prop) (d : α) : LT.In E w S (noL d) :=
  ⟨fun h => absurd h (Nat.lt_irrefl 0), fun j h => absurd h (Nat.not_lt_zero j), Nat.le_refl 0, Nat.zero_le _, Nat.zero_le _, fun _ => ⟨rfl, rfl⟩⟩
theorem in_nilG (w : World) (S : Nat → Prop) : GI.In w S nilG := ⟨by decide, by decide, by decide, by decide, by decide, by decide, by decide, in_noS w S, by decide, by decide, in_nilL w S _, in_nilL w S _, in_nilL w S _, in_nilL w S _⟩
theorem in_nilR (w : World) (S : Nat → Prop) : RT.In w S nilR := by
  refine ⟨?_, ⟨fun h => absurd h (Nat.lt_irrefl 0), Nat.le_refl 0, Nat.zero_le _, Nat.zero_le _, fun j h => absurd h (Nat.not_lt_zero j), fun _ => ⟨rfl, rfl⟩⟩, by decide⟩
  have h := in_zero w S
  exact h

theorem in_nilM (w : World) (S : Nat → Prop) : LT.In elRowI w S nilM.rows := in_nilL w S _
theorem HI.only_in {w : World} {S : Nat → Prop} {t : HI} (h : HI.In w S t) : HI.In w S t.only := by
  unfold HI.only
  split
  · exact ⟨by simp, by simp, in_nilR w S, h.s, in_nilG w S, in_nilM w S, by simp [nilM], by simp [nilM], by simp [nilM], in_nilR w S, by simp [nilO], by simp [nilO]⟩
  split
  · exact ⟨by simp, by simp, in_nilR w S, in_noS w S, h.g, in_nilM w S, by simp [nilM], by simp [nilM], by simp [nilM], in_nilR w S, by simp [nilO], by simp [nilO]⟩
  split
  · exact ⟨by simp, by simp, in_nilR w S, in_noS w S, in_nilG w S, h.m, h.msum, h.m0, h.m1, in_nilR w S, by simp [nilO], by simp [nilO]⟩
  split
  · exact ⟨by simp, by simp, in_nilR w S, in_noS w S, in_nilG w S, in_nilM w S, by simp [nilM], by simp [nilM], by simp [nilM], h.o, h.o0, h.o1⟩
  · exact ⟨by simp, by simp, h.r, in_noS w S, in_nilG w S, in_nilM w S, by simp [nilM], by simp [nilM], by simp [nilM], in_nilR w S, by simp [nilO], by simp [nilO]⟩
theorem only_any (t : HI) (w : World) : Calls Tryz.prog 10 #[.agg t.cells] w fun x w' => x = .returned (.agg t.only.cells) ∧ Below w.heap.size w w' := by
  unfold HI.only
  split
  · rename_i h; exact only_2 t w h
  split
  · rename_i h; exact only_3 t w h
  split
  · rename_i h; exact only_4 t w h
  split
  · rename_i h; exact only_5 t w h
  · rename_i h2 h3 h4 h5; exact only_1 t w h2 h3 h4 h5
end Go.Proofs.YtdbcdnljjgdkfaaGreat
