import Derived.Test.YtoifpdnaeogdgabDoorPack20
import Derived.Test.YtoifpdnaeogdgabDoorPack4
namespace Go.Proofs.YtoifpdnaeogdgabDoor
open Go.RowKit
set_option maxRecDepth 8000

theorem b_lt (s : ByteArray) (a : Nat) : (s.get! a).toNat < 256 := (s.get! a).toNat_lt
/-- a rune below 128 is its own byte -/
theorem dec_low {s : ByteArray} {a : Nat} (h : (Utf8.decode s a).1 < 128) : (s.get! a).toNat = (Utf8.decode s a).1 ∧ (Utf8.decode s a).2 = 1 := by
  rw [Go.Lib.decode_at] at h ⊢
  unfold Go.Lib.decodeN at h ⊢
  repeat' split at h
  all_goals first
    | (simp only at h; omega)
    | skip
  all_goals simp_all
theorem hex_coded : ∀ l : List Int, (∀ x ∈ l, 0 ≤ x ∧ x < 256) → Coded l (hexB l) := by
  intro l
  induction l with
  | nil => intro _; exact .nil
  | cons x l ih =>
    intro h
    have e : hexB (x :: l) = [92, 120, hexd (x.toNat / 16), hexd (x.toNat % 16)] ++ hexB l := by simp [hexB]
    rw [e]
    exact .cons (.hex x (h x (by simp)).1 (h x (by simp)).2) (ih fun y hy => h y (by simp [hy]))
theorem raw_coded : ∀ l : List Int, (∀ x ∈ l, x ≠ 34 ∧ x ≠ 92) → Coded l l := by
  intro l
  induction l with
  | nil => intro _; exact .nil
  | cons x l ih =>
    intro h
    have e : x :: l = [x] ++ l := rfl
    have k : Coded (x :: l) ([x] ++ l) := .cons (.raw x (h x (by simp)).1 (h x (by simp)).2) (ih fun y hy => h y (by simp [hy]))
    exact k
theorem take1 {s : ByteArray} {a : Nat} (h : a < s.size) : ((txtB s).drop a).take 1 = [((s.get! a).toNat : Int)] := by
  rw [dropC (get_txt s h)]; rfl
theorem take2 {s : ByteArray} {a : Nat} (h : a + 1 < s.size) : ((txtB s).drop a).take 2 = [((s.get! a).toNat : Int), ((s.get! (a + 1)).toNat : Int)] := by
  rw [dropC (get_txt s (by omega)), dropC (get_txt s h)]; rfl
theorem take3 {s : ByteArray} {a : Nat} (h : a + 2 < s.size) : ((txtB s).drop a).take 3 = [((s.get! a).toNat : Int), ((s.get! (a + 1)).toNat : Int), ((s.get! (a + 2)).toNat : Int)] := by
  rw [dropC (get_txt s (by omega)), dropC (get_txt s (by omega)), dropC (get_txt s h)]; rfl
theorem take4 {s : ByteArray} {a : Nat} (h : a + 3 < s.size) : ((txtB s).drop a).take 4 = [((s.get! a).toNat : Int), ((s.get! (a + 1)).toNat : Int), ((s.get! (a + 2)).toNat : Int), ((s.get! (a + 3)).toNat : Int)] := by
  rw [dropC (get_txt s (by omega)), dropC (get_txt s (by omega)), dropC (get_txt s (by omega)), dropC (get_txt s h)]; rfl
theorem txt1 (a : UInt8) : txtB ⟨#[a]⟩ = [(a.toNat : Int)] := rfl
theorem txt2 (a b : UInt8) : txtB ⟨#[a, b]⟩ = [(a.toNat : Int), (b.toNat : Int)] := rfl
theorem txt3 (a b c : UInt8) : txtB ⟨#[a, b, c]⟩ = [(a.toNat : Int), (b.toNat : Int), (c.toNat : Int)] := rfl
theorem txt4 (a b c d : UInt8) : txtB ⟨#[a, b, c, d]⟩ = [(a.toNat : Int), (b.toNat : Int), (c.toNat : Int), (d.toNat : Int)] := rfl
theorem u8n {n : Nat} (h : n < 256) : ((UInt8.ofNat n).toNat : Int) = (n : Int) := by rw [UInt8.toNat_ofNat', Nat.mod_eq_of_lt h]
/-- what a valid rune is written as -/
theorem enc_one {r : Nat} (h : r < 128) : txtB (Utf8.encode (r : Int)) = [(r : Int)] := by
  have hv : Utf8.valid (r : Int) = true := by simp [Utf8.valid]; omega
  unfold Utf8.encode
  simp only [hv, if_true, Int.toNat_natCast]
  rw [if_pos (by omega), txt1, u8n (by omega)]
theorem enc_two {r : Nat} (h0 : 128 ≤ r) (h : r < 2048) : txtB (Utf8.encode (r : Int)) = [((192 + r / 64 : Nat) : Int), ((128 + r % 64 : Nat) : Int)] := by
  have hv : Utf8.valid (r : Int) = true := by simp [Utf8.valid]; omega
  unfold Utf8.encode
  simp only [hv, if_true, Int.toNat_natCast]
  rw [if_neg (by omega), if_pos (by omega), txt2, u8n (by omega), u8n (by omega)]
theorem enc_three {r : Nat} (h0 : 2048 ≤ r) (h : r < 65536) (hv : r < 55296 ∨ 57344 ≤ r) : txtB (Utf8.encode (r : Int)) = [((224 + r / 4096 : Nat) : Int), ((128 + r / 64 % 64 : Nat) : Int), ((128 + r % 64 : Nat) : Int)] := by
  have hv : Utf8.valid (r : Int) = true := by simp [Utf8.valid]; omega
  unfold Utf8.encode
  simp only [hv, if_true, Int.toNat_natCast]
  rw [if_neg (by omega), if_neg (by omega), if_pos (by omega), txt3, u8n (by omega), u8n (by omega), u8n (by omega)]
theorem enc_four {r : Nat} (h0 : 65536 ≤ r) (h : r ≤ 1114111) : txtB (Utf8.encode (r : Int)) = [((240 + r / 262144 : Nat) : Int), ((128 + r / 4096 % 64 : Nat) : Int), ((128 + r / 64 % 64 : Nat) : Int), ((128 + r % 64 : Nat) : Int)] := by
  have hv : Utf8.valid (r : Int) = true := by simp [Utf8.valid]; omega
  unfold Utf8.encode
  simp only [hv, if_true, Int.toNat_natCast]
  rw [if_neg (by omega), if_neg (by omega), if_neg (by omega), txt4, u8n (by omega), u8n (by omega), u8n (by omega), u8n (by omega)]
/-- a rune of several bytes is written as it stands -/
theorem enc_back {s : ByteArray} {a : Nat} (ha : a < s.size) (h : 1 < (Utf8.decode s a).2) : txtB (Utf8.encode ((Utf8.decode s a).1 : Int)) = ((txtB s).drop a).take (Utf8.decode s a).2 ∧ ∀ x ∈ ((txtB s).drop a).take (Utf8.decode s a).2, x ≠ 34 ∧ x ≠ 92 := by
  have hw := (dec_width s a).2.2 ha
  have hb0 := b_lt s a
  have hb1 := b_lt s (a + 1)
  have hb2 := b_lt s (a + 2)
  have hb3 := b_lt s (a + 3)
  revert h hw
  rw [Go.Lib.decode_at]
  unfold Go.Lib.decodeN
  split
  · intro h; simp only at h; omega
  split
  · rename_i h1 h2
    split
    · rename_i h3
      intro _ hw
      simp only at hw ⊢
      rw [take2 (by omega), enc_two (by omega) (by omega)]
      refine ⟨by congr 1; omega; congr 1; omega, ?_⟩
      intro x hx
      simp only [List.mem_cons, List.not_mem_nil, or_false] at hx
      omega
    · intro h; simp only at h; omega
  split
  · rename_i h1 h2 h3
    split
    · rename_i h4
      intro _ hw
      simp only at hw ⊢
      rw [take3 (by omega), enc_three (by omega) (by omega) (by omega)]
      refine ⟨by congr 1; omega; congr 1; omega; congr 1; omega, ?_⟩
      intro x hx
      simp only [List.mem_cons, List.not_mem_nil, or_false] at hx
      omega
    · intro h; simp only at h; omega
  split
  · rename_i h1 h2 h3 h4
    split
    · rename_i h5
      intro _ hw
      simp only at hw ⊢
      rw [take4 (by omega), enc_four (by omega) (by omega)]
      refine ⟨by congr 1; omega; congr 1; omega; congr 1; omega; congr 1; omega, ?_⟩
      intro x hx
      simp only [List.mem_cons, List.not_mem_nil, or_false] at hx
      omega
    · intro h; simp only at h; omega
  · intro h; simp only at h; omega
theorem txt_range (s : ByteArray) : ∀ x ∈ txtB s, 0 ≤ x ∧ x < 256 := by
  intro x hx
  unfold txtB at hx
  obtain ⟨b, _, rfl⟩ := List.mem_map.1 hx
  have := b.toNat_lt
  omega
theorem piece_coded {s : ByteArray} {a : Nat} (ha : a < s.size) : Coded (((txtB s).drop a).take (Utf8.decode s a).2) (piece s a) := by
  unfold piece
  split
  · rename_i h
    obtain ⟨e1, e2⟩ := dec_low (s := s) (a := a) (by omega)
    rw [e2, take1 ha, e1]
    rcases h with h | h
    · rw [h]; exact .cons .quo .nil
    · rw [h]; exact .cons .bsl .nil
  split
  · rename_i h1 h
    obtain ⟨e1, e2⟩ := dec_low (s := s) (a := a) (by omega)
    rw [e2, take1 ha, e1, h]
    exact .cons .nl .nil
  split
  · rename_i h1 h2 h
    obtain ⟨e1, e2⟩ := dec_low (s := s) (a := a) (by omega)
    rw [e2, take1 ha, e1, h]
    exact .cons .tab .nil
  split
  · rename_i h1 h2 h3 h
    rcases h with h | h
    · obtain ⟨e1, e2⟩ := dec_low (s := s) (a := a) (by omega)
      rw [e2, take1 ha, e1, enc_one (by omega)]
      exact raw_coded _ (by intro x hx; simp only [List.mem_cons, List.not_mem_nil, or_false] at hx; omega)
    · obtain ⟨e1, e2⟩ := enc_back ha h.2
      rw [e1]
      exact raw_coded _ e2
  · exact hex_coded _ fun x hx => txt_range s x (List.mem_of_mem_drop (List.mem_of_mem_take hx))
theorem quoF_coded (s : ByteArray) : ∀ k a, s.size ≤ a + k → Coded ((txtB s).drop a) (quoF s k a) := by
  intro k
  induction k with
  | zero =>
    intro a h
    rw [List.drop_of_length_le (by rw [txtB_len]; omega)]
    exact .nil
  | succ k ih =>
    intro a h
    by_cases ha : a < s.size
    · rw [quoF_more s ha]
      have hw := dec_width s a
      have h2 := ih (a + (Utf8.decode s a).2) (by omega)
      have h3 := (piece_coded ha).app h2
      rw [← List.drop_drop, List.take_append_drop] at h3
      exact h3
    · rw [quoF_end s ha, List.drop_of_length_le (by rw [txtB_len]; omega)]
      exact .nil
theorem quo_inj {s u : ByteArray} {r1 r2 : List Int} (h : quoB s ++ r1 = quoB u ++ r2) : s = u ∧ r1 = r2 := by
  unfold quoB at h
  simp only [List.append_assoc, List.cons_append, List.nil_append, List.cons.injEq, true_and] at h
  have h1 := quoF_coded s s.size 0 (by omega)
  have h2 := quoF_coded u u.size 0 (by omega)
  rw [List.drop_zero] at h1 h2
  obtain ⟨e1, e2⟩ := coded_inj h1 h2 r1 r2 h
  exact ⟨txtB_inj e1, e2⟩
end Go.Proofs.YtoifpdnaeogdgabDoor

namespace Go.Proofs.YtoifpdnaeogdgabDoor
open Go.RowKit
set_option maxRecDepth 8000

theorem chk_parts {k i : Int} {s : ByteArray} {n : Nat} {p : Option Addr} {c : Nat} {f : Nat → VT} {d q q' : Nat} (h : chk (.mk k i s n p c f) d q = (0, q')) :
    q < 12 ∧ fitB k i s n = true ∧ ¬ (k = 3 ∧ 3 ≤ d) ∧ s.size ≤ 24 ∧ n ≤ 6 ∧ stepN (fun j m => chk (f j) (d + 1) m) (q + 1) n = (0, q') := by
  rw [chk_eq] at h
  by_cases h1 : 12 ≤ q
  · rw [if_pos h1] at h; simp at h
  rw [if_neg h1] at h
  by_cases h2 : fitB k i s n = false
  · rw [if_pos h2] at h; simp at h
  rw [if_neg h2] at h
  by_cases h3 : k = 3 ∧ 3 ≤ d
  · rw [if_pos h3] at h; simp at h
  rw [if_neg h3] at h
  by_cases h4 : 24 < s.size
  · rw [if_pos h4] at h; simp at h
  rw [if_neg h4] at h
  by_cases h5 : 6 < n
  · rw [if_pos h5] at h; simp at h
  rw [if_neg h5] at h
  exact ⟨by omega, by simpa using h2, h3, by omega, by omega, h⟩
/-- the bytes of the first m items -/
def encN (f : Nat → VT) (m : Nat) : List Int := (List.range m).flatMap fun j => encB (f j)
theorem encN_succ (f : Nat → VT) (m : Nat) : encN f (m + 1) = encN f m ++ encB (f m) := by
  unfold encN
  rw [List.range_succ, List.flatMap_append]
  simp
theorem encN_pre (f : Nat → VT) {k N : Nat} (hk : k ≤ N) : ∃ r, encN f N = encN f k ++ r := by
  obtain ⟨e, rfl⟩ : ∃ e, N = k + e := ⟨N - k, by omega⟩
  clear hk
  induction e with
  | zero => exact ⟨[], by simp⟩
  | succ e ihe =>
    obtain ⟨r, hr⟩ := ihe
    exact ⟨r ++ encB (f (k + e)), by rw [← Nat.add_assoc, encN_succ, hr, List.append_assoc]⟩
theorem empty_toList : (⟨#[]⟩ : ByteArray).toList = [] := by rw [Go.Lib.toList_data]
theorem enc_pos (t : VT) : 0 < (encB t).length := by
  cases t with
  | nil => simp [encB]
  | mk k i s n p c f => rw [encB_eq]; simp
/-- what reading makes of a valid value's bytes, whole or cut -/
def Reads (f : Nat → Int) (n : Nat) (t : VT) (d : Nat) (g : Nat → Nat → DR) : Prop := ∀ a q q', chk t d q = (0, q') → (∀ j x, (encB t)[j]? = some x → f (a + j) = x) →
  (a + (encB t).length ≤ n → ∃ u, g a q = .ok (u, a + (encB t).length, q') ∧ VT.Alike t u) ∧ (n < a + (encB t).length → g a q = .error 28)
theorem stepN_zero {g : Nat → Nat → Nat × Nat} {m n q' : Nat} (h : stepN g m n = (0, q')) {j : Nat} (hj : j ≤ n) : (stepN g m j).1 = 0 := by
  by_cases hz : (stepN g m j).1 = 0
  · exact hz
  · have := stepN_stuck hj hz
    rw [this] at h
    rw [h] at hz
    exact absurd rfl hz
theorem items_read {f : Nat → Int} {n d : Nat} {g : Nat → Nat → DR} {h : Nat → VT} {N : Nat} (hg : ∀ j, j < N → Reads f n (h j) (d + 1) g) (a q : Nat) (hq : ∀ j, j ≤ N → (stepN (fun j m => chk (h j) (d + 1) m) q j).1 = 0)
    (hb : ∀ j x, (encN h N)[j]? = some x → f (a + j) = x) : ∀ m, m ≤ N →
    (a + (encN h m).length ≤ n → ∃ l, itemsS g m a q = .ok (l, a + (encN h m).length, (stepN (fun j m => chk (h j) (d + 1) m) q m).2) ∧ l.length = m ∧ ∀ j, j < m → VT.Alike (h j) (l.getD j .nil)) ∧ (n < a + (encN h m).length → a ≤ n → itemsS g m a q = .error 28) := by
  intro m
  induction m with
  | zero => intro _; exact ⟨fun _ => ⟨[], rfl, rfl, fun j hj => absurd hj (by omega)⟩, fun h1 h2 => by simp [encN] at h1; omega⟩
  | succ m ih =>
    intro hm
    obtain ⟨ih1, ih2⟩ := ih (by omega)
    obtain ⟨r, hr⟩ := encN_pre h hm
    have hbm : ∀ j x, (encB (h m))[j]? = some x → f (a + (encN h m).length + j) = x := by
      intro j x hj
      rw [Nat.add_assoc]
      apply hb
      rw [hr, encN_succ, List.append_assoc, List.getElem?_append_right (by omega), Nat.add_sub_cancel_left]
      have hlt : j < (encB (h m)).length := by
        rcases Nat.lt_or_ge j (encB (h m)).length with h1 | h1
        · exact h1
        · rw [List.getElem?_eq_none h1] at hj; cases hj
      rw [List.getElem?_append_left hlt]
      exact hj
    have hz := hq (m + 1) hm
    rw [stepN_succ (hq m (by omega))] at hz
    obtain ⟨q2, hq2⟩ : ∃ q2, chk (h m) (d + 1) (stepN (fun j m => chk (h j) (d + 1) m) q m).2 = (0, q2) := ⟨_, Prod.ext hz rfl⟩
    have hG := hg m (by omega) (a + (encN h m).length) _ q2 hq2 hbm
    have hst : (stepN (fun j m => chk (h j) (d + 1) m) q (m + 1)).2 = q2 := by rw [stepN_succ (hq m (by omega)), hq2]
    have hl : (encN h (m + 1)).length = (encN h m).length + (encB (h m)).length := by rw [encN_succ, List.length_append]
    rw [hl, hst]
    refine ⟨fun hn => ?_, fun hn ha => ?_⟩
    · obtain ⟨l, e1, e2, e3⟩ := ih1 (by omega)
      obtain ⟨u, e4, e5⟩ := hG.1 (by omega)
      refine ⟨l ++ [u], by rw [itemsS_next e1 e4, Nat.add_assoc], by simp [e2], fun j hj => ?_⟩
      by_cases hjm : j < m
      · have := e3 j hjm
        simpa [List.getD_eq_getElem?_getD, List.getElem?_append_left (show j < l.length by omega)] using this
      · obtain rfl : j = m := by omega
        simpa [List.getD_eq_getElem?_getD, List.getElem?_append_right (show l.length ≤ j by omega), e2] using e5
    · by_cases hn2 : a + (encN h m).length ≤ n
      · obtain ⟨l, e1, e2, e3⟩ := ih1 hn2
        exact itemsS_stuck e1 (hG.2 (by omega)) (by omega)
      · rw [itemsS, ih2 (by omega) ha]
theorem part_read {f : Nat → Int} {n d : Nat} {g : Nat → Nat → DR} {t : VT} (ht : Val t) (hg : d < 3 → ∀ j, j < t.n → Reads f n (t.item j) (d + 1) g) : Reads f n t d (partS f n g d) := by
  cases t with
  | nil => exact ht.elim
  | mk k i s N p c h =>
    intro a q q' hc hb
    obtain ⟨hq, hf, hk3, hs, hN, hst⟩ := chk_parts hc
    obtain ⟨⟨_, _, _, hi1, hi2⟩, hval⟩ := ht
    obtain ⟨⟨k0, k3⟩, fi, fs, fn⟩ := fit_facts hf
    simp only [VT.n_mk, VT.item_mk] at hg
    rw [encB_eq] at hb ⊢
    have h0 := hb 0 k rfl
    simp only [Nat.add_zero] at h0
    unfold partS
    rw [h0]
    have htail : ∀ j x, (if k = 1 then grpB (foldN i) else if k = 2 then (s.size : Int) :: txtB s else if k = 3 then (N : Int) :: (List.range N).flatMap fun j => encB (h j) else [])[j]? = some x → f (a + 1 + j) = x := by
      intro j x hj
      have := hb (j + 1) x (by simpa using hj)
      rw [← this]; congr 1; omega
    clear hb h0
    simp only [List.length_cons]
    rcases (by omega : k = 0 ∨ k = 1 ∨ k = 2 ∨ k = 3) with rfl | rfl | rfl | rfl
    · simp only [show ¬ (0 : Int) = 1 by decide, show ¬ (0 : Int) = 2 by decide, show ¬ (0 : Int) = 3 by decide, or_false, if_false, List.length_nil] at fi fs fn htail ⊢
      subst fi fn
      refine ⟨fun hn => ⟨mkN, ?_, ⟨rfl, rfl, nil_text empty_toList fs, rfl, fun j hj => absurd hj (by omega)⟩⟩, fun hn => if_pos (by omega)⟩
      have e : q' = q + 1 := by have := congrArg Prod.snd hst; simpa [stepN] using this.symm
      rw [if_neg (by omega), if_neg (by omega), if_neg (by decide), if_neg (by simp), if_pos (by decide), e]
    · simp only [show ¬ (1 : Int) = 2 by decide, show ¬ (1 : Int) = 3 by decide, or_false, if_true] at fs fn htail ⊢
      subst fn
      have e : q' = q + 1 := by have := congrArg Prod.snd hst; simpa [stepN] using this.symm
      have hfo := foldN_lt hi1 hi2
      obtain ⟨g1, g2⟩ := grp_full f n (foldN i) (a + 1) 0 0 (by simpa using hfo) (fun h => by omega) (by decide) (by omega) htail
      simp only [Nat.sub_zero, Nat.zero_add, Nat.mul_zero, Nat.pow_zero, Nat.mul_one] at g1 g2
      refine ⟨fun hn => ⟨mkI i, ?_, ⟨rfl, rfl, nil_text empty_toList fs, rfl, fun j hj => absurd hj (by omega)⟩⟩, fun hn => ?_⟩
      · rw [if_neg (by omega), if_neg (by omega), if_neg (by decide), if_neg (by simp), if_neg (by decide), if_pos (by decide), g1 (by omega), e]
        simp only [unfold_fold]
        congr 3
        omega
      · by_cases hn2 : n ≤ a
        · exact if_pos hn2
        · rw [if_neg hn2, if_neg (by omega), if_neg (by decide), if_neg (by simp), if_neg (by decide), if_pos (by decide), g2 (by omega)]
    · simp only [show ¬ (2 : Int) = 1 by decide, show ¬ (2 : Int) = 3 by decide, or_false, if_true, if_false] at fi fn htail ⊢
      subst fi fn
      have e : q' = q + 1 := by have := congrArg Prod.snd hst; simpa [stepN] using this.symm
      have h1 := htail 0 _ rfl
      simp only [Nat.add_zero] at h1
      have hby : bytesAt f (a + 2) s.size = txtB s := by
        apply List.ext_getElem?
        intro j
        rcases Nat.lt_or_ge j s.size with hj | hj
        · have hj2 : j < (txtB s).length := by rw [txtB_len]; exact hj
          have := htail (j + 1) ((txtB s)[j]'hj2) (by simp [List.getElem?_eq_getElem hj2])
          rw [List.getElem?_eq_getElem hj2, ← this]
          simp only [bytesAt, List.getElem?_map, List.getElem?_range hj, Option.map_some]
          congr 2
          omega
        · rw [List.getElem?_eq_none (by rw [bytesAt_len]; exact hj), List.getElem?_eq_none (by rw [txtB_len]; exact hj)]
      simp only [List.length_cons, txtB_len]
      rw [h1]
      refine ⟨fun hn => ⟨mkT s, ?_, ⟨rfl, rfl, rfl, rfl, fun j hj => absurd hj (by omega)⟩⟩, fun hn => ?_⟩
      · rw [if_neg (by omega), if_neg (by omega), if_neg (by decide), if_neg (by simp), if_neg (by decide), if_neg (by decide), if_neg (by omega), if_pos (by decide)]
        simp only [Int.toNat_natCast]
        rw [if_neg (by omega), if_neg (by omega), hby, strOf_txt, e]
        congr 3
        omega
      · by_cases hn2 : n ≤ a
        · exact if_pos hn2
        · rw [if_neg hn2, if_neg (by omega), if_neg (by decide), if_neg (by simp), if_neg (by decide), if_neg (by decide)]
          by_cases hn3 : n ≤ a + 1
          · exact if_pos hn3
          · rw [if_neg hn3, if_pos (by decide)]
            simp only [Int.toNat_natCast]
            rw [if_neg (by omega), if_pos (by omega)]
    · simp only [show ¬ (3 : Int) = 1 by decide, show ¬ (3 : Int) = 2 by decide, or_false, if_true, if_false] at fi fs htail ⊢
      subst fi
      have hd : d < 3 := by
        rcases Nat.lt_or_ge d 3 with h1 | h1
        · exact h1
        · exact absurd ⟨rfl, h1⟩ hk3
      have h1 := htail 0 _ rfl
      simp only [Nat.add_zero] at h1
      have hz : ∀ j, j ≤ N → (stepN (fun j m => chk (h j) (d + 1) m) (q + 1) j).1 = 0 := fun j hj => stepN_zero hst hj
      obtain ⟨r1, r2⟩ := items_read (hg hd) (a + 2) (q + 1) hz (fun j x hj => by
        have := htail (j + 1) x (by simpa [encN] using hj)
        rw [← this]; congr 1; omega) N (Nat.le_refl _)
      simp only [List.length_cons]
      rw [show ((List.range N).flatMap fun j => encB (h j)) = encN h N from rfl, h1]
      rw [hst] at r1
      simp only at r1
      have hd3 : ¬ ((3 : Int).toNat = 3 ∧ 3 ≤ d) := fun hx => by omega
      refine ⟨fun hn => ?_, fun hn => ?_⟩
      · obtain ⟨l, e1, e2, e3⟩ := r1 (by omega)
        refine ⟨mkL l, ?_, ⟨rfl, rfl, nil_text empty_toList fs, by show l.length = N; exact e2, fun j hj => e3 j hj⟩⟩
        rw [if_neg (by omega), if_neg (by omega), if_neg (by decide), if_neg hd3, if_neg (by decide), if_neg (by decide), if_neg (by omega), if_neg (by decide)]
        simp only [Int.toNat_natCast]
        rw [if_neg (by omega), e1]
        simp only
        congr 3
        omega
      · by_cases hn2 : n ≤ a
        · exact if_pos hn2
        · rw [if_neg hn2, if_neg (by omega), if_neg (by decide), if_neg hd3, if_neg (by decide), if_neg (by decide)]
          by_cases hn3 : n ≤ a + 1
          · exact if_pos hn3
          · rw [if_neg hn3, if_neg (by decide)]
            simp only [Int.toNat_natCast]
            rw [if_neg (by omega), r2 (by omega) (by omega)]
theorem dec_read {f : Nat → Int} {n : Nat} : ∀ (t : VT) (d : Nat), Val t → d ≤ 3 → Reads f n t d (decS f n (3 - d) d) := by
  intro t
  induction t with
  | nil => intro d h; exact h.elim
  | mk k i s N p c h ih =>
    intro d hv hd
    by_cases h3 : d = 3
    · subst h3
      exact part_read hv (fun h => by omega)
    · rw [show 3 - d = (3 - (d + 1)) + 1 by omega]
      exact part_read hv (fun hd2 j hj => ih j (d + 1) (hv.2 j hj) (by omega))
end Go.Proofs.YtoifpdnaeogdgabDoor

namespace Go.Proofs.YtoifpdnaeogdgabDoor
open Go.RowKit
set_option maxRecDepth 8000

/-- these bytes stand at this place -/
def Has (s : ByteArray) (a : Nat) (zs : List Int) : Prop := ∀ j x, zs[j]? = some x → (pk s (a + j) : Int) = x ∧ a + j < s.size
theorem Has.app {s : ByteArray} {a : Nat} {xs ys : List Int} (h : Has s a (xs ++ ys)) : Has s a xs ∧ Has s (a + xs.length) ys := by
  refine ⟨fun j x hj => ?_, fun j x hj => ?_⟩
  · have hl : j < xs.length := (List.getElem?_eq_some_iff.1 hj).1
    exact h j x (by rw [List.getElem?_append_left hl]; exact hj)
  · have := h (xs.length + j) x (by rw [List.getElem?_append_right (by omega), Nat.add_sub_cancel_left]; exact hj)
    rw [Nat.add_assoc]; exact this
theorem Has.cons {s : ByteArray} {a : Nat} {x : Int} {xs : List Int} (h : Has s a (x :: xs)) : ((pk s a : Int) = x ∧ a < s.size) ∧ Has s (a + 1) xs := by
  refine ⟨h 0 x rfl, fun j y hj => ?_⟩
  have := h (j + 1) y (by simpa using hj)
  rw [show a + 1 + j = a + (j + 1) by omega]; exact this
/-- no digit -/
def NoDig (c : Nat) : Prop := ¬ (48 ≤ c ∧ c ≤ 57)

theorem word_has {s : ByteArray} : ∀ (l : List Nat) (a : Nat), Has s a (l.map fun c : Nat => (c : Int)) → wordS s l a = .ok (a + l.length)
  | [], a, _ => rfl
  | c :: r, a, h => by
    rw [List.map_cons] at h
    obtain ⟨⟨h1, _⟩, h2⟩ := h.cons
    unfold wordS
    rw [if_pos (by omega), word_has r (a + 1) h2, List.length_cons]
    congr 1
    omega
theorem none_has {s : ByteArray} {a : Nat} (h : Has s a [110, 111, 110, 101]) : noneS s a = .ok (mkN, a + 4) := by
  unfold noneS
  rw [word_has [110, 111, 110, 101] a h]
  rfl

/-! numbers -/
theorem dec_digits : ∀ u : Nat, (∀ c ∈ Go.Lib.decDigits u, 48 ≤ c.toNat ∧ c.toNat ≤ 57) ∧ (1 ≤ u → ∃ c r, Go.Lib.decDigits u = c :: r ∧ 49 ≤ c.toNat) := by
  intro u
  induction u using Nat.strongRecOn with
  | ind u ih =>
    rw [Go.Lib.decDigits]
    by_cases h : u < 10
    · rw [dif_pos h]
      have e : (UInt8.ofNat (48 + u)).toNat = 48 + u := by rw [UInt8.toNat_ofNat', Nat.mod_eq_of_lt (by omega)]
      refine ⟨fun c hc => ?_, fun h1 => ⟨_, _, rfl, by rw [e]; omega⟩⟩
      simp only [List.mem_singleton] at hc
      subst hc
      rw [e]; omega
    · rw [dif_neg h]
      obtain ⟨i1, i2⟩ := ih (u / 10) (by omega)
      have e : (UInt8.ofNat (48 + u % 10)).toNat = 48 + u % 10 := by rw [UInt8.toNat_ofNat', Nat.mod_eq_of_lt (by omega)]
      refine ⟨fun c hc => ?_, fun _ => ?_⟩
      · rcases List.mem_append.1 hc with hc | hc
        · exact i1 c hc
        · simp only [List.mem_singleton] at hc
          subst hc
          rw [e]; omega
      · obtain ⟨c, r, h1, h2⟩ := i2 (by omega)
        exact ⟨c, _, by rw [h1, List.cons_append], h2⟩
theorem uint_dec : ∀ (u : Nat) (r : List UInt8), u ≤ 18446744073709551615 → Lib.parseUintM 18446744073709551615 0 (Go.Lib.decDigits u ++ r) = Lib.parseUintM 18446744073709551615 u r := by
  intro u
  induction u using Nat.strongRecOn with
  | ind u ih =>
    intro r hu
    rw [Go.Lib.decDigits]
    by_cases h : u < 10
    · rw [dif_pos h]
      have e : (UInt8.ofNat (48 + u)).toNat = 48 + u := by rw [UInt8.toNat_ofNat', Nat.mod_eq_of_lt (by omega)]
      simp only [List.cons_append, List.nil_append]
      conv => lhs; unfold Lib.parseUintM
      rw [e, if_pos (by omega), if_neg (by omega), if_neg (by omega)]
      congr 1
      omega
    · rw [dif_neg h, List.append_assoc, ih (u / 10) (by omega) _ (by omega)]
      have e : (UInt8.ofNat (48 + u % 10)).toNat = 48 + u % 10 := by rw [UInt8.toNat_ofNat', Nat.mod_eq_of_lt (by omega)]
      simp only [List.cons_append, List.nil_append]
      conv => lhs; unfold Lib.parseUintM
      rw [e, if_pos (by omega), if_neg (by omega), if_neg (by omega)]
      congr 1
      omega
theorem uintB_dec (u : Nat) (hu : u ≤ 18446744073709551615) : Lib.parseUintB 64 (Go.Lib.decDigits u) = .ok u := by
  have h := uint_dec u [] hu
  rw [List.append_nil] at h
  have hne : Go.Lib.decDigits u ≠ [] := by
    intro e
    have := Go.Lib.decDigits_length u
    rw [e] at this
    have h2 : 1 ≤ Go.Lib.nDigits u := by rw [Go.Lib.nDigits]; split <;> omega
    simp at this
    omega
  unfold Lib.parseUintB
  rw [if_neg hne]
  show Lib.parseUintM 18446744073709551615 0 _ = _
  rw [h]
  rfl
theorem int_itoa (i : Int) (h1 : -9223372036854775808 ≤ i) (h2 : i ≤ 9223372036854775807) : Lib.parseIntB 64 (Go.Lib.itoa i) = .ok i := by
  unfold Go.Lib.itoa
  by_cases h : i < 0
  · rw [if_pos h, Lib.parseIntB_minus, uintB_dec _ (by omega)]
    simp only [Lib.signedC, show (2 : Nat) ^ (64 - 1) = 9223372036854775808 by decide]
    rw [if_neg (by omega)]
    congr 1
    omega
  · rw [if_neg h]
    obtain ⟨d1, d2⟩ := dec_digits i.toNat
    have hu := uintB_dec i.toNat (by omega)
    cases hd : Go.Lib.decDigits i.toNat with
    | nil => rw [hd] at hu; simp [Lib.parseUintB] at hu
    | cons c r =>
      have hc := d1 c (by rw [hd]; simp)
      rw [hd] at hu
      rw [Lib.parseIntB_plain 64 c r (by omega) (by omega), hu]
      simp only [Lib.signlessC, show (2 : Nat) ^ (64 - 1) = 9223372036854775808 by decide]
      rw [if_neg (by omega)]
      congr 1
      omega
theorem dgE_run {s : ByteArray} : ∀ (m b : Nat), (∀ j, j < m → 48 ≤ pk s (b + j) ∧ pk s (b + j) ≤ 57) → NoDig (pk s (b + m)) → dgE s b = b + m := by
  intro m
  induction m with
  | zero => intro b _ h; exact dgE_stop h
  | succ m ih =>
    intro b h1 h2
    rw [← dgE_step (s := s) (a := b) (h1 0 (by omega))]
    rw [ih (b + 1) (fun j hj => by have := h1 (j + 1) (by omega); rw [show b + 1 + j = b + (j + 1) by omega]; exact this) (by rw [show b + 1 + m = b + (m + 1) by omega]; exact h2)]
    omega
theorem has_list {s : ByteArray} {a : Nat} {l : List UInt8} (h : Has s a (l.map fun b => (b.toNat : Int))) : cutL s a (a + l.length) = l ∧ ∀ j (hj : j < l.length), pk s (a + j) = (l[j]'hj).toNat := by
  have hk : ∀ j (hj : j < l.length), pk s (a + j) = (l[j]'hj).toNat ∧ a + j < s.size := fun j hj => by
    obtain ⟨h1, h2⟩ := h j _ (by rw [List.getElem?_map, List.getElem?_eq_getElem hj]; rfl)
    have h3 : (pk s (a + j) : Int) = ((l[j]'hj).toNat : Int) := h1
    exact ⟨by omega, h2⟩
  refine ⟨?_, fun j hj => (hk j hj).1⟩
  rw [cutL_eq, Nat.add_sub_cancel_left]
  apply List.ext_getElem?
  intro j
  rcases Nat.lt_or_ge j l.length with hj | hj
  · obtain ⟨h1, h2⟩ := hk j hj
    rw [List.getElem?_take_of_lt hj, List.getElem?_drop, List.getElem?_eq_getElem hj]
    rw [pk_at h2] at h1
    have h3 : s.data.toList[a + j]? = some (s.data[a + j]'h2) := by rw [Array.getElem?_toList, Array.getElem?_eq_getElem h2]
    rw [h3]
    exact congrArg some (UInt8.toNat_inj.1 h1)
  · rw [List.getElem?_eq_none hj, List.getElem?_eq_none (by rw [List.length_take]; omega)]
theorem int_has {s : ByteArray} {a : Nat} (i : Int) (h1 : -9223372036854775808 ≤ i) (h2 : i ≤ 9223372036854775807) (h : Has s a (itoaB i)) (hn : NoDig (pk s (a + (itoaB i).length))) : intS s a = .ok (mkI i, a + (itoaB i).length) := by
  have hl : (itoaB i).length = (Go.Lib.itoa i).length := by simp [itoaB]
  obtain ⟨c1, c2⟩ := has_list (l := Go.Lib.itoa i) h
  have hp := int_itoa i h1 h2
  rw [hl] at hn ⊢
  by_cases h0 : i = 0
  · subst h0
    have e : Go.Lib.itoa 0 = [48] := by unfold Go.Lib.itoa; rw [if_neg (by omega)]; exact Go.Lib.decDigits_one (by decide)
    rw [e] at c2 ⊢
    have := c2 0 (by simp)
    unfold intS
    rw [if_pos (by simpa using this)]
    rfl
  by_cases hneg : i < 0
  · obtain ⟨d1, d2⟩ := dec_digits i.natAbs
    obtain ⟨c, r, hd, hc⟩ := d2 (by omega)
    have e : Go.Lib.itoa i = 45 :: Go.Lib.decDigits i.natAbs := by unfold Go.Lib.itoa; rw [if_pos hneg]
    have p0 := c2 0 (by rw [e]; simp)
    simp only [e, Nat.add_zero, List.getElem_cons_zero] at p0
    have p0 : pk s a = 45 := p0
    have pd : ∀ j, j < (Go.Lib.decDigits i.natAbs).length → 48 ≤ pk s (a + 1 + j) ∧ pk s (a + 1 + j) ≤ 57 := fun j hj => by
      have := c2 (j + 1) (by rw [e, List.length_cons]; omega)
      simp only [e, List.getElem_cons_succ] at this
      rw [show a + 1 + j = a + (j + 1) by omega, this]
      exact d1 _ (List.getElem_mem hj)
    have pf : 49 ≤ pk s (a + 1) ∧ pk s (a + 1) ≤ 57 := by
      have h3 := c2 1 (by rw [e, hd]; simp)
      simp only [e, hd, List.getElem_cons_succ, List.getElem_cons_zero] at h3
      have h4 := pd 0 (by rw [hd]; simp)
      rw [Nat.add_zero] at h4
      omega
    have hL : (Go.Lib.itoa i).length = (Go.Lib.decDigits i.natAbs).length + 1 := by rw [e, List.length_cons]
    have hdg : dgE s (a + 1) = a + (Go.Lib.itoa i).length := by
      rw [dgE_run (Go.Lib.decDigits i.natAbs).length (a + 1) pd (by rw [show a + 1 + (Go.Lib.decDigits i.natAbs).length = a + (Go.Lib.itoa i).length by omega]; exact hn)]
      omega
    have hsg : sgS s a = a + 1 := by unfold sgS; rw [if_pos p0]
    unfold intS
    rw [if_neg (by omega), hsg, if_pos pf, hdg, c1, hp]
    rfl
  · obtain ⟨d1, d2⟩ := dec_digits i.toNat
    obtain ⟨c, r, hd, hc⟩ := d2 (by omega)
    have e : Go.Lib.itoa i = Go.Lib.decDigits i.toNat := by unfold Go.Lib.itoa; rw [if_neg hneg]
    have pd : ∀ j, j < (Go.Lib.itoa i).length → 48 ≤ pk s (a + j) ∧ pk s (a + j) ≤ 57 := fun j hj => by
      rw [c2 j hj]
      exact d1 _ (by rw [← e]; exact List.getElem_mem hj)
    have pf : 49 ≤ pk s a ∧ pk s a ≤ 57 := by
      have h3 := c2 0 (by rw [e, hd]; simp)
      simp only [e, hd, List.getElem_cons_zero, Nat.add_zero] at h3
      have h4 := pd 0 (by rw [e, hd]; simp)
      rw [Nat.add_zero] at h4
      omega
    have hsg : sgS s a = a := by unfold sgS; rw [if_neg (by omega)]
    have hdg : dgE s a = a + (Go.Lib.itoa i).length := dgE_run _ a pd hn
    unfold intS
    rw [if_neg (by omega), hsg, if_pos pf, hdg, c1, hp]
    rfl
end Go.Proofs.YtoifpdnaeogdgabDoor
