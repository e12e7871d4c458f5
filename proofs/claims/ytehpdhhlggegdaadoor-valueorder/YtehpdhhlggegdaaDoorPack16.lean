import Derived.Test.YtehpdhhlggegdaaDoorPack4
import Derived.Test.YtehpdhhlggegdaaDoorPack15
import Derived.Test.YtehpdhhlggegdaaDoorPack12
namespace Go.Proofs.YtehpdhhlggegdaaDoor
open Go.RowKit
set_option maxRecDepth 8000

/-- the signs that stand for a byte -/
inductive Cw : Int → List Int → Prop
  | raw (b : Int) (h1 : b ≠ 34) (h2 : b ≠ 92) : Cw b [b]
  | quo : Cw 34 [92, 34]
  | bsl : Cw 92 [92, 92]
  | nl : Cw 10 [92, 110]
  | tab : Cw 9 [92, 116]
  | hex (b : Int) (h0 : 0 ≤ b) (h1 : b < 256) : Cw b [92, 120, hexd (b.toNat / 16), hexd (b.toNat % 16)]
inductive Coded : List Int → List Int → Prop
  | nil : Coded [] []
  | cons {b : Int} {w bs ws : List Int} (h : Cw b w) (t : Coded bs ws) : Coded (b :: bs) (w ++ ws)
theorem Coded.app {a x b y : List Int} (h : Coded a x) (k : Coded b y) : Coded (a ++ b) (x ++ y) := by
  induction h with
  | nil => exact k
  | cons h t ih => rw [List.append_assoc]; exact .cons h ih
theorem hexd_inj {a b : Nat} (ha : a < 16) (hb : b < 16) (h : hexd a = hexd b) : a = b := by
  unfold hexd at h
  split at h <;> split at h <;> omega
theorem cw_inj {b b' : Int} {w w' x y : List Int} (h : Cw b w) (k : Cw b' w') (e : w ++ x = w' ++ y) : b = b' ∧ x = y := by
  cases h <;> cases k <;> simp only [List.cons_append, List.nil_append, List.cons.injEq] at e
  all_goals first
    | exact ⟨e.1, e.2⟩
    | exact ⟨rfl, e.2.2⟩
    | (exfalso; omega)
    | skip
  case hex.hex h0 h1 k0 k1 =>
    obtain ⟨_, _, e1, e2, e3⟩ := e
    have d1 := hexd_inj (by omega) (by omega) e1
    have d2 := hexd_inj (by omega) (by omega) e2
    exact ⟨by omega, e3⟩
theorem coded_inj {bs ws : List Int} (h : Coded bs ws) : ∀ {bs' ws' : List Int}, Coded bs' ws' → ∀ r1 r2 : List Int, ws ++ 34 :: r1 = ws' ++ 34 :: r2 → bs = bs' ∧ r1 = r2 := by
  induction h with
  | nil =>
    intro bs' ws' k r1 r2 e
    cases k with
    | nil => simp only [List.nil_append, List.cons.injEq] at e; exact ⟨rfl, e.2⟩
    | cons h t =>
      exfalso
      cases h <;> simp only [List.nil_append, List.cons_append, List.cons.injEq] at e
      all_goals omega
  | cons h t ih =>
    intro bs' ws' k r1 r2 e
    cases k with
    | nil =>
      exfalso
      cases h <;> simp only [List.nil_append, List.cons_append, List.cons.injEq] at e
      all_goals omega
    | cons h' t' =>
      rw [List.append_assoc, List.append_assoc] at e
      obtain ⟨e1, e2⟩ := cw_inj h h' e
      obtain ⟨e3, e4⟩ := ih t' r1 r2 e2
      exact ⟨by rw [e1, e3], e4⟩
theorem dropC {l : List Int} {a : Nat} {x : Int} (h : l[a]? = some x) : l.drop a = x :: l.drop (a + 1) := by
  obtain ⟨hl, hx⟩ := List.getElem?_eq_some_iff.1 h
  rw [List.drop_eq_getElem_cons hl, hx]
theorem get_txt (s : ByteArray) {a : Nat} (h : a < s.size) : (txtB s)[a]? = some ((s.get! a).toNat : Int) := by
  rw [txtB_get h]
  have : s.get! a = s[a]'h := by
    show s.data[a]! = s.data[a]
    exact getElem!_pos s.data a h
  rw [this]
end Go.Proofs.YtehpdhhlggegdaaDoor

namespace Go.Proofs.YtehpdhhlggegdaaDoor
open Go.RowKit
set_option maxRecDepth 8000

theorem b_lt (s : ByteArray) (a : Nat) : (s.get! a).toNat < 256 := (s.get! a).toNat_lt
/-- a rune below 128 is its own byte -/
theorem dec_low {s : ByteArray} {a : Nat} (h : (Utf8.decode s a).1 < 128) : (s.get! a).toNat = (Utf8.decode s a).1 ∧ (Utf8.decode s a).2 = 1 := by
  rw [Go.Lib.decode_at] at h ⊢
  unfold Go.Lib.decodeN at h ⊢
  repeat' split at h
  all_goals first
    | (simp only at h; omega)
    | skip
  all_goals simp_all
theorem hex_coded : ∀ l : List Int, (∀ x ∈ l, 0 ≤ x ∧ x < 256) → Coded l (hexB l) := by
  intro l
  induction l with
  | nil => intro _; exact .nil
  | cons x l ih =>
    intro h
    have e : hexB (x :: l) = [92, 120, hexd (x.toNat / 16), hexd (x.toNat % 16)] ++ hexB l := by simp [hexB]
    rw [e]
    exact .cons (.hex x (h x (by simp)).1 (h x (by simp)).2) (ih fun y hy => h y (by simp [hy]))
theorem raw_coded : ∀ l : List Int, (∀ x ∈ l, x ≠ 34 ∧ x ≠ 92) → Coded l l := by
  intro l
  induction l with
  | nil => intro _; exact .nil
  | cons x l ih =>
    intro h
    have e : x :: l = [x] ++ l := rfl
    have k : Coded (x :: l) ([x] ++ l) := .cons (.raw x (h x (by simp)).1 (h x (by simp)).2) (ih fun y hy => h y (by simp [hy]))
    exact k
theorem take1 {s : ByteArray} {a : Nat} (h : a < s.size) : ((txtB s).drop a).take 1 = [((s.get! a).toNat : Int)] := by
  rw [dropC (get_txt s h)]; rfl
theorem take2 {s : ByteArray} {a : Nat} (h : a + 1 < s.size) : ((txtB s).drop a).take 2 = [((s.get! a).toNat : Int), ((s.get! (a + 1)).toNat : Int)] := by
  rw [dropC (get_txt s (by omega)), dropC (get_txt s h)]; rfl
theorem take3 {s : ByteArray} {a : Nat} (h : a + 2 < s.size) : ((txtB s).drop a).take 3 = [((s.get! a).toNat : Int), ((s.get! (a + 1)).toNat : Int), ((s.get! (a + 2)).toNat : Int)] := by
  rw [dropC (get_txt s (by omega)), dropC (get_txt s (by omega)), dropC (get_txt s h)]; rfl
theorem take4 {s : ByteArray} {a : Nat} (h : a + 3 < s.size) : ((txtB s).drop a).take 4 = [((s.get! a).toNat : Int), ((s.get! (a + 1)).toNat : Int), ((s.get! (a + 2)).toNat : Int), ((s.get! (a + 3)).toNat : Int)] := by
  rw [dropC (get_txt s (by omega)), dropC (get_txt s (by omega)), dropC (get_txt s (by omega)), dropC (get_txt s h)]; rfl
theorem txt1 (a : UInt8) : txtB ⟨#[a]⟩ = [(a.toNat : Int)] := rfl
theorem txt2 (a b : UInt8) : txtB ⟨#[a, b]⟩ = [(a.toNat : Int), (b.toNat : Int)] := rfl
theorem txt3 (a b c : UInt8) : txtB ⟨#[a, b, c]⟩ = [(a.toNat : Int), (b.toNat : Int), (c.toNat : Int)] := rfl
theorem txt4 (a b c d : UInt8) : txtB ⟨#[a, b, c, d]⟩ = [(a.toNat : Int), (b.toNat : Int), (c.toNat : Int), (d.toNat : Int)] := rfl
theorem u8n {n : Nat} (h : n < 256) : ((UInt8.ofNat n).toNat : Int) = (n : Int) := by rw [UInt8.toNat_ofNat', Nat.mod_eq_of_lt h]
/-- what a valid rune is written as -/
theorem enc_one {r : Nat} (h : r < 128) : txtB (Utf8.encode (r : Int)) = [(r : Int)] := by
  have hv : Utf8.valid (r : Int) = true := by simp [Utf8.valid]; omega
  unfold Utf8.encode
  simp only [hv, if_true, Int.toNat_natCast]
  rw [if_pos (by omega), txt1, u8n (by omega)]
theorem enc_two {r : Nat} (h0 : 128 ≤ r) (h : r < 2048) : txtB (Utf8.encode (r : Int)) = [((192 + r / 64 : Nat) : Int), ((128 + r % 64 : Nat) : Int)] := by
  have hv : Utf8.valid (r : Int) = true := by simp [Utf8.valid]; omega
  unfold Utf8.encode
  simp only [hv, if_true, Int.toNat_natCast]
  rw [if_neg (by omega), if_pos (by omega), txt2, u8n (by omega), u8n (by omega)]
theorem enc_three {r : Nat} (h0 : 2048 ≤ r) (h : r < 65536) (hv : r < 55296 ∨ 57344 ≤ r) : txtB (Utf8.encode (r : Int)) = [((224 + r / 4096 : Nat) : Int), ((128 + r / 64 % 64 : Nat) : Int), ((128 + r % 64 : Nat) : Int)] := by
  have hv : Utf8.valid (r : Int) = true := by simp [Utf8.valid]; omega
  unfold Utf8.encode
  simp only [hv, if_true, Int.toNat_natCast]
  rw [if_neg (by omega), if_neg (by omega), if_pos (by omega), txt3, u8n (by omega), u8n (by omega), u8n (by omega)]
theorem enc_four {r : Nat} (h0 : 65536 ≤ r) (h : r ≤ 1114111) : txtB (Utf8.encode (r : Int)) = [((240 + r / 262144 : Nat) : Int), ((128 + r / 4096 % 64 : Nat) : Int), ((128 + r / 64 % 64 : Nat) : Int), ((128 + r % 64 : Nat) : Int)] := by
  have hv : Utf8.valid (r : Int) = true := by simp [Utf8.valid]; omega
  unfold Utf8.encode
  simp only [hv, if_true, Int.toNat_natCast]
  rw [if_neg (by omega), if_neg (by omega), if_neg (by omega), txt4, u8n (by omega), u8n (by omega), u8n (by omega), u8n (by omega)]
/-- a rune of several bytes is written as it stands -/
theorem enc_back {s : ByteArray} {a : Nat} (ha : a < s.size) (h : 1 < (Utf8.decode s a).2) : txtB (Utf8.encode ((Utf8.decode s a).1 : Int)) = ((txtB s).drop a).take (Utf8.decode s a).2 ∧ ∀ x ∈ ((txtB s).drop a).take (Utf8.decode s a).2, x ≠ 34 ∧ x ≠ 92 := by
  have hw := (dec_width s a).2.2 ha
  have hb0 := b_lt s a
  have hb1 := b_lt s (a + 1)
  have hb2 := b_lt s (a + 2)
  have hb3 := b_lt s (a + 3)
  revert h hw
  rw [Go.Lib.decode_at]
  unfold Go.Lib.decodeN
  split
  · intro h; simp only at h; omega
  split
  · rename_i h1 h2
    split
    · rename_i h3
      intro _ hw
      simp only at hw ⊢
      rw [take2 (by omega), enc_two (by omega) (by omega)]
      refine ⟨by congr 1; omega; congr 1; omega, ?_⟩
      intro x hx
      simp only [List.mem_cons, List.not_mem_nil, or_false] at hx
      omega
    · intro h; simp only at h; omega
  split
  · rename_i h1 h2 h3
    split
    · rename_i h4
      intro _ hw
      simp only at hw ⊢
      rw [take3 (by omega), enc_three (by omega) (by omega) (by omega)]
      refine ⟨by congr 1; omega; congr 1; omega; congr 1; omega, ?_⟩
      intro x hx
      simp only [List.mem_cons, List.not_mem_nil, or_false] at hx
      omega
    · intro h; simp only at h; omega
  split
  · rename_i h1 h2 h3 h4
    split
    · rename_i h5
      intro _ hw
      simp only at hw ⊢
      rw [take4 (by omega), enc_four (by omega) (by omega)]
      refine ⟨by congr 1; omega; congr 1; omega; congr 1; omega; congr 1; omega, ?_⟩
      intro x hx
      simp only [List.mem_cons, List.not_mem_nil, or_false] at hx
      omega
    · intro h; simp only at h; omega
  · intro h; simp only at h; omega
theorem txt_range (s : ByteArray) : ∀ x ∈ txtB s, 0 ≤ x ∧ x < 256 := by
  intro x hx
  unfold txtB at hx
  obtain ⟨b, _, rfl⟩ := List.mem_map.1 hx
  have := b.toNat_lt
  omega
theorem piece_coded {s : ByteArray} {a : Nat} (ha : a < s.size) : Coded (((txtB s).drop a).take (Utf8.decode s a).2) (piece s a) := by
  unfold piece
  split
  · rename_i h
    obtain ⟨e1, e2⟩ := dec_low (s := s) (a := a) (by omega)
    rw [e2, take1 ha, e1]
    rcases h with h | h
    · rw [h]; exact .cons .quo .nil
    · rw [h]; exact .cons .bsl .nil
  split
  · rename_i h1 h
    obtain ⟨e1, e2⟩ := dec_low (s := s) (a := a) (by omega)
    rw [e2, take1 ha, e1, h]
    exact .cons .nl .nil
  split
  · rename_i h1 h2 h
    obtain ⟨e1, e2⟩ := dec_low (s := s) (a := a) (by omega)
    rw [e2, take1 ha, e1, h]
    exact .cons .tab .nil
  split
  · rename_i h1 h2 h3 h
    rcases h with h | h
    · obtain ⟨e1, e2⟩ := dec_low (s := s) (a := a) (by omega)
      rw [e2, take1 ha, e1, enc_one (by omega)]
      exact raw_coded _ (by intro x hx; simp only [List.mem_cons, List.not_mem_nil, or_false] at hx; omega)
    · obtain ⟨e1, e2⟩ := enc_back ha h.2
      rw [e1]
      exact raw_coded _ e2
  · exact hex_coded _ fun x hx => txt_range s x (List.mem_of_mem_drop (List.mem_of_mem_take hx))
theorem quoF_coded (s : ByteArray) : ∀ k a, s.size ≤ a + k → Coded ((txtB s).drop a) (quoF s k a) := by
  intro k
  induction k with
  | zero =>
    intro a h
    rw [List.drop_of_length_le (by rw [txtB_len]; omega)]
    exact .nil
  | succ k ih =>
    intro a h
    by_cases ha : a < s.size
    · rw [quoF_more s ha]
      have hw := dec_width s a
      have h2 := ih (a + (Utf8.decode s a).2) (by omega)
      have h3 := (piece_coded ha).app h2
      rw [← List.drop_drop, List.take_append_drop] at h3
      exact h3
    · rw [quoF_end s ha, List.drop_of_length_le (by rw [txtB_len]; omega)]
      exact .nil
theorem quo_inj {s u : ByteArray} {r1 r2 : List Int} (h : quoB s ++ r1 = quoB u ++ r2) : s = u ∧ r1 = r2 := by
  unfold quoB at h
  simp only [List.append_assoc, List.cons_append, List.nil_append, List.cons.injEq, true_and] at h
  have h1 := quoF_coded s s.size 0 (by omega)
  have h2 := quoF_coded u u.size 0 (by omega)
  rw [List.drop_zero] at h1 h2
  obtain ⟨e1, e2⟩ := coded_inj h1 h2 r1 r2 h
  exact ⟨txtB_inj e1, e2⟩
end Go.Proofs.YtehpdhhlggegdaaDoor

namespace Go.Proofs.YtehpdhhlggegdaaDoor
open Go.RowKit
set_option maxRecDepth 8000

def isDig (x : Int) : Prop := 48 ≤ x ∧ x ≤ 57
/-- no digit stands ahead -/
def Stop (r : List Int) : Prop := ∀ x l, r = x :: l → ¬ isDig x
theorem span_inj : ∀ {a b r1 r2 : List Int}, (∀ x ∈ a, isDig x) → (∀ x ∈ b, isDig x) → Stop r1 → Stop r2 → a ++ r1 = b ++ r2 → a = b ∧ r1 = r2 := by
  intro a
  induction a with
  | nil =>
    intro b r1 r2 _ hb s1 _ h
    cases b with
    | nil => exact ⟨rfl, h⟩
    | cons y b => exact absurd (hb y (by simp)) (s1 y (b ++ r2) h)
  | cons x a ih =>
    intro b r1 r2 ha hb s1 s2 h
    cases b with
    | nil => exact absurd (ha x (by simp)) (s2 x (a ++ r1) h.symm)
    | cons y b =>
      simp only [List.cons_append, List.cons.injEq] at h
      obtain ⟨e1, e2⟩ := ih (fun z hz => ha z (by simp [hz])) (fun z hz => hb z (by simp [hz])) s1 s2 h.2
      exact ⟨by rw [h.1, e1], e2⟩
def decB (u : Nat) : List Int := (Go.Lib.decDigits u).map fun b => (b.toNat : Int)
theorem decB_small {u : Nat} (h : u < 10) : decB u = [48 + (u : Int)] := by
  unfold decB Go.Lib.decDigits
  rw [dif_pos h]
  simp only [List.map_cons, List.map_nil, UInt8.toNat_ofNat']
  congr 1
  omega
theorem decB_great {u : Nat} (h : ¬ u < 10) : decB u = decB (u / 10) ++ [48 + ((u % 10 : Nat) : Int)] := by
  unfold decB
  rw [Go.Lib.decDigits, dif_neg h]
  simp only [List.map_append, List.map_cons, List.map_nil, UInt8.toNat_ofNat']
  congr 2
  omega
theorem decB_dig (u : Nat) : ∀ x ∈ decB u, isDig x := by
  induction u using Nat.strongRecOn with
  | ind u ih =>
    intro x hx
    by_cases h : u < 10
    · rw [decB_small h] at hx
      simp only [List.mem_cons, List.not_mem_nil, or_false] at hx
      unfold isDig; omega
    · rw [decB_great h] at hx
      rcases List.mem_append.1 hx with hx | hx
      · exact ih (u / 10) (by omega) x hx
      · simp only [List.mem_cons, List.not_mem_nil, or_false] at hx
        unfold isDig; omega
theorem decB_len (u : Nat) : 0 < (decB u).length := by
  by_cases h : u < 10
  · rw [decB_small h]; simp
  · rw [decB_great h]; simp
theorem decB_inj : ∀ (u v : Nat), decB u = decB v → u = v := by
  intro u
  induction u using Nat.strongRecOn with
  | ind u ih =>
    intro v h
    by_cases hu : u < 10
    · rw [decB_small hu] at h
      by_cases hv : v < 10
      · rw [decB_small hv] at h
        simp only [List.cons.injEq, and_true] at h
        omega
      · rw [decB_great hv] at h
        have := congrArg List.length h
        have := decB_len (v / 10)
        simp only [List.length_append, List.length_cons, List.length_nil] at *
        omega
    · rw [decB_great hu] at h
      by_cases hv : v < 10
      · rw [decB_small hv] at h
        have := congrArg List.length h
        have := decB_len (u / 10)
        simp only [List.length_append, List.length_cons, List.length_nil] at *
        omega
      · rw [decB_great hv] at h
        obtain ⟨e1, e2⟩ := List.append_inj' h rfl
        have e3 := ih (u / 10) (by omega) _ e1
        simp only [List.cons.injEq, and_true] at e2
        omega
theorem itoaB_eq (i : Int) : itoaB i = if i < 0 then 45 :: decB i.natAbs else decB i.toNat := by
  unfold itoaB Go.Lib.itoa decB
  split <;> rfl
theorem itoa_head (i : Int) : ∃ x l, itoaB i = x :: l ∧ (x = 45 ∨ isDig x) := by
  rw [itoaB_eq]
  split
  · exact ⟨45, _, rfl, .inl rfl⟩
  · have h := decB_dig i.toNat
    have h2 := decB_len i.toNat
    cases hd : decB i.toNat with
    | nil => rw [hd] at h2; simp at h2
    | cons x l => rw [hd] at h; exact ⟨x, l, rfl, .inr (h x (by simp))⟩
theorem itoa_inj {i j : Int} {r1 r2 : List Int} (s1 : Stop r1) (s2 : Stop r2) (h : itoaB i ++ r1 = itoaB j ++ r2) : i = j ∧ r1 = r2 := by
  rw [itoaB_eq, itoaB_eq] at h
  have no : ∀ (u : Nat) (a b : List Int), ¬ 45 :: a = decB u ++ b := by
    intro u a b h
    have h1 := decB_dig u
    have h2 := decB_len u
    cases hd : decB u with
    | nil => rw [hd] at h2; simp at h2
    | cons x l =>
      rw [hd] at h h1
      simp only [List.cons_append, List.cons.injEq] at h
      have := h1 x (by simp)
      unfold isDig at this
      omega
  split at h
  · split at h
    · simp only [List.cons_append, List.cons.injEq, true_and] at h
      obtain ⟨e1, e2⟩ := span_inj (decB_dig _) (decB_dig _) s1 s2 h
      have := decB_inj _ _ e1
      exact ⟨by omega, e2⟩
    · exact absurd h (no _ _ _)
  · split at h
    · exact absurd h.symm (no _ _ _)
    · obtain ⟨e1, e2⟩ := span_inj (decB_dig _) (decB_dig _) s1 s2 h
      have := decB_inj _ _ e1
      exact ⟨by omega, e2⟩
/-- the first sign tells the kind -/
theorem pr_head {t : VT} (h : Val t) : ∃ x l, prB t = x :: l ∧ ((t.kind = 0 ∧ x = 110) ∨ (t.kind = 1 ∧ (x = 45 ∨ isDig x)) ∨ (t.kind = 2 ∧ x = 34) ∨ (t.kind = 3 ∧ x = 91)) := by
  cases t with
  | nil => exact h.elim
  | mk k i s n p c f =>
    obtain ⟨⟨h1, _⟩, _⟩ := h
    obtain ⟨⟨a0, a3⟩, _⟩ := fit_facts h1
    rw [prB_eq]
    rcases (by omega : k = 0 ∨ k = 1 ∨ k = 2 ∨ k = 3) with rfl | rfl | rfl | rfl
    · exact ⟨110, _, rfl, .inl ⟨rfl, rfl⟩⟩
    · obtain ⟨x, l, e, hx⟩ := itoa_head i
      exact ⟨x, l, by rw [if_pos rfl, e], .inr (.inl ⟨rfl, hx⟩)⟩
    · exact ⟨34, _, rfl, .inr (.inr (.inl ⟨rfl, rfl⟩))⟩
    · exact ⟨91, _, rfl, .inr (.inr (.inr ⟨rfl, rfl⟩))⟩
theorem kind_same {t u : VT} (ht : Val t) (hu : Val u) {r1 r2 : List Int} (h : prB t ++ r1 = prB u ++ r2) : t.kind = u.kind := by
  obtain ⟨x, l, e, hx⟩ := pr_head ht
  obtain ⟨y, m, e2, hy⟩ := pr_head hu
  rw [e, e2] at h
  simp only [List.cons_append, List.cons.injEq] at h
  unfold isDig at hx hy
  omega
/-- the items from j on -/
def tailB (f : Nat → VT) (j m : Nat) : List Int := (List.range' j m).flatMap fun j => (if 0 < j then [44, 32] else []) ++ prB (f j)
theorem tailB_zero (f : Nat → VT) (n : Nat) : tailB f 0 n = itB f n := by unfold tailB itB; rw [List.range_eq_range']
theorem tailB_succ (f : Nat → VT) (j m : Nat) : tailB f j (m + 1) = ((if 0 < j then [44, 32] else []) ++ prB (f j)) ++ tailB f (j + 1) m := by unfold tailB; rw [List.range'_succ, List.flatMap_cons]
theorem tail_stop (f : Nat → VT) (j m : Nat) (r : List Int) : Stop (tailB f (j + 1) m ++ 93 :: r) := by
  intro x l h
  cases m with
  | zero => simp only [tailB, List.range'_zero, List.flatMap_nil, List.nil_append, List.cons.injEq] at h; unfold isDig; omega
  | succ m =>
    rw [tailB_succ, if_pos (by omega)] at h
    simp only [List.cons_append, List.append_assoc, List.nil_append, List.cons.injEq] at h
    unfold isDig; omega
theorem items_inj {f g : Nat → VT} : ∀ (m m' j : Nat) (r1 r2 : List Int), (∀ q, q < m → Val (f (j + q))) → (∀ q, q < m' → Val (g (j + q))) → (∀ q, q < m → ∀ u r1 r2, Val (f (j + q)) → Val u → Stop r1 → Stop r2 → prB (f (j + q)) ++ r1 = prB u ++ r2 → VT.Alike (f (j + q)) u ∧ r1 = r2) →
    tailB f j m ++ 93 :: r1 = tailB g j m' ++ 93 :: r2 → m = m' ∧ (∀ q, q < m → VT.Alike (f (j + q)) (g (j + q))) ∧ r1 = r2 := by
  intro m
  have no : ∀ (g : Nat → VT) (j m' : Nat) (r1 r2 : List Int), Val (g j) → ¬ 93 :: r1 = tailB g j (m' + 1) ++ 93 :: r2 := by
    intro g j m' r1 r2 hv h
    rw [tailB_succ] at h
    by_cases hj : 0 < j
    · rw [if_pos hj] at h
      simp only [List.cons_append, List.append_assoc, List.nil_append, List.cons.injEq] at h
      omega
    · rw [if_neg hj] at h
      obtain ⟨x, l, e, hx⟩ := pr_head hv
      rw [e] at h
      simp only [List.cons_append, List.append_assoc, List.nil_append, List.cons.injEq] at h
      unfold isDig at hx
      omega
  induction m with
  | zero =>
    intro m' j r1 r2 _ hg _ h
    cases m' with
    | zero => simp only [tailB, List.range'_zero, List.flatMap_nil, List.nil_append, List.cons.injEq, true_and] at h; exact ⟨rfl, fun q hq => absurd hq (by omega), h⟩
    | succ m' => exact absurd (by simpa [tailB] using h) (no g j m' r1 r2 (hg 0 (by omega)))
  | succ m ih =>
    intro m' j r1 r2 hf hg hi h
    cases m' with
    | zero => exact absurd (by simpa [tailB] using h.symm) (no f j m r2 r1 (hf 0 (by omega)))
    | succ m' =>
      rw [tailB_succ, tailB_succ, List.append_assoc, List.append_assoc, List.append_assoc, List.append_assoc, List.append_right_inj] at h
      obtain ⟨e1, e2⟩ := hi 0 (by omega) (g j) _ _ (hf 0 (by omega)) (hg 0 (by omega)) (tail_stop f j m r1) (tail_stop g j m' r2) h
      have h2 := ih m' (j + 1) r1 r2 (fun q hq => by have := hf (q + 1) (by omega); rwa [show j + (q + 1) = j + 1 + q by omega] at this) (fun q hq => by have := hg (q + 1) (by omega); rwa [show j + (q + 1) = j + 1 + q by omega] at this) (fun q hq => by have := hi (q + 1) (by omega); rwa [show j + (q + 1) = j + 1 + q by omega] at this) e2
      refine ⟨by omega, fun q hq => ?_, h2.2.2⟩
      cases q with
      | zero => exact e1
      | succ q => have := h2.2.1 q (by omega); rwa [show j + 1 + q = j + (q + 1) by omega] at this
theorem pr_inj : ∀ (t u : VT) (r1 r2 : List Int), Val t → Val u → Stop r1 → Stop r2 → prB t ++ r1 = prB u ++ r2 → VT.Alike t u ∧ r1 = r2 := by
  intro t
  induction t with
  | nil => intro u r1 r2 h; exact h.elim
  | mk k i s n p c f ih =>
    intro u r1 r2 ht hu s1 s2 h
    have hk := kind_same ht hu h
    cases u with
    | nil => exact hu.elim
    | mk k2 i2 s2' n2 p2 c2 f2 =>
      simp only [VT.kind_mk] at hk
      subst hk
      obtain ⟨⟨h1, _, _, _, _⟩, hi⟩ := ht
      obtain ⟨⟨g1, _, _, _, _⟩, gi⟩ := hu
      obtain ⟨⟨a0, a3⟩, ai, aS, an⟩ := fit_facts h1
      obtain ⟨_, bi, bS, bn⟩ := fit_facts g1
      rw [prB_eq, prB_eq] at h
      rcases (by omega : k = 0 ∨ k = 1 ∨ k = 2 ∨ k = 3) with rfl | rfl | rfl | rfl
      · simp only [show ¬ (0 : Int) = 1 by decide, show ¬ (0 : Int) = 2 by decide, show ¬ (0 : Int) = 3 by decide, if_false, or_false, List.append_right_inj] at h ai aS an bi bS bn
        subst ai an bi bn
        exact ⟨⟨rfl, rfl, nil_text bS aS, rfl, fun j hj => absurd hj (by omega)⟩, h⟩
      · simp only [show ¬ (1 : Int) = 2 by decide, show ¬ (1 : Int) = 3 by decide, if_true, or_false] at h aS an bS bn
        subst an bn
        obtain ⟨h2, h3⟩ := itoa_inj s1 s2 h
        exact ⟨⟨rfl, h2.symm, nil_text bS aS, rfl, fun j hj => absurd hj (by omega)⟩, h3⟩
      · simp only [show ¬ (2 : Int) = 1 by decide, show ¬ (2 : Int) = 3 by decide, if_true, if_false, or_false] at h ai an bi bn
        subst ai an bi bn
        obtain ⟨h2, h3⟩ := quo_inj h
        exact ⟨⟨rfl, rfl, h2.symm, rfl, fun j hj => absurd hj (by omega)⟩, h3⟩
      · simp only [show ¬ (3 : Int) = 1 by decide, show ¬ (3 : Int) = 2 by decide, if_true, if_false, or_false] at h ai aS bi bS
        subst ai bi
        have h' : tailB f 0 n ++ 93 :: r1 = tailB f2 0 n2 ++ 93 :: r2 := by
          rw [tailB_zero, tailB_zero]
          unfold itB
          simpa using h
        obtain ⟨e1, e2, e3⟩ := items_inj n n2 0 r1 r2 (fun q hq => by rw [Nat.zero_add]; exact hi q hq) (fun q hq => by rw [Nat.zero_add]; exact gi q hq) (fun q hq u r1 r2 hv hu' s1 s2 h => by rw [Nat.zero_add] at hv h ⊢; exact ih q u r1 r2 hv hu' s1 s2 h) h'
        subst e1
        exact ⟨⟨rfl, rfl, nil_text bS aS, rfl, fun j hj => by have := e2 j hj; rwa [Nat.zero_add] at this⟩, e3⟩
end Go.Proofs.YtehpdhhlggegdaaDoor
