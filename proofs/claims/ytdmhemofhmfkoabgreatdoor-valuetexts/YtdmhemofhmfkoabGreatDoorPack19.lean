import Derived.Test.YtdmhemofhmfkoabGreatDoorPack17
import Derived.Test.YtdmhemofhmfkoabGreatDoorDecP
import Derived.Test.YtdmhemofhmfkoabGreatDoorPack8
import Derived.Test.YtdmhemofhmfkoabGreatDoorParF
import Derived.Test.YtdmhemofhmfkoabGreatDoorPack2
namespace Go.Proofs.YtdmhemofhmfkoabGreatDoor
open Go.RowKit
set_option maxRecDepth 8000
theorem strOf_datC (zs : List Int) : (strOf zs).data.toList = zs.map fun z => UInt8.ofNat z.toNat := by
  have key : ∀ (zs : List Int) (r : ByteArray), (zs.foldl (fun r n => r.push (UInt8.ofNat n.toNat)) r).data.toList = r.data.toList ++ zs.map fun z => UInt8.ofNat z.toNat := by
    intro zs
    induction zs with
    | nil => intro r; simp
    | cons z zs ih =>
      intro r
      rw [List.foldl_cons, ih]
      simp [ByteArray.push]
  have h := key zs ByteArray.empty
  simpa [strOf] using h
theorem txt_strOf {zs : List Int} (h : ∀ x ∈ zs, 0 ≤ x ∧ x ≤ 255) : txtB (strOf zs) = zs := by
  unfold txtB
  rw [strOf_datC, List.map_map]
  conv => rhs; rw [← List.map_id zs]
  apply List.map_congr_left
  intro x hx
  obtain ⟨h0, h1⟩ := h x hx
  simp only [Function.comp, id, UInt8.toNat_ofNat']
  rw [Nat.mod_eq_of_lt (by omega)]
  omega
theorem strOf_txt (s : ByteArray) : strOf (txtB s) = s := by
  have h : (strOf (txtB s)).data.toList = s.data.toList := by
    rw [strOf_datC]
    unfold txtB
    rw [List.map_map]
    conv => rhs; rw [← List.map_id s.data.toList]
    apply List.map_congr_left
    intro x _
    simp
  exact ByteArray.ext (Array.ext' h)

/-- what is read is valid, and these are its bytes -/
def Sound (f : Nat → Int) (n d : Nat) (g : Nat → Nat → DR) : Prop := ∀ a q v a' q', g a q = .ok (v, a', q') → chk v d q = (0, q') ∧ a < a' ∧ a' ≤ n ∧ encB v = bytesAt f a (a' - a)
theorem items_sound {f : Nat → Int} {n d : Nat} {g : Nat → Nat → DR} (hg : Sound f n (d + 1) g) : ∀ m a q l a' q', a ≤ n → itemsS g m a q = .ok (l, a', q') → chkL d q l = (0, q') ∧ a ≤ a' ∧ a' ≤ n ∧ l.flatMap encB = bytesAt f a (a' - a) ∧ l.length = m := by
  intro m
  induction m with
  | zero =>
    intro a q l a' q' ha h
    simp only [itemsS, Except.ok.injEq, Prod.mk.injEq] at h
    obtain ⟨rfl, rfl, rfl⟩ := h
    exact ⟨rfl, Nat.le_refl _, ha, by simp [bytesAt], rfl⟩
  | succ m ih =>
    intro a q l a' q' ha h
    rw [itemsS] at h
    split at h
    · cases h
    · rename_i l1 a1 q1 h1
      split at h
      · cases h
      · rename_i v a2 q2 h2
        simp only [Except.ok.injEq, Prod.mk.injEq] at h
        obtain ⟨rfl, rfl, rfl⟩ := h
        obtain ⟨c1, c2, c3, c4, c5⟩ := ih _ _ _ _ _ ha h1
        obtain ⟨d1, d2, d3, d4⟩ := hg _ _ _ _ _ h2
        refine ⟨chkL_app c1 d1, by omega, d3, ?_, by simp [c5]⟩
        rw [List.flatMap_append, c4, List.flatMap_cons, List.flatMap_nil, List.append_nil, d4, show a2 - a = (a1 - a) + (a2 - a1) by omega, bytesAt_app, show a + (a1 - a) = a1 by omega]
theorem part_sound {f : Nat → Int} {n d : Nat} {g : Nat → Nat → DR} (hf : ∀ j, j < n → 0 ≤ f j ∧ f j ≤ 255) (hg : Sound f n (d + 1) g) : Sound f n d (partS f n g d) := by
  intro a q v a' q' h
  unfold partS at h
  by_cases h1 : n ≤ a
  · rw [if_pos h1] at h; cases h
  rw [if_neg h1] at h
  obtain ⟨hf0, hf1⟩ := hf a (by omega)
  obtain ⟨c, hc⟩ := Int.eq_ofNat_of_zero_le hf0
  rw [hc] at h
  simp only [Int.toNat_natCast] at h
  split at h
  · cases h
  rename_i h12
  split at h
  · cases h
  rename_i h3
  split at h
  · cases h
  rename_i h33
  split at h
  · rename_i h4
    simp only [Except.ok.injEq, Prod.mk.injEq] at h
    obtain ⟨rfl, rfl, rfl⟩ := h
    refine ⟨chk_mkN (by omega), by omega, by omega, ?_⟩
    rw [show a + 1 - a = 1 by omega, bytesAt_one, hc, h4]
    unfold mkN
    rw [encB_eq]
    simp
  split at h
  · rename_i h4
    split at h
    · cases h
    · rename_i u a2 h5
      simp only [Except.ok.injEq, Prod.mk.injEq] at h
      obtain ⟨rfl, rfl, rfl⟩ := h
      obtain ⟨m, e1, e2, e3, e4, _⟩ := grp_sound f n hf _ _ _ _ _ _ h5 (by decide)
      refine ⟨chk_mkI _ (by omega), by omega, e4, ?_⟩
      have e5 : m = u := by simpa using e1.symm
      rw [show a2 - a = (a2 - (a + 1)) + 1 by omega, bytesAt_cons, hc, h4, ← e2, e5]
      unfold mkI
      rw [encB_eq, fold_unfold]
      simp
  split at h
  · cases h
  rename_i h5
  obtain ⟨hg0, hg1⟩ := hf (a + 1) (by omega)
  obtain ⟨z, hz⟩ := Int.eq_ofNat_of_zero_le hg0
  rw [hz] at h
  simp only [Int.toNat_natCast] at h
  split at h
  · rename_i h6
    split at h
    · cases h
    rename_i h24
    split at h
    · cases h
    rename_i h7
    simp only [Except.ok.injEq, Prod.mk.injEq] at h
    obtain ⟨rfl, rfl, rfl⟩ := h
    have hsz : (strOf (bytesAt f (a + 2) z)).size = z := by rw [strOf_size, bytesAt_len]
    refine ⟨chk_mkT (by omega) (by omega), by omega, by omega, ?_⟩
    rw [show a + 2 + z - a = z + 1 + 1 by omega, bytesAt_cons, bytesAt_cons, hc, hz, h6]
    unfold mkT
    rw [encB_eq, hsz, txt_strOf (fun x hx => by
      simp only [bytesAt, List.mem_map, List.mem_range] at hx
      obtain ⟨j, hj, rfl⟩ := hx
      exact hf _ (by omega))]
    simp
  · rename_i h6
    split at h
    · cases h
    rename_i h7
    split at h
    · cases h
    · rename_i l a2 q2 h8
      simp only [Except.ok.injEq, Prod.mk.injEq] at h
      obtain ⟨rfl, rfl, rfl⟩ := h
      obtain ⟨c1, c2, c3, c4, c5⟩ := items_sound hg _ _ _ _ _ _ (by omega) h8
      have hd : d < 3 := by omega
      refine ⟨by rw [chk_mkL (by omega) hd (by omega)]; exact c1, by omega, c3, ?_⟩
      rw [enc_mkL, c4, c5, show a2 - a = (a2 - (a + 2)) + 1 + 1 by omega, bytesAt_cons, bytesAt_cons, hc, hz, show c = 3 by omega]
      rfl
theorem dec_sound {f : Nat → Int} {n : Nat} (hf : ∀ j, j < n → 0 ≤ f j ∧ f j ≤ 255) : ∀ k d, Sound f n d (decS f n k d) := by
  intro k
  induction k with
  | zero => intro d; exact part_sound hf (fun _ _ _ _ _ h => by cases h)
  | succ k ih => intro d; exact part_sound hf (ih (d + 1))
/-- the errors of reading bytes -/
def Known (e : Nat) : Prop := e = 21 ∨ e = 22 ∨ e = 23 ∨ e = 28
theorem items_known {g : Nat → Nat → DR} (hg : ∀ a q e, g a q = .error e → Known e) : ∀ m a q e, itemsS g m a q = .error e → Known e := by
  intro m
  induction m with
  | zero => intro a q e h; cases h
  | succ m ih =>
    intro a q e h
    rw [itemsS] at h
    split at h
    · rename_i e1 h1
      cases h
      exact ih _ _ _ h1
    · split at h
      · rename_i e1 h2
        cases h
        exact hg _ _ _ h2
      · cases h
theorem part_known {f : Nat → Int} {n d : Nat} {g : Nat → Nat → DR} (hg : ∀ a q e, g a q = .error e → Known e) {a q e : Nat} (h : partS f n g d a q = .error e) : Known e := by
  unfold partS at h
  repeat' split at h
  all_goals first
    | (cases h; simp [Known]; done)
    | (cases h; done)
    | (rename_i h1; cases h; exact items_known hg _ _ _ _ h1)
theorem dec_known {f : Nat → Int} {n : Nat} : ∀ k d a q e, decS f n k d a q = .error e → Known e := by
  intro k
  induction k with
  | zero => intro d a q e h; exact part_known (fun _ _ _ h => by cases h; simp [Known]) h
  | succ k ih => intro d a q e h; exact part_known (fun a q e h => ih _ _ _ _ h) h
end Go.Proofs.YtdmhemofhmfkoabGreatDoor

namespace Go.Proofs.YtdmhemofhmfkoabGreatDoor
open Go.RowKit
set_option maxRecDepth 8000
/-- what reading a text comes to: a place and an error's number, or the value, where it ends, how many parts there are -/
abbrev TR := Except (Nat × Nat) (VT × Nat × Nat)
def withQ (q : Nat) : Except (Nat × Nat) (VT × Nat) → TR
  | .error e => .error e
  | .ok (v, a) => .ok (v, a, q)
/-- behind an item -/
def sepS (s : ByteArray) (more : Nat → TR) (l : List VT) (a q : Nat) : TR :=
  if pk s (skS s a) = 93 then .ok (mkL l, skS s a + 1, q)
  else if pk s (skS s a) = 44 then (if l.length = 6 then .error (skS s a, 22) else more (skS s (skS s a + 1)))
  else .error (skS s a, 28)
/-- the items of a list: at most m more -/
def lstS (s : ByteArray) (g : Nat → Nat → TR) : Nat → Nat → Nat → List VT → TR
  | 0, a, _, _ => .error (a, 28)
  | m + 1, a, q, l => match g a q with
    | .error e => .error e
    | .ok (v, a1, q1) => sepS s (fun a2 => lstS s g m a2 q1 (l ++ [v])) (l ++ [v]) a1 q1
def listS (s : ByteArray) (g : Nat → Nat → TR) (d a q : Nat) : TR :=
  if 3 ≤ d then .error (a, 23)
  else if pk s (skS s (a + 1)) = 93 then .ok (mkL [], skS s (a + 1) + 1, q)
  else lstS s g 6 (skS s (a + 1)) q []
/-- the bytes with which a value can begin -/
def begB (c : Nat) : Prop := c = 110 ∨ c = 45 ∨ (48 ≤ c ∧ c ≤ 57) ∨ c = 34 ∨ c = 91
instance (c : Nat) : Decidable (begB c) := by unfold begB; infer_instance
def partT (s : ByteArray) (g : Nat → Nat → TR) (d a q : Nat) : TR :=
  if ¬ begB (pk s a) then .error (a, 28) else if 12 < q + 1 then .error (a, 22)
  else if pk s a = 110 then withQ (q + 1) (noneS s a)
  else if pk s a = 34 then withQ (q + 1) (txtS s a)
  else if pk s a = 91 then listS s g d a (q + 1)
  else withQ (q + 1) (intS s a)
def parS (s : ByteArray) : Nat → Nat → Nat → Nat → TR
  | 0, d, a, q => partT s (fun a _ => .error (a, 23)) d a q
  | k + 1, d, a, q => partT s (parS s k (d + 1)) d a q

/-- what is read is valid; places lie in the text -/
structure Read (s : ByteArray) (d : Nat) (r : TR) (q : Nat) : Prop where
  ok : ∀ v a' q', r = .ok (v, a', q') → chk v d q = (0, q') ∧ a' ≤ s.size ∧ q' ≤ 12
  err : ∀ p e, r = .error (p, e) → p ≤ s.size ∧ (Known e ∨ e = 29)
theorem word_ok {s : ByteArray} : ∀ (l : List Nat) (a : Nat), (∀ c ∈ l, c ≠ 0) → a ≤ s.size → (∀ a', wordS s l a = .ok a' → a' ≤ s.size) ∧ (∀ p e, wordS s l a = .error (p, e) → p ≤ s.size ∧ e = 28)
  | [], a, _, ha => ⟨fun a' h => by simp only [wordS, Except.ok.injEq] at h; omega, fun p e h => by cases h⟩
  | c :: r, a, hc, ha => by
    unfold wordS
    by_cases h : pk s a = c
    · rw [if_pos h]
      exact word_ok r (a + 1) (fun x hx => hc x (by simp [hx])) (pk_pos (by rw [h]; exact hc c (by simp)))
    · rw [if_neg h]
      exact ⟨fun a' h => (by cases h), fun p e h => (by simp only [Except.error.injEq, Prod.mk.injEq] at h; omega)⟩
theorem none_read {s : ByteArray} {d a q : Nat} (ha : a ≤ s.size) (hq : q < 12) : Read s d (withQ (q + 1) (noneS s a)) q := by
  obtain ⟨h1, h2⟩ := word_ok (s := s) [110, 111, 110, 101] a (by intro c hc; simp at hc; omega) ha
  unfold noneS
  cases hw : wordS s [110, 111, 110, 101] a with
  | error pe =>
    obtain ⟨p, e⟩ := pe
    obtain ⟨h3, h4⟩ := h2 p e hw
    exact ⟨fun v a' q' h => (by cases h), fun p2 e2 h => by simp only [noneOf, withQ, Except.error.injEq, Prod.mk.injEq] at h; obtain ⟨rfl, rfl⟩ := h; exact ⟨h3, .inl (by subst h4; simp [Known])⟩⟩
  | ok a' =>
    refine ⟨fun v a2 q' h => ?_, fun p e h => (by cases h)⟩
    simp only [noneOf, withQ, Except.ok.injEq, Prod.mk.injEq] at h
    obtain ⟨rfl, rfl, rfl⟩ := h
    exact ⟨chk_mkN hq, h1 _ hw, by omega⟩
theorem int_read {s : ByteArray} {d a q : Nat} (ha : a ≤ s.size) (hq : q < 12) : Read s d (withQ (q + 1) (intS s a)) q := by
  have hsg : sgS s a ≤ s.size := by
    unfold sgS
    split
    · rename_i h; exact pk_pos (by omega)
    · exact ha
  unfold intS
  split
  · rename_i h
    refine ⟨fun v a2 q' h => ?_, fun p e h => (by cases h)⟩
    simp only [withQ, Except.ok.injEq, Prod.mk.injEq] at h
    obtain ⟨rfl, rfl, rfl⟩ := h
    exact ⟨chk_mkI _ hq, pk_pos (by omega), by omega⟩
  split
  · cases hp : Lib.parseIntB 64 (cutL s a (dgE s (sgS s a))) with
    | ok v =>
      refine ⟨fun v a2 q' h => ?_, fun p e h => (by cases h)⟩
      simp only [numS, withQ, Except.ok.injEq, Prod.mk.injEq] at h
      obtain ⟨rfl, rfl, rfl⟩ := h
      exact ⟨chk_mkI _ hq, dgE_le hsg, by omega⟩
    | range => exact ⟨fun v a' q' h => (by cases h), fun p2 e2 h => by simp only [numS, withQ, Except.error.injEq, Prod.mk.injEq] at h; obtain ⟨rfl, rfl⟩ := h; exact ⟨ha, .inr rfl⟩⟩
    | «syntax» => exact ⟨fun v a' q' h => (by cases h), fun p2 e2 h => by simp only [numS, withQ, Except.error.injEq, Prod.mk.injEq] at h; obtain ⟨rfl, rfl⟩ := h; exact ⟨ha, .inr rfl⟩⟩
  · exact ⟨fun v a' q' h => (by cases h), fun p2 e2 h => by simp only [withQ, Except.error.injEq, Prod.mk.injEq] at h; obtain ⟨rfl, rfl⟩ := h; exact ⟨hsg, .inl (by simp [Known])⟩⟩
theorem esc_err {s : ByteArray} {p pe e : Nat} (hp : p < s.size) (h : escS s p = .error (pe, e)) : pe ≤ s.size ∧ e = 28 := by
  unfold escS at h
  split at h
  · cases h
  split at h
  · cases h
  split at h
  · cases h
  split at h
  · rename_i h120
    have h1 := pk_pos (s := s) (a := p + 1) (by omega)
    split at h
    · simp only [Except.error.injEq, Prod.mk.injEq] at h; omega
    · rename_i x hx
      have h2 := pk_pos (s := s) (a := p + 2) (hexS_some hx).1
      split at h
      · simp only [Except.error.injEq, Prod.mk.injEq] at h; omega
      · cases h
  · simp only [Except.error.injEq, Prod.mk.injEq] at h; omega
theorem esc_ok {s : ByteArray} {p b a' : Nat} (h : escS s p = .ok (b, a')) : p + 1 ≤ a' ∧ a' ≤ s.size ∧ b < 256 := by
  unfold escS at h
  split at h
  · rename_i h1
    simp only [Except.ok.injEq, Prod.mk.injEq] at h
    have := pk_pos (s := s) (a := p + 1) (by omega)
    have := pk_lt s (p + 1)
    omega
  split at h
  · rename_i h1
    simp only [Except.ok.injEq, Prod.mk.injEq] at h
    have := pk_pos (s := s) (a := p + 1) (by omega)
    omega
  split at h
  · rename_i h1
    simp only [Except.ok.injEq, Prod.mk.injEq] at h
    have := pk_pos (s := s) (a := p + 1) (by omega)
    omega
  split at h
  · split at h
    · cases h
    · rename_i x hx
      split at h
      · cases h
      · rename_i y hy
        simp only [Except.ok.injEq, Prod.mk.injEq] at h
        have h3 := pk_pos (s := s) (a := p + 3) (hexS_some hy).1
        have h4 := (hexS_some hx).2
        have h5 := (hexS_some hy).2
        omega
  · cases h
theorem quo_read {s : ByteArray} : ∀ (k a : Nat) (acc : List Int), a ≤ s.size → (∀ zs a', quoS s k a acc = .ok (zs, a') → a' ≤ s.size) ∧ (∀ p e, quoS s k a acc = .error (p, e) → p ≤ s.size ∧ e = 28) := by
  intro k
  induction k with
  | zero => intro a acc ha; exact ⟨fun zs a' h => (by cases h), fun p e h => by simp only [quoS, Except.error.injEq, Prod.mk.injEq] at h; omega⟩
  | succ k ih =>
    intro a acc ha
    unfold quoS
    by_cases h34 : pk s a = 34
    · rw [if_pos h34]
      have := pk_pos (s := s) (a := a) (by omega)
      exact ⟨fun zs a' h => (by simp only [Except.ok.injEq, Prod.mk.injEq] at h; omega), fun p e h => (by cases h)⟩
    rw [if_neg h34]
    by_cases h92 : pk s a = 92
    · rw [if_pos h92]
      have hlt := pk_pos (s := s) (a := a) (by omega)
      cases he : escS s a with
      | error pe =>
        obtain ⟨p, e⟩ := pe
        have h5 := esc_err hlt he
        exact ⟨fun zs a' h => (by cases h), fun p2 e2 h => (by simp only [Except.error.injEq, Prod.mk.injEq] at h; omega)⟩
      | ok ba =>
        obtain ⟨b, a'⟩ := ba
        exact ih a' _ (esc_ok he).2.1
    rw [if_neg h92]
    by_cases h32 : pk s a < 32 ∨ pk s a = 127
    · rw [if_pos h32]
      exact ⟨fun zs a' h => (by cases h), fun p e h => (by simp only [Except.error.injEq, Prod.mk.injEq] at h; omega)⟩
    rw [if_neg h32]
    by_cases hb : badR s a
    · rw [if_pos hb]
      exact ⟨fun zs a' h => (by cases h), fun p e h => (by simp only [Except.error.injEq, Prod.mk.injEq] at h; omega)⟩
    rw [if_neg hb]
    exact ih _ _ ((dec_width s a).2.2 (pk_pos (by omega)))
theorem txt_read {s : ByteArray} {d a q : Nat} (ha : a < s.size) (hq : q < 12) : Read s d (withQ (q + 1) (txtS s a)) q := by
  obtain ⟨h1, h2⟩ := quo_read (s := s) (s.size + 1) (a + 1) [] ha
  unfold txtS
  cases hw : quoS s (s.size + 1) (a + 1) [] with
  | error pe =>
    obtain ⟨p, e⟩ := pe
    obtain ⟨h3, h4⟩ := h2 p e hw
    exact ⟨fun v a' q' h => (by cases h), fun p2 e2 h => by simp only [txtOf, withQ, Except.error.injEq, Prod.mk.injEq] at h; obtain ⟨rfl, rfl⟩ := h; exact ⟨h3, .inl (by subst h4; simp [Known])⟩⟩
  | ok za =>
    obtain ⟨zs, a'⟩ := za
    have h3 := h1 zs a' hw
    unfold txtOf
    simp only
    split
    · exact ⟨fun v a' q' h => (by cases h), fun p2 e2 h => by simp only [withQ, Except.error.injEq, Prod.mk.injEq] at h; obtain ⟨rfl, rfl⟩ := h; exact ⟨by omega, .inl (by simp [Known])⟩⟩
    · refine ⟨fun v a2 q' h => ?_, fun p e h => (by cases h)⟩
      simp only [withQ, Except.ok.injEq, Prod.mk.injEq] at h
      obtain ⟨rfl, rfl, rfl⟩ := h
      exact ⟨chk_mkT (by rw [strOf_size]; omega) hq, h3, by omega⟩
theorem lst_read {s : ByteArray} {d q0 : Nat} {g : Nat → Nat → TR} (hg : ∀ a q, a ≤ s.size → q ≤ 12 → Read s (d + 1) (g a q) q) : ∀ (m a q : Nat) (l : List VT), a ≤ s.size → q ≤ 12 → m + l.length = 6 → chkL d q0 l = (0, q) →
    (∀ v a' q', lstS s g m a q l = .ok (v, a', q') → ∃ l', v = mkL l' ∧ l'.length ≤ 6 ∧ chkL d q0 l' = (0, q') ∧ a' ≤ s.size ∧ q' ≤ 12) ∧ (∀ p e, lstS s g m a q l = .error (p, e) → p ≤ s.size ∧ (Known e ∨ e = 29)) := by
  intro m
  induction m with
  | zero => intro a q l ha _ _ _; exact ⟨fun v a' q' h => (by cases h), fun p e h => (by simp only [lstS, Except.error.injEq, Prod.mk.injEq] at h; exact ⟨by omega, .inl (by obtain ⟨_, rfl⟩ := h; simp [Known])⟩)⟩
  | succ m ih =>
    intro a q l ha hq hm hl
    have hG := hg a q ha hq
    unfold lstS
    cases hga : g a q with
    | error pe =>
      obtain ⟨p, e⟩ := pe
      have h5 := hG.err p e hga
      exact ⟨fun v a' q' h => (by cases h), fun p2 e2 h => (by simp only [Except.error.injEq, Prod.mk.injEq] at h; obtain ⟨rfl, rfl⟩ := h; exact h5)⟩
    | ok vaq =>
      obtain ⟨v, a1, q1⟩ := vaq
      obtain ⟨h1, h2, h3⟩ := hG.ok v a1 q1 hga
      have hsk := skS_le h2
      have hc := chkL_app hl h1
      simp only
      unfold sepS
      by_cases h93 : pk s (skS s a1) = 93
      · rw [if_pos h93]
        refine ⟨fun v2 a2 q2 h => ?_, fun p e h => (by cases h)⟩
        simp only [Except.ok.injEq, Prod.mk.injEq] at h
        obtain ⟨rfl, rfl, rfl⟩ := h
        exact ⟨l ++ [v], rfl, by simp; omega, hc, pk_pos (by omega), h3⟩
      rw [if_neg h93]
      by_cases h44 : pk s (skS s a1) = 44
      · rw [if_pos h44]
        have hlt := pk_pos (s := s) (a := skS s a1) (by omega)
        by_cases h6 : (l ++ [v]).length = 6
        · rw [if_pos h6]
          exact ⟨fun v a' q' h => (by cases h), fun p e h => (by simp only [Except.error.injEq, Prod.mk.injEq] at h; exact ⟨by omega, .inl (by obtain ⟨_, rfl⟩ := h; simp [Known])⟩)⟩
        · rw [if_neg h6]
          exact ih _ q1 (l ++ [v]) (skS_le hlt) h3 (by simp; omega) hc
      · rw [if_neg h44]
        exact ⟨fun v a' q' h => (by cases h), fun p e h => (by simp only [Except.error.injEq, Prod.mk.injEq] at h; exact ⟨by omega, .inl (by obtain ⟨_, rfl⟩ := h; simp [Known])⟩)⟩
theorem part_readT {s : ByteArray} {d : Nat} {g : Nat → Nat → TR} (hg : d < 3 → ∀ a q, a ≤ s.size → q ≤ 12 → Read s (d + 1) (g a q) q) (a q : Nat) (ha : a ≤ s.size) : Read s d (partT s g d a q) q := by
  unfold partT
  by_cases hb : begB (pk s a)
  · rw [if_neg (by simpa using hb)]
    by_cases h12 : 12 < q + 1
    · rw [if_pos h12]
      exact ⟨fun v a' q' h => (by cases h), fun p e h => (by simp only [Except.error.injEq, Prod.mk.injEq] at h; exact ⟨by omega, .inl (by obtain ⟨_, rfl⟩ := h; simp [Known])⟩)⟩
    rw [if_neg h12]
    by_cases h110 : pk s a = 110
    · rw [if_pos h110]; exact none_read ha (by omega)
    rw [if_neg h110]
    by_cases h34 : pk s a = 34
    · rw [if_pos h34]; exact txt_read (pk_pos (by omega)) (by omega)
    rw [if_neg h34]
    by_cases h91 : pk s a = 91
    · rw [if_pos h91]
      have hlt := pk_pos (s := s) (a := a) (by omega)
      have hsk := skS_le (s := s) (a := a + 1) hlt
      unfold listS
      by_cases hd : 3 ≤ d
      · rw [if_pos hd]
        exact ⟨fun v a' q' h => (by cases h), fun p e h => (by simp only [Except.error.injEq, Prod.mk.injEq] at h; exact ⟨by omega, .inl (by obtain ⟨_, rfl⟩ := h; simp [Known])⟩)⟩
      rw [if_neg hd]
      by_cases h93 : pk s (skS s (a + 1)) = 93
      · rw [if_pos h93]
        refine ⟨fun v2 a2 q2 h => ?_, fun p e h => (by cases h)⟩
        simp only [Except.ok.injEq, Prod.mk.injEq] at h
        obtain ⟨rfl, rfl, rfl⟩ := h
        exact ⟨by rw [chk_mkL (by simp) (by omega) (by omega)]; rfl, pk_pos (by omega), by omega⟩
      rw [if_neg h93]
      obtain ⟨h1, h2⟩ := lst_read (s := s) (d := d) (q0 := q + 1) (hg (by omega)) 6 (skS s (a + 1)) (q + 1) [] hsk (by omega) rfl rfl
      refine ⟨fun v a' q' h => ?_, h2⟩
      obtain ⟨l', rfl, e1, e2, e3, e4⟩ := h1 v a' q' h
      exact ⟨by rw [chk_mkL e1 (by omega) (by omega)]; exact e2, e3, e4⟩
    · rw [if_neg h91]; exact int_read ha (by omega)
  · rw [if_pos hb]
    exact ⟨fun v a' q' h => (by cases h), fun p e h => (by simp only [Except.error.injEq, Prod.mk.injEq] at h; exact ⟨by omega, .inl (by obtain ⟨_, rfl⟩ := h; simp [Known])⟩)⟩
theorem par_read {s : ByteArray} : ∀ (k d a q : Nat), d + k = 3 → a ≤ s.size → Read s d (parS s k d a q) q := by
  intro k
  induction k with
  | zero => intro d a q hd ha; exact part_readT (fun h => by omega) a q ha
  | succ k ih => intro d a q hd ha; exact part_readT (fun _ a q ha _ => ih (d + 1) a q (by omega) ha) a q ha
end Go.Proofs.YtdmhemofhmfkoabGreatDoor

namespace Go.Proofs.YtdmhemofhmfkoabGreatDoor
open Go.RowKit
set_option maxRecDepth 8000

/-- the signs that stand for a byte -/
inductive Cw : Int → List Int → Prop
  | raw (b : Int) (h1 : b ≠ 34) (h2 : b ≠ 92) : Cw b [b]
  | quo : Cw 34 [92, 34]
  | bsl : Cw 92 [92, 92]
  | nl : Cw 10 [92, 110]
  | tab : Cw 9 [92, 116]
  | hex (b : Int) (h0 : 0 ≤ b) (h1 : b < 256) : Cw b [92, 120, hexd (b.toNat / 16), hexd (b.toNat % 16)]
inductive Coded : List Int → List Int → Prop
  | nil : Coded [] []
  | cons {b : Int} {w bs ws : List Int} (h : Cw b w) (t : Coded bs ws) : Coded (b :: bs) (w ++ ws)
theorem Coded.app {a x b y : List Int} (h : Coded a x) (k : Coded b y) : Coded (a ++ b) (x ++ y) := by
  induction h with
  | nil => exact k
  | cons h t ih => rw [List.append_assoc]; exact .cons h ih
theorem hexd_inj {a b : Nat} (ha : a < 16) (hb : b < 16) (h : hexd a = hexd b) : a = b := by
  unfold hexd at h
  split at h <;> split at h <;> omega
theorem cw_inj {b b' : Int} {w w' x y : List Int} (h : Cw b w) (k : Cw b' w') (e : w ++ x = w' ++ y) : b = b' ∧ x = y := by
  cases h <;> cases k <;> simp only [List.cons_append, List.nil_append, List.cons.injEq] at e
  all_goals first
    | exact ⟨e.1, e.2⟩
    | exact ⟨rfl, e.2.2⟩
    | (exfalso; omega)
    | skip
  case hex.hex h0 h1 k0 k1 =>
    obtain ⟨_, _, e1, e2, e3⟩ := e
    have d1 := hexd_inj (by omega) (by omega) e1
    have d2 := hexd_inj (by omega) (by omega) e2
    exact ⟨by omega, e3⟩
theorem coded_inj {bs ws : List Int} (h : Coded bs ws) : ∀ {bs' ws' : List Int}, Coded bs' ws' → ∀ r1 r2 : List Int, ws ++ 34 :: r1 = ws' ++ 34 :: r2 → bs = bs' ∧ r1 = r2 := by
  induction h with
  | nil =>
    intro bs' ws' k r1 r2 e
    cases k with
    | nil => simp only [List.nil_append, List.cons.injEq] at e; exact ⟨rfl, e.2⟩
    | cons h t =>
      exfalso
      cases h <;> simp only [List.nil_append, List.cons_append, List.cons.injEq] at e
      all_goals omega
  | cons h t ih =>
    intro bs' ws' k r1 r2 e
    cases k with
    | nil =>
      exfalso
      cases h <;> simp only [List.nil_append, List.cons_append, List.cons.injEq] at e
      all_goals omega
    | cons h' t' =>
      rw [List.append_assoc, List.append_assoc] at e
      obtain ⟨e1, e2⟩ := cw_inj h h' e
      obtain ⟨e3, e4⟩ := ih t' r1 r2 e2
      exact ⟨by rw [e1, e3], e4⟩
theorem dropC {l : List Int} {a : Nat} {x : Int} (h : l[a]? = some x) : l.drop a = x :: l.drop (a + 1) := by
  obtain ⟨hl, hx⟩ := List.getElem?_eq_some_iff.1 h
  rw [List.drop_eq_getElem_cons hl, hx]
theorem get_txt (s : ByteArray) {a : Nat} (h : a < s.size) : (txtB s)[a]? = some ((s.get! a).toNat : Int) := by
  rw [txtB_get h]
  have : s.get! a = s[a]'h := by
    show s.data[a]! = s.data[a]
    exact getElem!_pos s.data a h
  rw [this]
end Go.Proofs.YtdmhemofhmfkoabGreatDoor

namespace Go.Proofs.YtdmhemofhmfkoabGreatDoor
open Go.RowKit
set_option maxRecDepth 8000

theorem b_lt (s : ByteArray) (a : Nat) : (s.get! a).toNat < 256 := (s.get! a).toNat_lt
/-- a rune below 128 is its own byte -/
theorem dec_low {s : ByteArray} {a : Nat} (h : (Utf8.decode s a).1 < 128) : (s.get! a).toNat = (Utf8.decode s a).1 ∧ (Utf8.decode s a).2 = 1 := by
  rw [Go.Lib.decode_at] at h ⊢
  unfold Go.Lib.decodeN at h ⊢
  repeat' split at h
  all_goals first
    | (simp only at h; omega)
    | skip
  all_goals simp_all
theorem hex_coded : ∀ l : List Int, (∀ x ∈ l, 0 ≤ x ∧ x < 256) → Coded l (hexB l) := by
  intro l
  induction l with
  | nil => intro _; exact .nil
  | cons x l ih =>
    intro h
    have e : hexB (x :: l) = [92, 120, hexd (x.toNat / 16), hexd (x.toNat % 16)] ++ hexB l := by simp [hexB]
    rw [e]
    exact .cons (.hex x (h x (by simp)).1 (h x (by simp)).2) (ih fun y hy => h y (by simp [hy]))
theorem raw_coded : ∀ l : List Int, (∀ x ∈ l, x ≠ 34 ∧ x ≠ 92) → Coded l l := by
  intro l
  induction l with
  | nil => intro _; exact .nil
  | cons x l ih =>
    intro h
    have e : x :: l = [x] ++ l := rfl
    have k : Coded (x :: l) ([x] ++ l) := .cons (.raw x (h x (by simp)).1 (h x (by simp)).2) (ih fun y hy => h y (by simp [hy]))
    exact k
theorem take1 {s : ByteArray} {a : Nat} (h : a < s.size) : ((txtB s).drop a).take 1 = [((s.get! a).toNat : Int)] := by
  rw [dropC (get_txt s h)]; rfl
theorem take2 {s : ByteArray} {a : Nat} (h : a + 1 < s.size) : ((txtB s).drop a).take 2 = [((s.get! a).toNat : Int), ((s.get! (a + 1)).toNat : Int)] := by
  rw [dropC (get_txt s (by omega)), dropC (get_txt s h)]; rfl
theorem take3 {s : ByteArray} {a : Nat} (h : a + 2 < s.size) : ((txtB s).drop a).take 3 = [((s.get! a).toNat : Int), ((s.get! (a + 1)).toNat : Int), ((s.get! (a + 2)).toNat : Int)] := by
  rw [dropC (get_txt s (by omega)), dropC (get_txt s (by omega)), dropC (get_txt s h)]; rfl
theorem take4 {s : ByteArray} {a : Nat} (h : a + 3 < s.size) : ((txtB s).drop a).take 4 = [((s.get! a).toNat : Int), ((s.get! (a + 1)).toNat : Int), ((s.get! (a + 2)).toNat : Int), ((s.get! (a + 3)).toNat : Int)] := by
  rw [dropC (get_txt s (by omega)), dropC (get_txt s (by omega)), dropC (get_txt s (by omega)), dropC (get_txt s h)]; rfl
theorem txt1 (a : UInt8) : txtB ⟨#[a]⟩ = [(a.toNat : Int)] := rfl
theorem txt2 (a b : UInt8) : txtB ⟨#[a, b]⟩ = [(a.toNat : Int), (b.toNat : Int)] := rfl
theorem txt3 (a b c : UInt8) : txtB ⟨#[a, b, c]⟩ = [(a.toNat : Int), (b.toNat : Int), (c.toNat : Int)] := rfl
theorem txt4 (a b c d : UInt8) : txtB ⟨#[a, b, c, d]⟩ = [(a.toNat : Int), (b.toNat : Int), (c.toNat : Int), (d.toNat : Int)] := rfl
theorem u8n {n : Nat} (h : n < 256) : ((UInt8.ofNat n).toNat : Int) = (n : Int) := by rw [UInt8.toNat_ofNat', Nat.mod_eq_of_lt h]
/-- what a valid rune is written as -/
theorem enc_one {r : Nat} (h : r < 128) : txtB (Utf8.encode (r : Int)) = [(r : Int)] := by
  have hv : Utf8.valid (r : Int) = true := by simp [Utf8.valid]; omega
  unfold Utf8.encode
  simp only [hv, if_true, Int.toNat_natCast]
  rw [if_pos (by omega), txt1, u8n (by omega)]
theorem enc_two {r : Nat} (h0 : 128 ≤ r) (h : r < 2048) : txtB (Utf8.encode (r : Int)) = [((192 + r / 64 : Nat) : Int), ((128 + r % 64 : Nat) : Int)] := by
  have hv : Utf8.valid (r : Int) = true := by simp [Utf8.valid]; omega
  unfold Utf8.encode
  simp only [hv, if_true, Int.toNat_natCast]
  rw [if_neg (by omega), if_pos (by omega), txt2, u8n (by omega), u8n (by omega)]
theorem enc_three {r : Nat} (h0 : 2048 ≤ r) (h : r < 65536) (hv : r < 55296 ∨ 57344 ≤ r) : txtB (Utf8.encode (r : Int)) = [((224 + r / 4096 : Nat) : Int), ((128 + r / 64 % 64 : Nat) : Int), ((128 + r % 64 : Nat) : Int)] := by
  have hv : Utf8.valid (r : Int) = true := by simp [Utf8.valid]; omega
  unfold Utf8.encode
  simp only [hv, if_true, Int.toNat_natCast]
  rw [if_neg (by omega), if_neg (by omega), if_pos (by omega), txt3, u8n (by omega), u8n (by omega), u8n (by omega)]
theorem enc_four {r : Nat} (h0 : 65536 ≤ r) (h : r ≤ 1114111) : txtB (Utf8.encode (r : Int)) = [((240 + r / 262144 : Nat) : Int), ((128 + r / 4096 % 64 : Nat) : Int), ((128 + r / 64 % 64 : Nat) : Int), ((128 + r % 64 : Nat) : Int)] := by
  have hv : Utf8.valid (r : Int) = true := by simp [Utf8.valid]; omega
  unfold Utf8.encode
  simp only [hv, if_true, Int.toNat_natCast]
  rw [if_neg (by omega), if_neg (by omega), if_neg (by omega), txt4, u8n (by omega), u8n (by omega), u8n (by omega), u8n (by omega)]
/-- a rune of several bytes is written as it stands -/
theorem enc_back {s : ByteArray} {a : Nat} (ha : a < s.size) (h : 1 < (Utf8.decode s a).2) : txtB (Utf8.encode ((Utf8.decode s a).1 : Int)) = ((txtB s).drop a).take (Utf8.decode s a).2 ∧ ∀ x ∈ ((txtB s).drop a).take (Utf8.decode s a).2, x ≠ 34 ∧ x ≠ 92 := by
  have hw := (dec_width s a).2.2 ha
  have hb0 := b_lt s a
  have hb1 := b_lt s (a + 1)
  have hb2 := b_lt s (a + 2)
  have hb3 := b_lt s (a + 3)
  revert h hw
  rw [Go.Lib.decode_at]
  unfold Go.Lib.decodeN
  split
  · intro h; simp only at h; omega
  split
  · rename_i h1 h2
    split
    · rename_i h3
      intro _ hw
      simp only at hw ⊢
      rw [take2 (by omega), enc_two (by omega) (by omega)]
      refine ⟨by congr 1; omega; congr 1; omega, ?_⟩
      intro x hx
      simp only [List.mem_cons, List.not_mem_nil, or_false] at hx
      omega
    · intro h; simp only at h; omega
  split
  · rename_i h1 h2 h3
    split
    · rename_i h4
      intro _ hw
      simp only at hw ⊢
      rw [take3 (by omega), enc_three (by omega) (by omega) (by omega)]
      refine ⟨by congr 1; omega; congr 1; omega; congr 1; omega, ?_⟩
      intro x hx
      simp only [List.mem_cons, List.not_mem_nil, or_false] at hx
      omega
    · intro h; simp only at h; omega
  split
  · rename_i h1 h2 h3 h4
    split
    · rename_i h5
      intro _ hw
      simp only at hw ⊢
      rw [take4 (by omega), enc_four (by omega) (by omega)]
      refine ⟨by congr 1; omega; congr 1; omega; congr 1; omega; congr 1; omega, ?_⟩
      intro x hx
      simp only [List.mem_cons, List.not_mem_nil, or_false] at hx
      omega
    · intro h; simp only at h; omega
  · intro h; simp only at h; omega
theorem txt_range (s : ByteArray) : ∀ x ∈ txtB s, 0 ≤ x ∧ x < 256 := by
  intro x hx
  unfold txtB at hx
  obtain ⟨b, _, rfl⟩ := List.mem_map.1 hx
  have := b.toNat_lt
  omega
theorem piece_coded {s : ByteArray} {a : Nat} (ha : a < s.size) : Coded (((txtB s).drop a).take (Utf8.decode s a).2) (piece s a) := by
  unfold piece
  split
  · rename_i h
    obtain ⟨e1, e2⟩ := dec_low (s := s) (a := a) (by omega)
    rw [e2, take1 ha, e1]
    rcases h with h | h
    · rw [h]; exact .cons .quo .nil
    · rw [h]; exact .cons .bsl .nil
  split
  · rename_i h1 h
    obtain ⟨e1, e2⟩ := dec_low (s := s) (a := a) (by omega)
    rw [e2, take1 ha, e1, h]
    exact .cons .nl .nil
  split
  · rename_i h1 h2 h
    obtain ⟨e1, e2⟩ := dec_low (s := s) (a := a) (by omega)
    rw [e2, take1 ha, e1, h]
    exact .cons .tab .nil
  split
  · rename_i h1 h2 h3 h
    rcases h with h | h
    · obtain ⟨e1, e2⟩ := dec_low (s := s) (a := a) (by omega)
      rw [e2, take1 ha, e1, enc_one (by omega)]
      exact raw_coded _ (by intro x hx; simp only [List.mem_cons, List.not_mem_nil, or_false] at hx; omega)
    · obtain ⟨e1, e2⟩ := enc_back ha h.2
      rw [e1]
      exact raw_coded _ e2
  · exact hex_coded _ fun x hx => txt_range s x (List.mem_of_mem_drop (List.mem_of_mem_take hx))
theorem quoF_coded (s : ByteArray) : ∀ k a, s.size ≤ a + k → Coded ((txtB s).drop a) (quoF s k a) := by
  intro k
  induction k with
  | zero =>
    intro a h
    rw [List.drop_of_length_le (by rw [txtB_len]; omega)]
    exact .nil
  | succ k ih =>
    intro a h
    by_cases ha : a < s.size
    · rw [quoF_more s ha]
      have hw := dec_width s a
      have h2 := ih (a + (Utf8.decode s a).2) (by omega)
      have h3 := (piece_coded ha).app h2
      rw [← List.drop_drop, List.take_append_drop] at h3
      exact h3
    · rw [quoF_end s ha, List.drop_of_length_le (by rw [txtB_len]; omega)]
      exact .nil
theorem quo_inj {s u : ByteArray} {r1 r2 : List Int} (h : quoB s ++ r1 = quoB u ++ r2) : s = u ∧ r1 = r2 := by
  unfold quoB at h
  simp only [List.append_assoc, List.cons_append, List.nil_append, List.cons.injEq, true_and] at h
  have h1 := quoF_coded s s.size 0 (by omega)
  have h2 := quoF_coded u u.size 0 (by omega)
  rw [List.drop_zero] at h1 h2
  obtain ⟨e1, e2⟩ := coded_inj h1 h2 r1 r2 h
  exact ⟨txtB_inj e1, e2⟩
end Go.Proofs.YtdmhemofhmfkoabGreatDoor

namespace Go.Proofs.YtdmhemofhmfkoabGreatDoor
open Go.RowKit
set_option maxRecDepth 8000

theorem chk_parts {k i : Int} {s : ByteArray} {n : Nat} {p : Option Addr} {c : Nat} {f : Nat → VT} {d q q' : Nat} (h : chk (.mk k i s n p c f) d q = (0, q')) :
    q < 12 ∧ fitB k i s n = true ∧ ¬ (k = 3 ∧ 3 ≤ d) ∧ s.size ≤ 24 ∧ n ≤ 6 ∧ stepN (fun j m => chk (f j) (d + 1) m) (q + 1) n = (0, q') := by
  rw [chk_eq] at h
  by_cases h1 : 12 ≤ q
  · rw [if_pos h1] at h; simp at h
  rw [if_neg h1] at h
  by_cases h2 : fitB k i s n = false
  · rw [if_pos h2] at h; simp at h
  rw [if_neg h2] at h
  by_cases h3 : k = 3 ∧ 3 ≤ d
  · rw [if_pos h3] at h; simp at h
  rw [if_neg h3] at h
  by_cases h4 : 24 < s.size
  · rw [if_pos h4] at h; simp at h
  rw [if_neg h4] at h
  by_cases h5 : 6 < n
  · rw [if_pos h5] at h; simp at h
  rw [if_neg h5] at h
  exact ⟨by omega, by simpa using h2, h3, by omega, by omega, h⟩
/-- the bytes of the first m items -/
def encN (f : Nat → VT) (m : Nat) : List Int := (List.range m).flatMap fun j => encB (f j)
theorem encN_succ (f : Nat → VT) (m : Nat) : encN f (m + 1) = encN f m ++ encB (f m) := by
  unfold encN
  rw [List.range_succ, List.flatMap_append]
  simp
theorem encN_pre (f : Nat → VT) {k N : Nat} (hk : k ≤ N) : ∃ r, encN f N = encN f k ++ r := by
  obtain ⟨e, rfl⟩ : ∃ e, N = k + e := ⟨N - k, by omega⟩
  clear hk
  induction e with
  | zero => exact ⟨[], by simp⟩
  | succ e ihe =>
    obtain ⟨r, hr⟩ := ihe
    exact ⟨r ++ encB (f (k + e)), by rw [← Nat.add_assoc, encN_succ, hr, List.append_assoc]⟩
theorem empty_toList : (⟨#[]⟩ : ByteArray).toList = [] := by rw [Go.Lib.toList_data]
theorem enc_pos (t : VT) : 0 < (encB t).length := by
  cases t with
  | nil => simp [encB]
  | mk k i s n p c f => rw [encB_eq]; simp
/-- what reading makes of a valid value's bytes, whole or cut -/
def Reads (f : Nat → Int) (n : Nat) (t : VT) (d : Nat) (g : Nat → Nat → DR) : Prop := ∀ a q q', chk t d q = (0, q') → (∀ j x, (encB t)[j]? = some x → f (a + j) = x) →
  (a + (encB t).length ≤ n → ∃ u, g a q = .ok (u, a + (encB t).length, q') ∧ VT.Alike t u) ∧ (n < a + (encB t).length → g a q = .error 28)
theorem stepN_zero {g : Nat → Nat → Nat × Nat} {m n q' : Nat} (h : stepN g m n = (0, q')) {j : Nat} (hj : j ≤ n) : (stepN g m j).1 = 0 := by
  by_cases hz : (stepN g m j).1 = 0
  · exact hz
  · have := stepN_stuck hj hz
    rw [this] at h
    rw [h] at hz
    exact absurd rfl hz
theorem items_read {f : Nat → Int} {n d : Nat} {g : Nat → Nat → DR} {h : Nat → VT} {N : Nat} (hg : ∀ j, j < N → Reads f n (h j) (d + 1) g) (a q : Nat) (hq : ∀ j, j ≤ N → (stepN (fun j m => chk (h j) (d + 1) m) q j).1 = 0)
    (hb : ∀ j x, (encN h N)[j]? = some x → f (a + j) = x) : ∀ m, m ≤ N →
    (a + (encN h m).length ≤ n → ∃ l, itemsS g m a q = .ok (l, a + (encN h m).length, (stepN (fun j m => chk (h j) (d + 1) m) q m).2) ∧ l.length = m ∧ ∀ j, j < m → VT.Alike (h j) (l.getD j .nil)) ∧ (n < a + (encN h m).length → a ≤ n → itemsS g m a q = .error 28) := by
  intro m
  induction m with
  | zero => intro _; exact ⟨fun _ => ⟨[], rfl, rfl, fun j hj => absurd hj (by omega)⟩, fun h1 h2 => by simp [encN] at h1; omega⟩
  | succ m ih =>
    intro hm
    obtain ⟨ih1, ih2⟩ := ih (by omega)
    obtain ⟨r, hr⟩ := encN_pre h hm
    have hbm : ∀ j x, (encB (h m))[j]? = some x → f (a + (encN h m).length + j) = x := by
      intro j x hj
      rw [Nat.add_assoc]
      apply hb
      rw [hr, encN_succ, List.append_assoc, List.getElem?_append_right (by omega), Nat.add_sub_cancel_left]
      have hlt : j < (encB (h m)).length := by
        rcases Nat.lt_or_ge j (encB (h m)).length with h1 | h1
        · exact h1
        · rw [List.getElem?_eq_none h1] at hj; cases hj
      rw [List.getElem?_append_left hlt]
      exact hj
    have hz := hq (m + 1) hm
    rw [stepN_succ (hq m (by omega))] at hz
    obtain ⟨q2, hq2⟩ : ∃ q2, chk (h m) (d + 1) (stepN (fun j m => chk (h j) (d + 1) m) q m).2 = (0, q2) := ⟨_, Prod.ext hz rfl⟩
    have hG := hg m (by omega) (a + (encN h m).length) _ q2 hq2 hbm
    have hst : (stepN (fun j m => chk (h j) (d + 1) m) q (m + 1)).2 = q2 := by rw [stepN_succ (hq m (by omega)), hq2]
    have hl : (encN h (m + 1)).length = (encN h m).length + (encB (h m)).length := by rw [encN_succ, List.length_append]
    rw [hl, hst]
    refine ⟨fun hn => ?_, fun hn ha => ?_⟩
    · obtain ⟨l, e1, e2, e3⟩ := ih1 (by omega)
      obtain ⟨u, e4, e5⟩ := hG.1 (by omega)
      refine ⟨l ++ [u], by rw [itemsS_next e1 e4, Nat.add_assoc], by simp [e2], fun j hj => ?_⟩
      by_cases hjm : j < m
      · have := e3 j hjm
        simpa [List.getD_eq_getElem?_getD, List.getElem?_append_left (show j < l.length by omega)] using this
      · obtain rfl : j = m := by omega
        simpa [List.getD_eq_getElem?_getD, List.getElem?_append_right (show l.length ≤ j by omega), e2] using e5
    · by_cases hn2 : a + (encN h m).length ≤ n
      · obtain ⟨l, e1, e2, e3⟩ := ih1 hn2
        exact itemsS_stuck e1 (hG.2 (by omega)) (by omega)
      · rw [itemsS, ih2 (by omega) ha]
theorem part_read {f : Nat → Int} {n d : Nat} {g : Nat → Nat → DR} {t : VT} (ht : Val t) (hg : d < 3 → ∀ j, j < t.n → Reads f n (t.item j) (d + 1) g) : Reads f n t d (partS f n g d) := by
  cases t with
  | nil => exact ht.elim
  | mk k i s N p c h =>
    intro a q q' hc hb
    obtain ⟨hq, hf, hk3, hs, hN, hst⟩ := chk_parts hc
    obtain ⟨⟨_, _, _, hi1, hi2⟩, hval⟩ := ht
    obtain ⟨⟨k0, k3⟩, fi, fs, fn⟩ := fit_facts hf
    simp only [VT.n_mk, VT.item_mk] at hg
    rw [encB_eq] at hb ⊢
    have h0 := hb 0 k rfl
    simp only [Nat.add_zero] at h0
    unfold partS
    rw [h0]
    have htail : ∀ j x, (if k = 1 then grpB (foldN i) else if k = 2 then (s.size : Int) :: txtB s else if k = 3 then (N : Int) :: (List.range N).flatMap fun j => encB (h j) else [])[j]? = some x → f (a + 1 + j) = x := by
      intro j x hj
      have := hb (j + 1) x (by simpa using hj)
      rw [← this]; congr 1; omega
    clear hb h0
    simp only [List.length_cons]
    rcases (by omega : k = 0 ∨ k = 1 ∨ k = 2 ∨ k = 3) with rfl | rfl | rfl | rfl
    · simp only [show ¬ (0 : Int) = 1 by decide, show ¬ (0 : Int) = 2 by decide, show ¬ (0 : Int) = 3 by decide, or_false, if_false, List.length_nil] at fi fs fn htail ⊢
      subst fi fn
      refine ⟨fun hn => ⟨mkN, ?_, ⟨rfl, rfl, nil_text empty_toList fs, rfl, fun j hj => absurd hj (by omega)⟩⟩, fun hn => if_pos (by omega)⟩
      have e : q' = q + 1 := by have := congrArg Prod.snd hst; simpa [stepN] using this.symm
      rw [if_neg (by omega), if_neg (by omega), if_neg (by decide), if_neg (by simp), if_pos (by decide), e]
    · simp only [show ¬ (1 : Int) = 2 by decide, show ¬ (1 : Int) = 3 by decide, or_false, if_true] at fs fn htail ⊢
      subst fn
      have e : q' = q + 1 := by have := congrArg Prod.snd hst; simpa [stepN] using this.symm
      have hfo := foldN_lt hi1 hi2
      obtain ⟨g1, g2⟩ := grp_full f n (foldN i) (a + 1) 0 0 (by simpa using hfo) (fun h => by omega) (by decide) (by omega) htail
      simp only [Nat.sub_zero, Nat.zero_add, Nat.mul_zero, Nat.pow_zero, Nat.mul_one] at g1 g2
      refine ⟨fun hn => ⟨mkI i, ?_, ⟨rfl, rfl, nil_text empty_toList fs, rfl, fun j hj => absurd hj (by omega)⟩⟩, fun hn => ?_⟩
      · rw [if_neg (by omega), if_neg (by omega), if_neg (by decide), if_neg (by simp), if_neg (by decide), if_pos (by decide), g1 (by omega), e]
        simp only [unfold_fold]
        congr 3
        omega
      · by_cases hn2 : n ≤ a
        · exact if_pos hn2
        · rw [if_neg hn2, if_neg (by omega), if_neg (by decide), if_neg (by simp), if_neg (by decide), if_pos (by decide), g2 (by omega)]
    · simp only [show ¬ (2 : Int) = 1 by decide, show ¬ (2 : Int) = 3 by decide, or_false, if_true, if_false] at fi fn htail ⊢
      subst fi fn
      have e : q' = q + 1 := by have := congrArg Prod.snd hst; simpa [stepN] using this.symm
      have h1 := htail 0 _ rfl
      simp only [Nat.add_zero] at h1
      have hby : bytesAt f (a + 2) s.size = txtB s := by
        apply List.ext_getElem?
        intro j
        rcases Nat.lt_or_ge j s.size with hj | hj
        · have hj2 : j < (txtB s).length := by rw [txtB_len]; exact hj
          have := htail (j + 1) ((txtB s)[j]'hj2) (by simp [List.getElem?_eq_getElem hj2])
          rw [List.getElem?_eq_getElem hj2, ← this]
          simp only [bytesAt, List.getElem?_map, List.getElem?_range hj, Option.map_some]
          congr 2
          omega
        · rw [List.getElem?_eq_none (by rw [bytesAt_len]; exact hj), List.getElem?_eq_none (by rw [txtB_len]; exact hj)]
      simp only [List.length_cons, txtB_len]
      rw [h1]
      refine ⟨fun hn => ⟨mkT s, ?_, ⟨rfl, rfl, rfl, rfl, fun j hj => absurd hj (by omega)⟩⟩, fun hn => ?_⟩
      · rw [if_neg (by omega), if_neg (by omega), if_neg (by decide), if_neg (by simp), if_neg (by decide), if_neg (by decide), if_neg (by omega), if_pos (by decide)]
        simp only [Int.toNat_natCast]
        rw [if_neg (by omega), if_neg (by omega), hby, strOf_txt, e]
        congr 3
        omega
      · by_cases hn2 : n ≤ a
        · exact if_pos hn2
        · rw [if_neg hn2, if_neg (by omega), if_neg (by decide), if_neg (by simp), if_neg (by decide), if_neg (by decide)]
          by_cases hn3 : n ≤ a + 1
          · exact if_pos hn3
          · rw [if_neg hn3, if_pos (by decide)]
            simp only [Int.toNat_natCast]
            rw [if_neg (by omega), if_pos (by omega)]
    · simp only [show ¬ (3 : Int) = 1 by decide, show ¬ (3 : Int) = 2 by decide, or_false, if_true, if_false] at fi fs htail ⊢
      subst fi
      have hd : d < 3 := by
        rcases Nat.lt_or_ge d 3 with h1 | h1
        · exact h1
        · exact absurd ⟨rfl, h1⟩ hk3
      have h1 := htail 0 _ rfl
      simp only [Nat.add_zero] at h1
      have hz : ∀ j, j ≤ N → (stepN (fun j m => chk (h j) (d + 1) m) (q + 1) j).1 = 0 := fun j hj => stepN_zero hst hj
      obtain ⟨r1, r2⟩ := items_read (hg hd) (a + 2) (q + 1) hz (fun j x hj => by
        have := htail (j + 1) x (by simpa [encN] using hj)
        rw [← this]; congr 1; omega) N (Nat.le_refl _)
      simp only [List.length_cons]
      rw [show ((List.range N).flatMap fun j => encB (h j)) = encN h N from rfl, h1]
      rw [hst] at r1
      simp only at r1
      have hd3 : ¬ ((3 : Int).toNat = 3 ∧ 3 ≤ d) := fun hx => by omega
      refine ⟨fun hn => ?_, fun hn => ?_⟩
      · obtain ⟨l, e1, e2, e3⟩ := r1 (by omega)
        refine ⟨mkL l, ?_, ⟨rfl, rfl, nil_text empty_toList fs, by show l.length = N; exact e2, fun j hj => e3 j hj⟩⟩
        rw [if_neg (by omega), if_neg (by omega), if_neg (by decide), if_neg hd3, if_neg (by decide), if_neg (by decide), if_neg (by omega), if_neg (by decide)]
        simp only [Int.toNat_natCast]
        rw [if_neg (by omega), e1]
        simp only
        congr 3
        omega
      · by_cases hn2 : n ≤ a
        · exact if_pos hn2
        · rw [if_neg hn2, if_neg (by omega), if_neg (by decide), if_neg hd3, if_neg (by decide), if_neg (by decide)]
          by_cases hn3 : n ≤ a + 1
          · exact if_pos hn3
          · rw [if_neg hn3, if_neg (by decide)]
            simp only [Int.toNat_natCast]
            rw [if_neg (by omega), r2 (by omega) (by omega)]
theorem dec_read {f : Nat → Int} {n : Nat} : ∀ (t : VT) (d : Nat), Val t → d ≤ 3 → Reads f n t d (decS f n (3 - d) d) := by
  intro t
  induction t with
  | nil => intro d h; exact h.elim
  | mk k i s N p c h ih =>
    intro d hv hd
    by_cases h3 : d = 3
    · subst h3
      exact part_read hv (fun h => by omega)
    · rw [show 3 - d = (3 - (d + 1)) + 1 by omega]
      exact part_read hv (fun hd2 j hj => ih j (d + 1) (hv.2 j hj) (by omega))
end Go.Proofs.YtdmhemofhmfkoabGreatDoor
