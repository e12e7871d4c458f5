import Derived.Test.YtkfcilandmhomaaDoorFdP
namespace Go.Proofs.YtkfcilandmhomaaDoor
open Go.RowKit
set_option maxRecDepth 8000
/-- up, with no fall set -/
def AK.Up (A : AK) : Prop := A.down = false ∧ A.left = -1
theorem begK_same (A : AK) (s : ByteArray) : (begK A s).ks = A.ks ∧ (begK A s).down = A.down ∧ (begK A s).left = A.left := by
  unfold begK
  split
  · split <;> exact ⟨rfl, rfl, rfl⟩
  · exact ⟨rfl, rfl, rfl⟩
theorem up_pay {A : AK} (h : A.left = -1) (c : Int) : payA A c = 0 ∧ payK A c = A ∧ payM A c = c := by
  unfold payA payK payM
  rw [if_pos (.inl h), if_pos h, if_pos (.inl h)]
  exact ⟨rfl, rfl, rfl⟩
theorem lkK_ks {A B : AK} (h : A.ks = B.ks) (s : ByteArray) : lkK A s = lkK B s := by unfold lkK; rw [h]
theorem up_ch {A : AK} (h : A.Up) (s : ByteArray) : chK A s = begK A s ∧ chA A s = if begA A s = 0 then (if (lkK A s).isSome = true then 0 else 103) else begA A s := by
  have hl : (begK A s).left = -1 := (begK_same A s).2.2.trans h.2
  obtain ⟨p1, p2, _⟩ := up_pay hl 1
  unfold chK chA
  rw [p1, p2]
  refine ⟨?_, rfl⟩
  split <;> rfl
theorem putK_rig (A B : AK) (s : ByteArray) (u : Key → Key) : (putK A B s u).down = B.down ∧ (putK A B s u).left = B.left ∧ (putK A B s u).fails = B.fails ∧ (putK A B s u).after = B.after := by
  unfold putK
  split <;> exact ⟨rfl, rfl, rfl, rfl⟩
theorem putK_ks {A A' B B' : AK} (h : A.ks = A'.ks) (g : B.ks = B'.ks) (s : ByteArray) (u : Key → Key) : (putK A B s u).ks = (putK A' B' s u).ks := by
  unfold putK
  rw [lkK_ks h]
  split
  · show updK _ _ B.ks = updK _ _ B'.ks
    rw [g]
  · exact g
/-- the rigs behind a changing call are those behind its beginning -/
theorem rig_st {A : AK} (h : A.Up) {kd : Int} (hkd : 1 ≤ kd ∧ kd ≤ 4) (s : ByteArray) (n af : Int) (zs : List Int) (K : LT Int) :
    (doesK A kd s n af zs K).Up ∧ (doesK A kd s n af zs K).fails = (begK A s).fails ∧ (doesK A kd s n af zs K).after = (begK A s).after := by
  obtain ⟨b1, b2, b3⟩ := begK_same A s
  have hl : (begK A s).left = -1 := b3.trans h.2
  have hB : (begK A s).Up := ⟨b2.trans h.1, hl⟩
  obtain ⟨c1, _⟩ := up_ch h s
  have hcase : kd = 1 ∨ kd = 2 ∨ kd = 3 ∨ kd = 4 := by omega
  unfold doesK
  rcases hcase with rfl | rfl | rfl | rfl
  · rw [if_pos rfl]
    unfold appK
    obtain ⟨_, p2, _⟩ := up_pay hl ((zs.length : Int) + 1)
    rw [p2]
    split
    · split
      · exact ⟨hB, rfl, rfl⟩
      · exact ⟨hB, rfl, rfl⟩
    · exact ⟨hB, rfl, rfl⟩
  · rw [if_neg (by decide), if_pos rfl]
    unfold syncK
    rw [c1]
    split
    · obtain ⟨r1, r2, r3, r4⟩ := putK_rig A (begK A s) s synK
      exact ⟨⟨r1.trans hB.1, r2.trans hB.2⟩, r3, r4⟩
    · exact ⟨hB, rfl, rfl⟩
  · rw [if_neg (by decide), if_neg (by decide), if_pos rfl]
    unfold trimK
    rw [c1]
    split
    · obtain ⟨r1, r2, r3, r4⟩ := putK_rig A (begK A s) s (cutK (max n 0).toNat)
      exact ⟨⟨r1.trans hB.1, r2.trans hB.2⟩, r3, r4⟩
    · exact ⟨hB, rfl, rfl⟩
  · rw [if_neg (by decide), if_neg (by decide), if_neg (by decide), if_pos rfl]
    unfold rmK
    rw [c1]
    split
    · exact ⟨hB, rfl, rfl⟩
    · exact ⟨hB, rfl, rfl⟩
/-- a call that does not fail by a rig does as on a disk without rigs -/
theorem rig_does {A B : AK} (hk : A.ks = B.ks) (ha : A.Up) (hb : B.Up) {kd : Int} (hkd : 1 ≤ kd ∧ kd ≤ 4) (s : ByteArray) (he : begA A s = begA B s) (n af : Int) (zs : List Int) (K : LT Int) :
    doesE A kd s n zs.length = doesE B kd s n zs.length ∧ (doesK A kd s n af zs K).ks = (doesK B kd s n af zs K).ks := by
  obtain ⟨a1, a2, a3⟩ := begK_same A s
  obtain ⟨b1, b2, b3⟩ := begK_same B s
  have la : (begK A s).left = -1 := a3.trans ha.2
  have lb : (begK B s).left = -1 := b3.trans hb.2
  have hbk : (begK A s).ks = (begK B s).ks := by rw [a1, b1, hk]
  obtain ⟨c1, c2⟩ := up_ch ha s
  obtain ⟨d1, d2⟩ := up_ch hb s
  have hch : chA A s = chA B s := by rw [c2, d2, he, lkK_ks hk]
  have hcase : kd = 1 ∨ kd = 2 ∨ kd = 3 ∨ kd = 4 := by omega
  unfold doesE doesK
  rcases hcase with rfl | rfl | rfl | rfl
  · rw [if_pos rfl, if_pos rfl, if_pos rfl, if_pos rfl]
    obtain ⟨p1, p2, p3⟩ := up_pay la ((zs.length : Int) + 1)
    obtain ⟨q1, q2, q3⟩ := up_pay lb ((zs.length : Int) + 1)
    have hf : apF A s zs.length = apF B s zs.length := by unfold apF; rw [lkK_ks hk, hk]
    have hL : apL A s zs.length = apL B s zs.length := by unfold apL; rw [p3, q3]
    have hap : appKs A s zs = appKs B s zs := by unfold appKs; rw [lkK_ks hk, hL, hk]
    constructor
    · unfold appA
      rw [he, hf, p1, q1]
    · unfold appK
      rw [he, hf, p2, q2]
      split
      · split
        · exact hbk
        · exact hap
      · exact hbk
  · rw [if_neg (by decide), if_pos rfl, if_neg (by decide), if_pos rfl, if_neg (by decide), if_pos rfl, if_neg (by decide), if_pos rfl]
    refine ⟨hch, ?_⟩
    unfold syncK
    rw [hch, c1, d1]
    split
    · exact putK_ks hk hbk s _
    · exact hbk
  · rw [if_neg (by decide), if_neg (by decide), if_pos rfl, if_neg (by decide), if_neg (by decide), if_pos rfl, if_neg (by decide), if_neg (by decide), if_pos rfl, if_neg (by decide), if_neg (by decide), if_pos rfl]
    refine ⟨hch, ?_⟩
    unfold trimK
    rw [hch, c1, d1]
    split
    · exact putK_ks hk hbk s _
    · exact hbk
  · rw [if_neg (by decide), if_neg (by decide), if_neg (by decide), if_pos rfl, if_neg (by decide), if_neg (by decide), if_neg (by decide), if_pos rfl, if_neg (by decide), if_neg (by decide), if_neg (by decide), if_pos rfl, if_neg (by decide), if_neg (by decide), if_neg (by decide), if_pos rfl]
    refine ⟨hch, ?_⟩
    unfold rmK
    rw [hch, c1, d1]
    split
    · show remK s A.ks = remK s B.ks
      rw [hk]
    · exact hbk
/-- behind Fail(a, m) and dn counted calls -/
def Cnt (A : AK) (a m dn : Int) : Prop := A.fails = max 0 (m - max 0 (dn - a)) ∧ (A.fails ≠ 0 → A.after = max 0 (a - dn))
structure FInv (A B : AK) (a m dn : Int) : Prop where
  ua : A.Up
  ub : B.Up
  ks : A.ks = B.ks
  fb : B.fails = 0
  ct : Cnt A a m dn
theorem beg_up {A : AK} (h : A.Up) {s : ByteArray} (hn : nmB s = true) : begA A s = (if A.fails = 0 then 0 else if A.after = 0 then 101 else 0) ∧ begK A s = (if A.fails ≠ 0 then (if A.after = 0 then { A with fails := A.fails - 1 } else { A with after := A.after - 1 }) else A) := by
  unfold begA begK
  rw [if_neg (by rw [hn]; simp), if_neg (by rw [h.1]; simp)]
  refine ⟨rfl, ?_⟩
  by_cases hf : A.fails = 0
  · rw [if_neg (fun e => e.2.2 hf), if_neg (fun e => e hf)]
  · rw [if_pos ⟨hn, h.1, hf⟩, if_pos hf]
theorem beg_no {A : AK} {s : ByteArray} (hn : nmB s = false) : begA A s = 102 ∧ begK A s = A := by
  unfold begA begK
  rw [if_pos hn, if_neg (fun e => by rw [hn] at e; simp at e)]
  exact ⟨rfl, rfl⟩
section
variable {A B : AK} {a m dn : Int} (h : FInv A B a m dn) {kd : Int} (s : ByteArray) (n af : Int) (zs : List Int) (K : LT Int)
include h
theorem FInv.bad (hkd : 1 ≤ kd ∧ kd ≤ 4) (hn : nmB s = false) : doesE A kd s n zs.length = doesE B kd s n zs.length ∧ FInv (doesK A kd s n af zs K) (doesK B kd s n af zs K) a m dn := by
  obtain ⟨p1, p2⟩ := beg_no (A := A) hn
  obtain ⟨q1, q2⟩ := beg_no (A := B) hn
  obtain ⟨e1, e2⟩ := rig_does h.ks h.ua h.ub hkd s (p1.trans q1.symm) n af zs K
  obtain ⟨u1, u2, u3⟩ := rig_st h.ua hkd s n af zs K
  obtain ⟨v1, v2, v3⟩ := rig_st h.ub hkd s n af zs K
  refine ⟨e1, u1, v1, e2, by rw [v2, q2]; exact h.fb, ?_⟩
  unfold Cnt
  rw [u2, u3, p2]
  exact h.ct
theorem FInv.read : doesE A 5 s n zs.length = doesE B 5 s n zs.length ∧ FInv (doesK A 5 s n af zs K) (doesK B 5 s n af zs K) a m dn := by
  have e1 : doesK A 5 s n af zs K = A := rfl
  have e2 : doesK B 5 s n af zs K = B := rfl
  rw [e1, e2]
  refine ⟨?_, h⟩
  show readA A s = readA B s
  unfold readA
  rw [h.ua.1, h.ub.1, lkK_ks h.ks]
/-- a counted call that does not fail -/
theorem FInv.good (hkd : 1 ≤ kd ∧ kd ≤ 4) (hn : nmB s = true) (hc : ¬ (a < dn + 1 ∧ dn + 1 - a ≤ m)) : doesE A kd s n zs.length = doesE B kd s n zs.length ∧ FInv (doesK A kd s n af zs K) (doesK B kd s n af zs K) a m (dn + 1) := by
  obtain ⟨p1, p2⟩ := beg_up h.ua hn
  obtain ⟨q1, q2⟩ := beg_up h.ub hn
  rw [if_pos h.fb] at q1
  rw [if_neg (fun e => e h.fb)] at q2
  obtain ⟨c1, c2⟩ := h.ct
  have hb : begA A s = 0 := by
    rw [p1]
    by_cases hf : A.fails = 0
    · rw [if_pos hf]
    · rw [if_neg hf, if_neg (by have := c2 hf; omega)]
  obtain ⟨e1, e2⟩ := rig_does h.ks h.ua h.ub hkd s (hb.trans q1.symm) n af zs K
  obtain ⟨u1, u2, u3⟩ := rig_st h.ua hkd s n af zs K
  obtain ⟨v1, v2, v3⟩ := rig_st h.ub hkd s n af zs K
  refine ⟨e1, u1, v1, e2, by rw [v2, q2]; exact h.fb, ?_⟩
  unfold Cnt
  rw [u2, u3, p2]
  by_cases hf : A.fails = 0
  · rw [if_neg (fun e => e hf)]
    exact ⟨by omega, fun e => absurd hf e⟩
  · have h3 := c2 hf
    rw [if_pos hf, if_neg (by omega)]
    exact ⟨by show A.fails = _; omega, fun _ => by show A.after - 1 = _; omega⟩
/-- a call that fails by the rig -/
theorem FInv.fail (hkd : 1 ≤ kd ∧ kd ≤ 4) (hn : nmB s = true) (hc : a < dn + 1 ∧ dn + 1 - a ≤ m) : doesE A kd s n zs.length = 101 ∧ (doesK A kd s n af zs K).ks = A.ks ∧ FInv (doesK A kd s n af zs K) B a m (dn + 1) := by
  obtain ⟨p1, p2⟩ := beg_up h.ua hn
  obtain ⟨c1, c2⟩ := h.ct
  have hf : A.fails ≠ 0 := by omega
  have h3 := c2 hf
  have h0 : A.after = 0 := by omega
  rw [if_neg hf, if_pos h0] at p1
  rw [if_pos hf, if_pos h0] at p2
  obtain ⟨u1, u2, u3⟩ := rig_st h.ua hkd s n af zs K
  obtain ⟨d1, d2⟩ := up_ch h.ua s
  have hch : chA A s = 101 := by rw [d2, p1]; rfl
  have hks : doesE A kd s n zs.length = 101 ∧ (doesK A kd s n af zs K).ks = A.ks := by
    have hcase : kd = 1 ∨ kd = 2 ∨ kd = 3 ∨ kd = 4 := by omega
    unfold doesE doesK
    rcases hcase with rfl | rfl | rfl | rfl
    · rw [if_pos rfl, if_pos rfl]
      unfold appA appK
      rw [p1, p2]
      exact ⟨rfl, rfl⟩
    · rw [if_neg (by decide), if_pos rfl, if_neg (by decide), if_pos rfl]
      unfold syncK
      rw [hch, d1, p2]
      exact ⟨rfl, rfl⟩
    · rw [if_neg (by decide), if_neg (by decide), if_pos rfl, if_neg (by decide), if_neg (by decide), if_pos rfl]
      unfold trimK
      rw [hch, d1, p2]
      exact ⟨rfl, rfl⟩
    · rw [if_neg (by decide), if_neg (by decide), if_neg (by decide), if_pos rfl, if_neg (by decide), if_neg (by decide), if_neg (by decide), if_pos rfl]
      unfold rmK
      rw [hch, d1, p2]
      exact ⟨rfl, rfl⟩
  refine ⟨hks.1, hks.2, u1, h.ub, hks.2.trans h.ks, h.fb, ?_⟩
  unfold Cnt
  rw [u2, u3, p2]
  exact ⟨by show A.fails - 1 = _; omega, fun _ => by show A.after = _; omega⟩
end
/-- behind Fail -/
theorem fails_new (ks : List Key) (a c : Int) : FInv (failA ⟨ks, false, -1, 0, 0⟩ a c) ⟨ks, false, -1, 0, 0⟩ (if a < 0 ∨ c ≤ 0 then 0 else a) (if a < 0 ∨ c ≤ 0 then 0 else c) 0 := by
  unfold failA
  rw [if_neg (by simp)]
  by_cases h : a < 0 ∨ c ≤ 0
  · rw [if_pos h, if_pos h, if_pos h]
    exact ⟨⟨rfl, rfl⟩, ⟨rfl, rfl⟩, rfl, rfl, rfl, fun e => absurd rfl e⟩
  · rw [if_neg h, if_neg h, if_neg h]
    refine ⟨⟨rfl, rfl⟩, ⟨rfl, rfl⟩, rfl, rfl, ?_, fun _ => ?_⟩
    · show c = _
      omega
    · show a = _
      omega
theorem ds_fail {w : World} {Z : Nat → Prop} {d : Nat} {A : AK} {l : List (Nat × AK)} (h : Ds w Z ((d, A) :: l)) (a c : Int) (ha : a ≤ 9223372036854775807) (hc : c ≤ 9223372036854775807) :
    Calls Tryd.prog 24 #[.pointer (some ⟨d, 0, none⟩), .int .i64 a, .int .i64 c] w fun e w' => e = .returned (.tuple #[]) ∧ Ds w' Z ((d, failA A a c) :: l) ∧ Fr Z w w' := by
  obtain ⟨Y, D, ⟨C, hI, h2, h3⟩, hr, hz, hS⟩ := h.one
  refine (dfail_any D a c w C d hI ha hc).mono fun e w' hq => ⟨hq.1, hS w' _ ?_⟩
  exact DQ.of h2 h3 hq.2.chg (hr.fail_ a c)
end Go.Proofs.YtkfcilandmhomaaDoor
