import Derived.Test.YtebiidfdokhpaabGreatDoorFcA
namespace Go.Proofs.YtebiidfdokhpaabGreatDoor
open Go.RowKit
set_option maxRecDepth 8000
/-- one of many pairs, all of them alike; U: its blocks -/
def PN (w : World) (Y : Nat → Prop) (pb : Nat) (U : Nat → Prop) : Prop :=
  ∃ db rb D R Cd Cr, MP Y w pb db rb D R Cd Cr ∧ Rel D R.ak ∧ (∀ k, U k → k = pb ∨ Cd k ∨ Cr k) ∧ U pb ∧ (∀ k, Cd k → U k) ∧ ∀ k, Cr k → U k
theorem PN.lt {w : World} {Y : Nat → Prop} {pb : Nat} {U : Nat → Prop} (h : PN w Y pb U) (k : Nat) (hk : U k) : k < w.heap.size ∧ ¬ Y k := by
  obtain ⟨db, rb, D, R, Cd, Cr, hM, hR, h1, h2, h3, h4⟩ := h
  rcases h1 k hk with rfl | h | h
  · exact ⟨hM.bx.lt, hM.pZ⟩
  · exact ⟨(hM.cd k h).2.1, (hM.cd k h).1⟩
  · exact ⟨(hM.cr k h).2.1, (hM.cr k h).1⟩
theorem PN.kept {w w' : World} {Y : Nat → Prop} {pb : Nat} {U : Nat → Prop} (h : PN w Y pb U) (hb : Fr U w w') : PN w' Y pb U := by
  obtain ⟨db, rb, D, R, Cd, Cr, hM, hR, h1, h2, h3, h4⟩ := h
  exact ⟨db, rb, D, R, Cd, Cr, hM.kept h2 h3 h4 hb, hR, h1, h2, h3, h4⟩
theorem PN.re {w : World} {Y Y' : Nat → Prop} {pb : Nat} {U : Nat → Prop} (h : PN w Y pb U) (hy : ∀ k, Y' k → k < w.heap.size ∧ ¬ U k) : PN w Y' pb U := by
  obtain ⟨db, rb, D, R, Cd, Cr, hM, hR, h1, h2, h3, h4⟩ := h
  exact ⟨db, rb, D, R, Cd, Cr, hM.wide fun k hk => ⟨(hy k hk).1, fun e => (hy k hk).2 (e ▸ h2), fun e => (hy k hk).2 (h3 k e), fun e => (hy k hk).2 (h4 k e)⟩, hR, h1, h2, h3, h4⟩
/-- many pairs beside one another, apart from the blocks of Y -/
def Many (w : World) (Y : Nat → Prop) (L : List Nat) : Prop :=
  ∃ U : Nat → Nat → Prop, (∀ i pb, L[i]? = some pb → PN w Y pb (U i)) ∧ (∀ i j, i < L.length → j < L.length → i ≠ j → ∀ k, U i k → ¬ U j k) ∧ ∀ k, Y k → k < w.heap.size
theorem Many.nil {w : World} {Y : Nat → Prop} (h : ∀ k, Y k → k < w.heap.size) : Many w Y [] :=
  ⟨fun _ _ => False, fun i pb hi => by simp at hi, fun i j hi => by simp at hi, h⟩
/-- the blocks that one of them has to leave -/
def ZU (Y : Nat → Prop) (U : Nat → Nat → Prop) (n i : Nat) : Nat → Prop := fun k => Y k ∨ ∃ j, j < n ∧ j ≠ i ∧ U j k
theorem Many.one {w : World} {Y : Nat → Prop} {L : List Nat} (h : Many w Y L) {i pb : Nat} (hi : L[i]? = some pb) :
    ∃ Z db rb D R Cd Cr, (∀ k, Y k → Z k) ∧ MP Z w pb db rb D R Cd Cr ∧ Rel D R.ak ∧ ∀ w', PZ Z w w' pb db rb Cd Cr → Many w' Y L ∧ Fr Y w w' := by
  obtain ⟨U, h1, h2, h3⟩ := h
  have hil : i < L.length := (List.getElem?_eq_some_iff.1 hi).1
  have hpn := h1 i pb hi
  obtain ⟨db, rb, D, R, Cd, Cr, hM, hR, u1, u2, u3, u4⟩ := id hpn
  refine ⟨ZU Y U L.length i, db, rb, D, R, Cd, Cr, fun k hk => .inl hk, hM.wide fun k hk => ?_, hR, fun w' hz => ?_⟩
  · rcases hk with hk | ⟨j, hj, hne, hk⟩
    · exact ⟨h3 k hk, fun e => hM.pZ (e ▸ hk), fun e => (hM.cd k e).1 hk, fun e => (hM.cr k e).1 hk⟩
    · have hn := fun hu => h2 i j hil hj (fun e => hne e.symm) k hu hk
      exact ⟨((h1 j _ (List.getElem?_eq_getElem hj)).lt k hk).1, fun e => hn (e ▸ u2), fun e => hn (u3 k e), fun e => hn (u4 k e)⟩
  · obtain ⟨⟨D', R', Cd', Cr', hM', hR', _⟩, hf⟩ := hz
    refine ⟨⟨fun j => if j = i then fun k => k = pb ∨ Cd' k ∨ Cr' k else U j, fun j qb hj => ?_, fun a b ha hb hab k hka hkb => ?_, fun k hk => Nat.lt_of_lt_of_le (h3 k hk) hf.size⟩, But.mono hf fun k _ hn hy => hn (.inl hy)⟩
    · by_cases e : j = i
      · subst e
        obtain rfl : qb = pb := Option.some.inj (hj.symm.trans hi)
        show PN _ _ _ (ite _ _ _)
        rw [if_pos rfl]
        refine ⟨db, rb, D', R', Cd', Cr', hM'.wide fun k hk => ⟨hM'.zs k (.inl hk), fun e => hM'.pZ (.inl (e ▸ hk)), fun e => (hM'.cd k e).1 (.inl hk), fun e => (hM'.cr k e).1 (.inl hk)⟩, hR', fun k hk => hk, .inl rfl, fun k hk => .inr (.inl hk), fun k hk => .inr (.inr hk)⟩
      · show PN _ _ _ (ite _ _ _)
        rw [if_neg e]
        exact (h1 j qb hj).kept (But.mono hf fun k _ hn hu => hn (.inr ⟨j, (List.getElem?_eq_some_iff.1 hj).1, e, hu⟩))
    · have hnew : ∀ j, j < L.length → j ≠ i → ∀ k, (k = pb ∨ Cd' k ∨ Cr' k) → ¬ U j k := fun j hj hne k hk hu => by
        have hz : ZU Y U L.length i k := .inr ⟨j, hj, hne, hu⟩
        rcases hk with rfl | hk | hk
        · exact hM'.pZ hz
        · exact (hM'.cd k hk).1 hz
        · exact (hM'.cr k hk).1 hz
      by_cases ea : a = i
      · have eb : ¬ b = i := fun e => hab (ea.trans e.symm)
        simp only [ea, if_true] at hka
        simp only [if_neg eb] at hkb
        exact hnew b hb eb k hka hkb
      · simp only [if_neg ea] at hka
        by_cases eb : b = i
        · simp only [eb, if_true] at hkb
          exact hnew a ha ea k hkb hka
        · simp only [if_neg eb] at hkb
          exact h2 a b ha hb hab k hka hkb
/-- the pairs stay where the blocks of Y alone change -/
theorem Many.kept {w w' : World} {Y Y' : Nat → Prop} {L : List Nat} (h : Many w Y L) (hb : But Y w w') (hy : ∀ k, Y' k → (Y k ∨ w.heap.size ≤ k) ∧ k < w'.heap.size) : Many w' Y' L := by
  obtain ⟨U, h1, h2, h3⟩ := h
  refine ⟨U, fun i pb hi => ((h1 i pb hi).kept (hb.mono fun k _ hk hu => ((h1 i pb hi).lt k hu).2 hk)).re fun k hk => ⟨(hy k hk).2, fun hu => ?_⟩, h2, fun k hk => (hy k hk).2⟩
  have := (h1 i pb hi).lt k hu
  rcases (hy k hk).1 with h | h
  · exact this.2 h
  · omega
/-- one more -/
theorem Many.add {w W W1 : World} {Y : Nat → Prop} {L : List Nat} {pb db rb : Nat} {D : DK} {R : RK} {Cd Cr : Nat → Prop} (h : Many w Y L) (hb : Below w.heap.size w W) (hp : w.heap.size ≤ pb) (hpW : pb < W.heap.size) (hb1 : But (fun k => k = pb) W W1)
    (hM : ∀ Z : Nat → Prop, (∀ k, Z k → k < W.heap.size ∧ k ≠ pb) → MP Z W1 pb db rb D R Cd Cr) (hR : Rel D R.ak) (hg : ∀ k, Cd k ∨ Cr k → W.heap.size ≤ k) : Many W1 Y (L ++ [pb]) := by
  obtain ⟨U, h1, h2, h3⟩ := h
  have hs := hb.size
  have hs1 := hb1.size
  have hold : ∀ i qb, L[i]? = some qb → PN W1 Y qb (U i) := fun i qb hi => ((h1 i qb hi).kept (Fr.of hb)).kept (hb1.mono fun k _ hk hu => by
    have h4 : k = pb := hk
    have := ((h1 i qb hi).lt k hu).1
    omega)
  have hlow : ∀ i, i < L.length → ∀ k, U i k → k < w.heap.size := fun i hi k hk => ((h1 i _ (List.getElem?_eq_getElem hi)).lt k hk).1
  refine ⟨fun j => if j < L.length then U j else fun k => k = pb ∨ Cd k ∨ Cr k, fun i qb hi => ?_, fun a b ha hb2 hab k hka hkb => ?_, fun k hk => by have := h3 k hk; omega⟩
  · by_cases hl : i < L.length
    · show PN _ _ _ (ite _ _ _)
      rw [if_pos hl]
      rw [List.getElem?_append_left hl] at hi
      exact hold i qb hi
    · show PN _ _ _ (ite _ _ _)
      rw [if_neg hl]
      have hi2 := (List.getElem?_eq_some_iff.1 hi).1
      rw [List.length_append, List.length_singleton] at hi2
      obtain rfl : i = L.length := by omega
      rw [List.getElem?_append_right (Nat.le_refl _), Nat.sub_self] at hi
      obtain rfl : pb = qb := by simpa using hi
      exact ⟨db, rb, D, R, Cd, Cr, hM Y fun k hk => by have := h3 k hk; exact ⟨by omega, by omega⟩, hR, fun k hk => hk, .inl rfl, fun k hk => .inr (.inl hk), fun k hk => .inr (.inr hk)⟩
  · rw [List.length_append, List.length_singleton] at ha hb2
    have hnew : ∀ j, j < L.length → ∀ k, (k = pb ∨ Cd k ∨ Cr k) → ¬ U j k := fun j hj k hk hu => by
      have := hlow j hj k hu
      rcases hk with rfl | hk
      · omega
      · have := hg k hk; omega
    by_cases ea : a < L.length
    · simp only [if_pos ea] at hka
      by_cases eb : b < L.length
      · simp only [if_pos eb] at hkb
        exact h2 a b ea eb hab k hka hkb
      · simp only [if_neg eb] at hkb
        exact hnew a ea k hkb hka
    · simp only [if_neg ea] at hka
      by_cases eb : b < L.length
      · simp only [if_pos eb] at hkb
        exact hnew b eb k hka hkb
      · omega
/-- what every pair does when it is begun with one small file of its own -/
def ownT : ByteArray := ⟨#[111, 119, 110]⟩
def ownFA (b : Nat) (x : Int) : FA := ⟨ownT, some ⟨b, 0, none⟩, 2, 2, fun j => if j = 0 then x else 7, 1⟩
def ownL (b c : Nat) (x : Int) : LT FA := ⟨some ⟨c, 0, none⟩, 1, 1, fun _ => ownFA b x⟩
theorem ownL_in {w V1 V2 : World} {x : Int} (hx : 0 ≤ x ∧ x < 256) (h1 : V1 = w.alloc (.cells #[.int .u8 x, .int .u8 7] 5)) (h2 : V2 = V1.alloc (.cells #[.string ownT, .slice (some ⟨w.heap.size, 0, none⟩) 2 2, .int .i64 1] 41)) :
    LT.In elF V2 (fun b => b < V2.heap.size) (ownL w.heap.size V1.heap.size x) := by
  have b1 : Box V1 w.heap.size #[.int .u8 x, .int .u8 7] 5 := by rw [h1]; exact Box.new _ _ _
  have b2 : Box V2 V1.heap.size #[.string ownT, .slice (some ⟨w.heap.size, 0, none⟩) 2 2, .int .i64 1] 41 := by rw [h2]; exact Box.new _ _ _
  have hb : Below V1.heap.size V1 V2 := by rw [h2]; exact (Below.refl _ _).alloc (Nat.le_refl _) _
  have b3 := b1.below hb
  refine ⟨fun _ => ⟨V1.heap.size, 0, rfl, b2.lt, b2.lt, fun j hj r u hu => ?_⟩, fun j hj => ⟨by show (3 : Nat) ≤ _; omega, ⟨fun _ => ⟨w.heap.size, 0, rfl, b3.lt, b3.lt, fun j hj => ?_⟩, by show (2 : Nat) ≤ 2; decide, by show (2 : Nat) ≤ _; decide, by show (2 : Nat) ≤ maxLen; decide, fun j hj => ?_, fun h => by cases h⟩, by show (-9223372036854775808 : Int) ≤ 1; omega, by show (1 : Int) ≤ _; omega⟩, by show (1 : Nat) ≤ 1; decide, by show (1 : Nat) ≤ _; decide, by show (1 : Nat) ≤ maxLen; decide, fun h => by cases h⟩
  · have hj' : j < 1 := hj
    obtain rfl : j = 0 := by omega
    have hu' : ([.string ownT, .slice (some ⟨w.heap.size, 0, none⟩) 2 2, .int .i64 1] : List Value)[r]? = some u := hu
    rw [show 0 + 0 * elF.size + r = r by omega]
    rw [b2.cell r]
    simpa using hu'
  · have hj' : j < 2 := hj
    have h0 := b3.cell 0
    have h1 := b3.cell 1
    simp at h0 h1
    rcases (by omega : j = 0 ∨ j = 1) with rfl | rfl
    · exact h0
    · exact h1
  · have hj' : j < 2 := hj
    show 0 ≤ (if j = 0 then x else 7) ∧ (if j = 0 then x else 7) < 256
    split <;> omega
theorem ownL_new (b c : Nat) (x : Int) : newB (ownL b c x) = true := by
  refine newB_yes _ (by show (1 : Nat) ≤ 400; decide) fun i hi => ?_
  have hi' : i < 1 := hi
  obtain rfl : i = 0 := by omega
  rfl
end Go.Proofs.YtebiidfdokhpaabGreatDoor

namespace Go.Proofs.YtebiidfdokhpaabGreatDoor
open Go.RowKit
set_option maxRecDepth 8000
theorem MP.duo3 {Z : Nat → Prop} {w w1 w1' w2 : World} {pb db rb : Nat} {D D' : DK} {R : RK} {Cd Cr : Nat → Prop} {A : AK} (h : MP Z w pb db rb D R Cd Cr) (hd : Chg D' Cd db w w1) (hb : Below w1.heap.size w1 w1') (hc : RC A Cr rb w1' w2) (hr : Rel D' A) : PZ Z w w2 pb db rb Cd Cr := by
  obtain ⟨Cd', h3, b3, g3⟩ := h.dsk hd
  obtain ⟨h4, b4⟩ := h3.bel hb
  obtain ⟨R', Cr', e, h1, b1, g1⟩ := h4.ref hc
  exact ⟨⟨D', R', Cd', Cr', h1, by rw [e]; exact hr, g3.trans g1 (Nat.le_trans b3.size b4.size)⟩, (b3.trans b4).trans b1⟩
section
variable {Z : Nat → Prop} {w w1 w1' w2 : World} {pb db rb : Nat} {D : DK} {R : RK} {Cd Cr : Nat → Prop} {s : ByteArray} {e1 e2 : Ending}
theorem duo_append2 (h : MP Z w pb db rb D R Cd Cr) (hr : Rel D R.ak) {zs : List Int} (hd : ApD D s zs Cd db w e2 w1) (hb : Below w1.heap.size w1 w1') (hq : ApQ R s zs Cr rb w1' e1 w2) : ∃ x : Int, e1 = .returned (.int .i64 x) ∧ e2 = .returned (.int .i64 x) ∧ PZ Z w w2 pb db rb Cd Cr := by
  obtain ⟨c1, c2⟩ := hr.beg s
  have hlen : D.fs.length = R.fs.length := by have := hr.pm.length_eq; simpa [ak_ks] using this
  have hn4 := h.rk.n
  obtain ⟨p1, p2, p3, p4⟩ := c2.pay ((zs.length : Int) + 1)
  have hapE : payE (begD D s) ((zs.length : Int) + 1) = apE (ahR R s true) zs.length := by rw [p1]; rfl
  have hapR : Rel ((begD D s).pays ((zs.length : Int) + 1)) (apR (ahR R s true) zs.length).ak := p2
  have hfsA : (apR (ahR R s true) zs.length).fs = R.fs := by
    unfold apR
    split
    · exact (pyR_fs _ _).1.trans (ahR_fs R s true).1
    · exact (ahR_fs R s true).1
  have hapM : apM (begD D s) zs.length = apN (ahR R s true) zs.length := by
    unfold apM apN
    cases hp : pyB (ahR R s true) ((zs.length : Int) + 1) with
    | true => rw [p3 hp]; simp; omega
    | false =>
      obtain ⟨q1, q2, q3⟩ := p4 hp
      rw [q1]
      simp
      omega
  rcases hq with ⟨h0, rfl, hg⟩ | ⟨h0, hno, hfu, rfl, hg⟩ | ⟨h0, ⟨i, g, hi, hfu⟩, rfl, hg⟩ | ⟨h0, hno, hn1, hn2, rfl, hg⟩ | ⟨h0, i, g, hi, hn1, rfl, hg⟩
  · rcases hd with ⟨d0, rfl, hc⟩ | ⟨d0, _⟩ | ⟨d0, _⟩ | ⟨d0, _⟩ | ⟨d0, _⟩
    · exact ⟨_, rfl, by rw [c1], h.duo3 hc hb hg.rc c2⟩
    all_goals exact absurd (c1.symm.trans d0) h0
  · have hfn : fnd D s = none := by
      cases hf : fnd D s with
      | none => rfl
      | some f =>
        obtain ⟨i, g, hi⟩ := hr.some hf
        exact absurd hi.2 (hno g (List.mem_of_getElem? hi.1))
    rcases hd with ⟨d0, _⟩ | ⟨d0, _, _, rfl, hc⟩ | ⟨_, ⟨f, hf, _⟩, _⟩ | ⟨_, _, hm1, hm2, _⟩ | ⟨_, f, hf, _⟩
    · exact absurd (c1.trans h0) d0
    · exact ⟨104, rfl, rfl, h.duo3 hc hb hg c2⟩
    · rw [hfn] at hf; cases hf
    · omega
    · rw [hfn] at hf; cases hf
  · rcases hd with ⟨d0, _⟩ | ⟨d0, hf, _⟩ | ⟨_, ⟨f, hf, _⟩, rfl, hc⟩ | ⟨_, hf, _⟩ | ⟨_, f, hf, hm, _⟩
    · exact absurd (c1.trans h0) d0
    · exact absurd hi.2 (hr.none hf g (List.mem_of_getElem? hi.1))
    · exact ⟨104, rfl, rfl, h.duo3 hc hb hg c2⟩
    · exact absurd hi.2 (hr.none hf g (List.mem_of_getElem? hi.1))
    · have hk := hr.key h.dk.nodup hf hi
      obtain ⟨k1, k2, k3⟩ := key_eqs hk
      rw [k2, List.length_append] at hm
      omega
  · have hfn : fnd D s = none := by
      cases hf : fnd D s with
      | none => rfl
      | some f =>
        obtain ⟨i, g, hi⟩ := hr.some hf
        exact absurd hi.2 (hno g (List.mem_of_getElem? hi.1))
    rcases hd with ⟨d0, _⟩ | ⟨d0, _, hfu, _⟩ | ⟨_, ⟨f, hf, _⟩, _⟩ | ⟨_, _, hm1, hm2, rfl, f', hf', hc⟩ | ⟨_, f, hf, _⟩
    · exact absurd (c1.trans h0) d0
    · omega
    · rw [hfn] at hf; cases hf
    · refine ⟨_, rfl, by rw [hapE], h.duo3 hc hb hg ?_⟩
      have e : ((begD D s).pays ((zs.length : Int) + 1)).fs = D.fs := (pays_fs _ _).1.trans (beg_fs D s).1
      rw [hapM] at hf'
      have := hapR.add (f' := f') (k := (s, zs.take (apN (ahR R s true) zs.length), 0)) hf' (by
        intro a ha
        rw [ak_ks, hfsA] at ha
        obtain ⟨g, hg, rfl⟩ := List.mem_map.1 ha
        exact fun e => hno g hg e.symm)
      rw [ak_ks, hfsA, e] at this
      exact this
    · rw [hfn] at hf; cases hf
  · rcases hd with ⟨d0, _⟩ | ⟨d0, hf, _⟩ | ⟨_, ⟨f, hf, hm⟩, _⟩ | ⟨_, hf, _⟩ | ⟨_, f, hf, hm, rfl, f', hf', hc⟩
    · exact absurd (c1.trans h0) d0
    · exact absurd hi.2 (hr.none hf g (List.mem_of_getElem? hi.1))
    · have hk := hr.key h.dk.nodup hf hi
      obtain ⟨k1, k2, k3⟩ := key_eqs hk
      rw [k2, List.length_append] at hm
      omega
    · exact absurd hi.2 (hr.none hf g (List.mem_of_getElem? hi.1))
    · refine ⟨_, rfl, by rw [hapE], h.duo3 hc hb hg ?_⟩
      have hk := hr.key h.dk.nodup hf hi
      obtain ⟨k1, k2, k3⟩ := key_eqs hk
      rw [hapM, k2, k3] at hf'
      have := hapR.upd (s := s) (f' := f') (congrArg Prod.fst hf') hf'
      rw [ak_ks, hfsA] at this
      exact this
theorem ApD.but {zs : List Int} (h : ApD D s zs Cd db w e1 w1) : But Cd w w1 := by
  rcases h with ⟨_, _, h⟩ | ⟨_, _, _, _, h⟩ | ⟨_, _, _, h⟩ | ⟨_, _, _, _, _, _, _, h⟩ | ⟨_, _, _, _, _, _, _, h⟩
  all_goals exact h.2
theorem ApD.int {zs : List Int} (h : ApD D s zs Cd db w e1 w1) : ∃ x : Int, e1 = .returned (.int .i64 x) := by
  rcases h with ⟨_, h, _⟩ | ⟨_, _, _, h, _⟩ | ⟨_, _, h, _⟩ | ⟨_, _, _, _, h, _⟩ | ⟨_, _, _, _, h, _⟩
  all_goals exact ⟨_, h⟩
end
theorem row_slice {w : World} {B sz n : Nat} {e : TypeId} {v : Value} {xs : List Value} (h : w.ownsRow B e sz v n xs) : ∃ p c, v = .slice p n c := by
  obtain ⟨_, ⟨hv, h0⟩ | ⟨g, cap, cur, hv, _⟩⟩ := h
  · exact ⟨none, 0, by rw [hv, h0]⟩
  · exact ⟨_, _, hv⟩
/-- the list of the pairs, and the pairs -/
def ptrs (L : List Nat) : List Value := L.map fun b => .pointer (some ⟨b, 0, none⟩)
def YB (B : Nat) (v : Value) : Nat → Prop := fun k => k < B ∨ v.ownBlock = some k
structure MI (w : World) (B : Nat) (p : Option Addr) (c : Nat) (L : List Nat) : Prop where
  row : w.ownsRow B 25 1 (.slice p L.length c) L.length (ptrs L)
  many : Many w (YB B (.slice p L.length c)) L
  sz : B ≤ w.heap.size
theorem MI.below {w w' : World} {B : Nat} {p : Option Addr} {c : Nat} {L : List Nat} (h : MI w B p c L) (hb : Below w.heap.size w w') : MI w' B p c L :=
  ⟨ownsRow_keep h.row fun g _ hl => hb.block g hl, h.many.kept (But.ofBelow hb) fun k hk => ⟨.inl hk, by
    rcases hk with hk | hk
    · exact Nat.lt_of_lt_of_le hk (Nat.le_trans h.sz hb.size)
    · exact Nat.lt_of_lt_of_le (h.row.lt k hk).2 hb.size⟩, Nat.le_trans h.sz hb.size⟩
theorem MI.at_ {w : World} {B : Nat} {p : Option Addr} {c : Nat} {L : List Nat} (h : MI w B p c L) {i pb : Nat} (hi : L[i]? = some pb) : ∃ g, p = some ⟨g, 0, none⟩ ∧ YB B (.slice p L.length c) g ∧ g < w.heap.size ∧ w.cell? ⟨g, i, none⟩ = some (.pointer (some ⟨pb, 0, none⟩)) := by
  have hlt : i < L.length := (List.getElem?_eq_some_iff.1 hi).1
  have hcells := fun g hg => h.row.cells (g := g) hg
  have hl := h.row.lt
  obtain ⟨_, ⟨hv, h0⟩ | ⟨g, cap, cur, hv, hbg, hh, hnc, hcm, _⟩⟩ := id h.row
  · omega
  · simp only [Value.slice.injEq, true_and] at hv
    obtain ⟨hp, rfl⟩ := hv
    have hab : (Value.slice p L.length c).ownBlock = some g := by rw [hp]; rfl
    refine ⟨g, hp, .inr hab, (hl g hab).2, ?_⟩
    have h1 : (ptrs L)[i]? = some (.pointer (some ⟨pb, 0, none⟩)) := by rw [ptrs, List.getElem?_map, hi]; rfl
    have := hcells g hab _ _ h1
    rw [Go.WideShapes.add_plain, Nat.zero_add] at this
    exact this
theorem MI.one {w : World} {B : Nat} {p : Option Addr} {c : Nat} {L : List Nat} (h : MI w B p c L) {i pb : Nat} (hi : L[i]? = some pb) :
    ∃ Z db rb D R Cd Cr, (∀ k, YB B (.slice p L.length c) k → Z k) ∧ MP Z w pb db rb D R Cd Cr ∧ Rel D R.ak ∧ ∀ w', PZ Z w w' pb db rb Cd Cr → MI w' B p c L ∧ Below B w w' := by
  obtain ⟨Z, db, rb, D, R, Cd, Cr, hz, hM, hR, hst⟩ := h.many.one hi
  refine ⟨Z, db, rb, D, R, Cd, Cr, hz, hM, hR, fun w' hp => ?_⟩
  obtain ⟨h1, h2⟩ := hst w' hp
  exact ⟨⟨ownsRow_keep h.row fun g hg hl => h2.block g hl fun e => e (.inr hg), h1, Nat.le_trans h.sz h2.size⟩, But.below h2 h.sz fun k hk hn => hn (.inl hk)⟩
/-- one more pair, and it is laid behind the list -/
theorem MI.add {w W W1 : World} {B : Nat} {p : Option Addr} {c : Nat} {L : List Nat} {pb : Nat} {l : LT FA} {e : Ending} (h : MI w B p c L) (hb : Below w.heap.size w W) (hp : w.heap.size ≤ pb) (hpW : pb < W.heap.size) (hg : BgZ l W pb e W1) (hn : newB l = true) : (∃ db rb, W1.cell? ⟨pb, 0, none⟩ = some (.pointer (some ⟨db, 0, none⟩)) ∧ W1.cell? ⟨pb, 1, none⟩ = some (.pointer (some ⟨rb, 0, none⟩))) ∧ W1.ownsRow B 25 1 (.slice p L.length c) L.length (ptrs L) ∧ Below B w W1 ∧
    ∀ p' c' Wa W2, Below W1.heap.size W1 Wa → Wa.grownBy W2 (Value.slice p L.length c).ownBlock → Near Wa (.slice p L.length c) (.slice p' (L.length + 1) c') → W2.ownsRow B 25 1 (.slice p' (L.length + 1) c') (L.length + 1) (ptrs L ++ [.pointer (some ⟨pb, 0, none⟩)]) → MI W2 B p' c' (L ++ [pb]) ∧ Below B w W2 := by
  obtain ⟨_, hb1, ⟨h0, _⟩ | ⟨db, rb, D, R, Cd, Cr, hM, hR, hg⟩⟩ := hg
  · rw [hn] at h0; cases h0
  have hs := hb.size
  have hs1 := hb1.size
  have hsz := h.sz
  have hmany := h.many.add hb hp hpW hb1 hM hR hg
  have hrow : W1.ownsRow B 25 1 (.slice p L.length c) L.length (ptrs L) := ownsRow_keep h.row fun g _ hl => (hb1.block g (Nat.lt_of_lt_of_le hl hs) fun e => by have e' : g = pb := e; omega).trans (hb.block g hl)
  have hbl : Below B w W1 := (hb.mono hsz).trans (hb1.below (by omega) fun k hk e => by have e' : k = pb := e; omega)
  have hM0 := hM (fun _ => False) fun k hk => hk.elim
  refine ⟨⟨db, rb, by have := hM0.bx.cell 0; simpa using this, by have := hM0.bx.cell 1; simpa using this⟩, hrow, hbl, fun p' c' Wa W2 hba hgr hnear hrow2 => ?_⟩
  have hbt : But (YB B (.slice p L.length c)) W1 W2 := (But.ofBelow hba).grown hgr fun k hk _ => .inr hk
  have hs2 := hbt.size
  refine ⟨⟨by rw [List.length_append, ptrs, List.map_append]; exact hrow2, hmany.kept hbt fun k hk => ⟨?_, ?_⟩, by omega⟩, hbl.trans ((But.ofBelow hba : But (fun k => (Value.slice p L.length c).ownBlock = some k) W1 Wa).grown hgr (fun k hk _ => hk) |>.below (by omega) fun k hk e => by have := (hrow.lt k e).1; omega)⟩
  · rcases hk with hk | hk
    · exact .inl (.inl hk)
    · rw [List.length_append] at hk
      rcases hnear with e | e
      · exact .inl (.inr (e ▸ hk))
      · exact .inr (Nat.le_trans hba.size (e k hk))
  · rcases hk with hk | hk
    · omega
    · rw [List.length_append] at hk
      exact (hrow2.lt k hk).2
end Go.Proofs.YtebiidfdokhpaabGreatDoor
