import Derived.Test.YtebiidfdokhpaabGreatDoorRgF
import Derived.Test.YtebiidfdokhpaabGreatDoorPack43
namespace Go.Proofs.YtebiidfdokhpaabGreatDoor
open Go.RowKit
set_option maxRecDepth 8000
/-- one of two pairs: it was told nothing, or it is alike; U: its blocks -/
def PS (w : World) (B pb : Nat) (U : Nat → Prop) : Prop :=
  (Box w pb #[.pointer none, .pointer none] 29 ∧ (∀ k, U k → k = pb) ∧ U pb ∧ B ≤ pb) ∨
  ∃ db rb D R Cd Cr, MP (fun b => b < B) w pb db rb D R Cd Cr ∧ Rel D R.ak ∧ (∀ k, U k → k = pb ∨ Cd k ∨ Cr k) ∧ U pb ∧ (∀ k, Cd k → U k) ∧ ∀ k, Cr k → U k
theorem MP.wide {Z Z' : Nat → Prop} {w : World} {pb db rb : Nat} {D : DK} {R : RK} {Cd Cr : Nat → Prop} (h : MP Z w pb db rb D R Cd Cr) (hz : ∀ k, Z' k → k < w.heap.size ∧ k ≠ pb ∧ ¬ Cd k ∧ ¬ Cr k) : MP Z' w pb db rb D R Cd Cr :=
  ⟨h.bx, h.dk, h.rk, fun k hk => ⟨fun z => (hz k z).2.2.1 hk, (h.cd k hk).2⟩, fun k hk => ⟨fun z => (hz k z).2.2.2 hk, (h.cr k hk).2⟩, fun z => (hz pb z).2.1 rfl, fun k z => (hz k z).1⟩
theorem MP.kept {Z : Nat → Prop} {w w' : World} {pb db rb : Nat} {D : DK} {R : RK} {Cd Cr U : Nat → Prop} (h : MP Z w pb db rb D R Cd Cr) (hp : U pb) (hd : ∀ k, Cd k → U k) (hr : ∀ k, Cr k → U k) (hb : Fr U w w') : MP Z w' pb db rb D R Cd Cr :=
  ⟨h.bx.kept (hb.block pb h.bx.lt fun e => e hp), h.dk.kept fun k hk hl => hb.block k hl fun e => e (hd k hk), h.rk.kept fun k hk hl => hb.block k hl fun e => e (hr k hk), fun k hk => ⟨(h.cd k hk).1, Nat.lt_of_lt_of_le (h.cd k hk).2.1 hb.size, (h.cd k hk).2.2⟩, fun k hk => ⟨(h.cr k hk).1, Nat.lt_of_lt_of_le (h.cr k hk).2.1 hb.size, (h.cr k hk).2.2⟩, h.pZ, fun k hk => Nat.lt_of_lt_of_le (h.zs k hk) hb.size⟩
theorem PS.kept {w w' : World} {B pb : Nat} {U : Nat → Prop} (h : PS w B pb U) (hb : Fr U w w') : PS w' B pb U := by
  rcases h with ⟨hx, h1, h2, h3⟩ | ⟨db, rb, D, R, Cd, Cr, hM, hR, h1, h2, h3, h4⟩
  · exact .inl ⟨hx.kept (hb.block pb hx.lt fun e => e h2), h1, h2, h3⟩
  · exact .inr ⟨db, rb, D, R, Cd, Cr, hM.kept h2 h3 h4 hb, hR, h1, h2, h3, h4⟩
theorem PS.lt {w : World} {B pb : Nat} {U : Nat → Prop} (h : PS w B pb U) (k : Nat) (hk : U k) : k < w.heap.size := by
  rcases h with ⟨hx, h1, h2, h3⟩ | ⟨db, rb, D, R, Cd, Cr, hM, hR, h1, h2, h3, h4⟩
  · rw [h1 k hk]; exact hx.lt
  · rcases h1 k hk with rfl | h | h
    · exact hM.bx.lt
    · exact (hM.cd k h).2.1
    · exact (hM.cr k h).2.1
/-- two pairs beside one another -/
def Two (w : World) (B pb qb : Nat) : Prop := ∃ U V : Nat → Prop, PS w B pb U ∧ PS w B qb V ∧ (∀ k, U k → ¬ V k) ∧ B ≤ w.heap.size
theorem Two.swap {w : World} {B pb qb : Nat} (h : Two w B pb qb) : Two w B qb pb := by
  obtain ⟨U, V, h1, h2, h3, h4⟩ := h
  exact ⟨V, U, h2, h1, fun k hk hu => h3 k hu hk, h4⟩
theorem Two.below {w w' : World} {B pb qb : Nat} (h : Two w B pb qb) (hb : Below w.heap.size w w') : Two w' B pb qb := by
  obtain ⟨U, V, h1, h2, h3, h4⟩ := h
  exact ⟨U, V, h1.kept (Fr.of hb), h2.kept (Fr.of hb), h3, Nat.le_trans h4 hb.size⟩
/-- the first of the two, where it was told nothing or where it is alike: what it may do, and what stands then -/
def ZV (B : Nat) (V : Nat → Prop) : Nat → Prop := fun k => k < B ∨ V k
theorem Two.one {w : World} {B pb qb : Nat} (h : Two w B pb qb) : Box w pb #[.pointer none, .pointer none] 29 ∨
    ∃ V db rb D R Cd Cr, MP (ZV B V) w pb db rb D R Cd Cr ∧ Rel D R.ak ∧ ∀ w', PZ (ZV B V) w w' pb db rb Cd Cr → Two w' B pb qb ∧ Below B w w' := by
  obtain ⟨U, V, h1, h2, h3, h4⟩ := h
  have h1' := h1
  rcases h1' with ⟨hx, _⟩ | ⟨db, rb, D, R, Cd, Cr, hM, hR, u1, u2, u3, u4⟩
  · exact .inl hx
  · refine .inr ⟨V, db, rb, D, R, Cd, Cr, hM.wide fun k hk => ?_, hR, fun w' hz => ?_⟩
    · rcases hk with hk | hk
      · exact ⟨Nat.lt_of_lt_of_le hk h4, fun e => hM.pZ (e ▸ hk), fun e => (hM.cd k e).1 hk, fun e => (hM.cr k e).1 hk⟩
      · exact ⟨h2.lt k hk, fun e => h3 pb u2 (e ▸ hk), fun e => h3 k (u3 k e) hk, fun e => h3 k (u4 k e) hk⟩
    · obtain ⟨⟨D', R', Cd', Cr', hM', hR', _⟩, hf⟩ := hz
      refine ⟨⟨fun k => k = pb ∨ Cd' k ∨ Cr' k, V, .inr ⟨db, rb, D', R', Cd', Cr', hM'.wide fun k hk => ?_, hR', fun k hk => hk, .inl rfl, fun k hk => .inr (.inl hk), fun k hk => .inr (.inr hk)⟩, h2.kept (But.mono hf fun k _ hn hv => hn (.inr hv)), fun k hk hv => ?_, Nat.le_trans h4 hf.size⟩, hf.below h4 fun k hk hn => hn (.inl hk)⟩
      · exact ⟨hM'.zs k (.inl hk), fun e => hM'.pZ (.inl (e ▸ hk)), fun e => (hM'.cd k e).1 (.inl hk), fun e => (hM'.cr k e).1 (.inl hk)⟩
      · rcases hk with rfl | hk | hk
        · exact hM'.pZ (.inr hv)
        · exact (hM'.cd k hk).1 (.inr hv)
        · exact (hM'.cr k hk).1 (.inr hv)
theorem Two.two {w : World} {B pb qb : Nat} (h : Two w B pb qb) : ∃ pv, w.cell? ⟨pb, 0, none⟩ = some (.pointer pv) ∧ (pv = none ∨ ∃ V db rb D R Cd Cr, pv = some ⟨db, 0, none⟩ ∧ MP (ZV B V) w pb db rb D R Cd Cr ∧ Rel D R.ak) := by
  rcases h.one with hx | ⟨V, db, rb, D, R, Cd, Cr, hM, hR, _⟩
  · have := hx.cell 0
    exact ⟨none, by simpa using this, .inl rfl⟩
  · have := hM.bx.cell 0
    exact ⟨some ⟨db, 0, none⟩, by simpa using this, .inr ⟨V, db, rb, D, R, Cd, Cr, rfl, hM, hR⟩⟩
/-- behind both begins -/
theorem Two.begin {W W1 W2 : World} {B pb qb : Nat} {l m : LT FA} {e1 e2 : Ending} (hpq : pb ≠ qb) (hB : B ≤ pb) (hBq : B ≤ qb) (hpl : pb < W.heap.size) (hq : qb < W.heap.size) (h1 : BgZ l W pb e1 W1) (h2 : BgZ m W1 qb e2 W2) : Two W2 B pb qb ∧ Below B W W2 := by
  obtain ⟨_, b1, c1⟩ := h1
  obtain ⟨_, b2, c2⟩ := h2
  have hs1 := b1.size
  have hs2 := b2.size
  have hp : ∃ U, PS W1 B pb U ∧ ∀ k, U k → k ≠ qb := by
    rcases c1 with ⟨_, hx⟩ | ⟨db, rb, D, R, Cd, Cr, hM, hR, hg⟩
    · exact ⟨fun k => k = pb, .inl ⟨hx, fun k hk => hk, rfl, hB⟩, fun k hk e => hpq (by rw [← hk]; exact e)⟩
    · refine ⟨fun k => k = pb ∨ Cd k ∨ Cr k, .inr ⟨db, rb, D, R, Cd, Cr, hM _ fun k hk => ?_, hR, fun k hk => hk, .inl rfl, fun k hk => .inr (.inl hk), fun k hk => .inr (.inr hk)⟩, fun k hk e => ?_⟩
      · have hk' : k < B := hk
        exact ⟨by omega, by omega⟩
      · rcases hk with hk | hk
        · exact hpq (by rw [← hk]; exact e)
        · have := hg k hk; omega
  obtain ⟨U, hU, hne⟩ := hp
  have hfr : Fr U W1 W2 := b2.mono fun k _ hk hu => hne k hu hk
  have hq2 : ∃ V, PS W2 B qb V ∧ ∀ k, V k → k = qb ∨ W1.heap.size ≤ k := by
    rcases c2 with ⟨_, hx⟩ | ⟨db, rb, D, R, Cd, Cr, hM, hR, hg⟩
    · exact ⟨fun k => k = qb, .inl ⟨hx, fun k hk => hk, rfl, hBq⟩, fun k hk => .inl hk⟩
    · refine ⟨fun k => k = qb ∨ Cd k ∨ Cr k, .inr ⟨db, rb, D, R, Cd, Cr, hM _ fun k hk => ?_, hR, fun k hk => hk, .inl rfl, fun k hk => .inr (.inl hk), fun k hk => .inr (.inr hk)⟩, fun k hk => ?_⟩
      · have hk' : k < B := hk
        exact ⟨by omega, by omega⟩
      · exact hk.imp_right fun h => hg k h
  obtain ⟨V, hV, hge⟩ := hq2
  refine ⟨⟨U, V, hU.kept hfr, hV, fun k hk hv => ?_, by omega⟩, (b1.below (by omega) fun k hk e => by have e' : k = pb := e; omega).trans (b2.below (by omega) fun k hk e => by have e' : k = qb := e; omega)⟩
  rcases hge k hv with h | h
  · exact hne k hk h
  · have := hU.lt k hk; omega
set_option maxHeartbeats 32000000 in
theorem diskTwo_walk (l m : LT FA) (P : LT OpD) (w : World) (hl : LT.In elF w (fun b => b < w.heap.size) l) (hm : LT.In elF w (fun b => b < w.heap.size) m) (hP : LT.In elD w (fun b => b < w.heap.size) P) :
    Calls Tryz.prog 3 #[.slice l.p l.n l.c, .slice m.p m.n m.c, .slice P.p P.n P.c] w fun e w' => e = .returned (.bool true) ∧ Below w.heap.size w w' := by
  have HL := hid hl
  have HLm := hid hm
  have HP := hid hP
  have hpn := hP.nn
  have HFt := hid (sfits_any l P w _ _ hl hP)
  clear hl hm hP
  go_enter Tryz.func3, Tryz.ntmps3
  go_wp2_with fail
  refine HFt.out.mono ?_
  rintro e wf ⟨q, rfl, hbf, hq⟩
  have HBf := hid hbf
  clear hbf HFt
  cases q with
  | false =>
    go_wp2
    exact bodyPost_ret (v := .bool true) (by simp [results, Tryz.results3, go_sem]) rfl ⟨rfl, HBf.out⟩
  | true =>
    obtain ⟨⟨hn, hz⟩, hp4, hpz⟩ := hq rfl
    have HPz := hid hpz
    have HLz := hid (And.intro hn hz)
    clear hq hn hz hpz
    have HFt2 := hid (sfits_any m ⟨none, 0, 0, fun _ => ⟨0, 0, ⟨#[]⟩, 0, 0, none, 0, [], ⟨none, 0, 0, fun _ => 0⟩⟩⟩ wf _ (fun _ => True) (HLm.out.kept HBf.out.size fun b _ hlt => HBf.out.block b hlt) (LT.In.none_ _ _ _ none 0 _ (Nat.zero_le _) (fun _ => rfl)))
    go_wp2_with fail
    refine HFt2.out.mono ?_
    rintro e w0 ⟨q, rfl, hb0, hq⟩
    have HB0 : Hid (Below w.heap.size w w0) := HBf.out.trans (hb0.mono HBf.out.size)
    clear hb0 HFt2
    cases q with
    | false =>
      go_wp2
      exact bodyPost_ret (v := .bool true) (by simp [results, Tryz.results3, go_sem]) rfl ⟨rfl, HB0.out⟩
    | true =>
      obtain ⟨⟨hnm, hzm⟩, _, _⟩ := hq rfl
      have HMz := hid (And.intro hnm hzm)
      clear hq hnm hzm
      obtain ⟨V1, hV1⟩ : ∃ V, V = w0.alloc (.cells #[.pointer none, .pointer none] 29) := ⟨_, rfl⟩
      obtain ⟨V2, hV2⟩ : ∃ V, V = V1.alloc (.cells #[.pointer none, .pointer none] 29) := ⟨_, rfl⟩
      have hsz1 : V1.heap.size = w0.heap.size + 1 := by rw [hV1]; simp
      have hsz2 : V2.heap.size = w0.heap.size + 2 := by rw [hV2]; simp [hsz1]
      have HB01 : Hid (Below w0.heap.size w0 V1) := by show Below _ _ _; rw [hV1]; exact (Below.refl _ _).alloc (Nat.le_refl _) _
      have HB12 : Hid (Below V1.heap.size V1 V2) := by show Below _ _ _; rw [hV2]; exact (Below.refl _ _).alloc (Nat.le_refl _) _
      have HB1 : Hid (Below w.heap.size w V2) := (HB0.out.trans (HB01.out.mono HB0.out.size)).trans (HB12.out.mono (Nat.le_trans HB0.out.size HB01.out.size))
      have HXp0 : Hid (Box V1 w0.heap.size #[.pointer none, .pointer none] 29) := by show Box _ _ _ _; rw [hV1]; exact Box.new _ _ _
      have HXp : Hid (Box V2 w0.heap.size #[.pointer none, .pointer none] 29) := HXp0.out.below HB12.out
      have HXq : Hid (Box V2 (w0.heap.size + 1) #[.pointer none, .pointer none] 29) := by show Box _ _ _ _; rw [← hsz1, hV2]; exact Box.new _ _ _
      have HBg := hid (beginM_any l V2 w0.heap.size HXp.out ((HL.out.kept HB1.out.size fun b _ hlt => HB1.out.block b hlt).mono fun b hb _ => Nat.lt_of_lt_of_le hb HB1.out.size) HLz.out.1 HLz.out.2)
      have HSz := hid (And.intro hsz1 hsz2)
      have HV1 := hid hV1
      have HV2 := hid hV2
      clear hV1 hV2 hsz1 hsz2
      go_upto_region 4 with fail
      rw [← HV1.out]
      go_upto_region 5 with fail
      rw [← HV2.out]
      try rw [HSz.out.1]
      go_wp2_with fail
      refine HBg.out.mono ?_
      intro e W1 hg1
      have hbt := hg1.2.1
      obtain ⟨rfl⟩ := hg1.1
      have HBa : Hid (Below w.heap.size w W1) := HB1.out.trans (hbt.below HB1.out.size fun k hk e => by have e' : k = w0.heap.size := e; have := HB0.out.size; omega)
      have HBg2 := hid (beginM_any m W1 (w0.heap.size + 1) (HXq.out.kept (hbt.block _ HXq.out.lt fun e => by have e' : w0.heap.size + 1 = w0.heap.size := e; omega)) ((HLm.out.kept HBa.out.size fun b _ hlt => HBa.out.block b hlt).mono fun b hb _ => Nat.lt_of_lt_of_le hb HBa.out.size) HMz.out.1 HMz.out.2)
      have HG1 := hid hg1
      clear hg1 hbt HBg
      go_wp2_with fail
      refine HBg2.out.mono ?_
      intro e W2 hg2
      obtain ⟨rfl⟩ := hg2.1
      have h2 := Two.begin (B := w0.heap.size) (by omega) (by omega) (by omega) (by have := HSz.out.2; omega) (by have := HSz.out.2; omega) HG1.out hg2
      have HZ0 : Hid (w.heap.size ≤ w0.heap.size) := HB0.out.size
      have HT0 := hid h2.1
      have HBV : Hid (Below w.heap.size w W2) := HB1.out.trans (h2.2.mono HZ0.out)
      clear h2 hg2 HBg2 HG1
      go_wp2_with fail
      go_loopw [9, 10] (fun x _ wr => ∃ i : Nat, i ≤ P.n ∧ x = .int .i64 (i : Int) ∧ Two wr w0.heap.size w0.heap.size (w0.heap.size + 1) ∧ Below w.heap.size w wr) (fun x _ _ => P.n - (intOf x).toNat)
      case atStart => exact ⟨0, Nat.zero_le _, rfl, HT0.out, HBV.out⟩
      case round =>
        obtain ⟨i, hi, rfl, hT, hbw⟩ := hrel
        have HT := hid hT
        have HTq := hid hT.swap
        have HBw := hid hbw
        clear hT hbw
        by_cases hlt : i < P.n
        · have hlt' : (i : Int) < (P.n : Int) := by omega
          obtain ⟨bb, o, hp, hbS, hbb, hat⟩ := HP.out.at_ (by omega)
          rw [hp]
          obtain ⟨op, hop⟩ : ∃ op, op = P.item i := ⟨_, rfl⟩
          have hce : ∀ r u, (elD.cells (P.item i))[r]? = some u → wr.cell? ⟨bb, o + i * 7 + r, none⟩ = some u := fun r u hu => (World.cell?_of_block (a := ⟨bb, o + i * 7 + r, none⟩) (HBw.out.block bb hbS)).trans (hat i hlt r u hu)
          rw [← hop] at hce
          have a0 : wr.cell? ⟨bb, o + i * 7, none⟩ = some (.int .i64 op.kind) := hce 0 _ rfl
          have a1 : wr.cell? ⟨bb, o + i * 7 + 1, none⟩ = some (.int .i64 op.which) := hce 1 _ rfl
          have a2 : wr.cell? ⟨bb, o + i * 7 + 2, none⟩ = some (.string op.name) := hce 2 _ rfl
          have a3 : wr.cell? ⟨bb, o + i * 7 + 3, none⟩ = some (.int .i64 op.n) := hce 3 _ rfl
          have a4 : wr.cell? ⟨bb, o + i * 7 + 4, none⟩ = some (.int .i64 op.after) := hce 4 _ rfl
          have a5 : wr.cell? ⟨bb, o + i * 7 + 5, none⟩ = some (.slice op.bp op.zs.length op.bc) := hce 5 _ rfl
          have a6 : wr.cell? ⟨bb, o + i * 7 + 6, none⟩ = some (.slice op.K.p op.K.n op.K.c) := hce 6 _ rfl
          have HOpe := hid hop
          clear hat hce hop
          by_cases hw1 : op.which = 1
          · have hw1' : (op.which == 1) = true := by simp [hw1]
            clear hw1
            rcases HTq.out.one with hx | ⟨V, db, rb, D2, R2, Cd2, Cr2, hM2, hR2, hst⟩
            · have b0 := hx.cell 0
              simp at b0
              clear hx
              go_wp2
              go_roundw
              case rel => exact ⟨i + 1, by omega, by go_num, HT.out, HBw.out⟩
              case measure => simp [intOf]; omega
            · have HM2 := hid hM2
              have HR2 := hid hR2
              have HSt := hid hst
              have b0 := hM2.bx.cell 0
              simp at b0
              clear hM2 hR2 hst
              have HOp : Hid (op.In wr (ZV w0.heap.size V)) := by
                have h1 := HP.out.each i hlt
                have h2 := HPz.out i hlt
                rw [← HOpe.out] at h1 h2
                have h3 := elD.mono (elD.kept h1 HBw.out.size fun b hb _ => HBw.out.block b hb) (S' := ZV w0.heap.size V) fun b hb _ => .inl (Nat.lt_of_lt_of_le hb HZ0.out)
                exact ⟨h3.1, h3.2.1, h3.2.2.1, h3.2.2.2.1, h3.2.2.2.2.1, h3.2.2.2.2.2, h2.1, h2.2⟩
              have HPl := hid (plays_any op wr (ZV w0.heap.size V) (w0.heap.size + 1) db rb D2 R2 Cd2 Cr2 HM2.out HR2.out HOp.out)
              simp only [OpD.cs] at HPl
              go_wp2_with fail
              refine HPl.out.mono ?_
              rintro e w5 ⟨rfl, hz⟩
              have HT5 := hid (HSt.out w5 hz)
              clear hz HPl
              clear a0 a1 a2 a3 a4 a5 a6 b0
              go_wp2
              go_roundw
              case rel => exact ⟨i + 1, by omega, by go_num, HT5.out.1.swap, HBw.out.trans (HT5.out.2.mono HZ0.out)⟩
              case measure => simp [intOf]; omega
          · have hw1' : (op.which == 1) = false := by simpa using hw1
            clear hw1
            rcases HT.out.one with hx | ⟨V, db, rb, D2, R2, Cd2, Cr2, hM2, hR2, hst⟩
            · have b0 := hx.cell 0
              simp at b0
              clear hx
              go_wp2
              go_roundw
              case rel => exact ⟨i + 1, by omega, by go_num, HT.out, HBw.out⟩
              case measure => simp [intOf]; omega
            · have HM2 := hid hM2
              have HR2 := hid hR2
              have HSt := hid hst
              have b0 := hM2.bx.cell 0
              simp at b0
              clear hM2 hR2 hst
              have HOp : Hid (op.In wr (ZV w0.heap.size V)) := by
                have h1 := HP.out.each i hlt
                have h2 := HPz.out i hlt
                rw [← HOpe.out] at h1 h2
                have h3 := elD.mono (elD.kept h1 HBw.out.size fun b hb _ => HBw.out.block b hb) (S' := ZV w0.heap.size V) fun b hb _ => .inl (Nat.lt_of_lt_of_le hb HZ0.out)
                exact ⟨h3.1, h3.2.1, h3.2.2.1, h3.2.2.2.1, h3.2.2.2.2.1, h3.2.2.2.2.2, h2.1, h2.2⟩
              have HPl := hid (plays_any op wr (ZV w0.heap.size V) w0.heap.size db rb D2 R2 Cd2 Cr2 HM2.out HR2.out HOp.out)
              simp only [OpD.cs] at HPl
              go_wp2_with fail
              refine HPl.out.mono ?_
              rintro e w5 ⟨rfl, hz⟩
              have HT5 := hid (HSt.out w5 hz)
              clear hz HPl
              clear a0 a1 a2 a3 a4 a5 a6 b0
              go_wp2
              go_roundw
              case rel => exact ⟨i + 1, by omega, by go_num, HT5.out.1, HBw.out.trans (HT5.out.2.mono HZ0.out)⟩
              case measure => simp [intOf]; omega
        · have hlt' : ¬ (i : Int) < (P.n : Int) := by omega
          obtain ⟨pv, p0, hpv⟩ := HT.out.two
          have Hpv := hid hpv
          clear hpv
          obtain ⟨qv, q0, hqv⟩ := HTq.out.two
          have Hqv := hid hqv
          clear hqv
          go_upto_region 15 with fail
          refine wp_region_calmP 60 (fun wx => Below wr.heap.size wr wx) [(0, true), (1, true), (2, true), (3, false), (4, true), (5, true), (6, true), (7, true), (8, true), (9, false), (11, true), (12, true), (13, true), (14, false)] (.one 10 true [] (.one 15 true [] (.one 16 true [(17, true), (18, true), (19, true), (20, true), (21, true), (22, false), (23, true), (24, true), (25, true), (26, true), (27, true), (28, false), (30, true), (31, true), (32, true), (33, false)] (.one 29 true [] (.one 34 true [] (.one 35 true [(36, true), (37, true), (38, true)] .done)))))) (by kernel_rfl) (by kernel_rfl) (Below.refl _ _).drew ?_
          rcases Hpv.out with hpe | ⟨Vp, dbp, rbp, Dp, Rp, Cdp, Crp, hpe, hMp, hRp⟩
          · subst hpe
            rcases Hqv.out with hqe | ⟨Vq, dbq, rbq, Dq, Rq, Cdq, Crq, hqe, hMq, hRq⟩
            · subst hqe
              refine wpPre_e rfl rfl (fun K1 hK1 => ?_)
              apply Exists.intro
              refine And.intro (fun wx hx => ?_) ?_
              · go_simp
                try rfl
              go_simp
              refine hK1 _ ?_
              clear hK1 K1
              refine wpPre_e rfl rfl (fun K1 hK1 => ?_)
              apply Exists.intro
              refine And.intro (fun wx hx => ?_) ?_
              · go_simp
                try rfl
              go_simp
              refine hK1 _ ?_
              clear hK1 K1
              refine wpPre_e rfl rfl (fun K1 hK1 => ?_)
              apply Exists.intro
              refine And.intro (fun wx hx => ?_) ?_
              · go_simp
                try rfl
              go_simp
              refine hK1 _ ?_
              clear hK1 K1
              refine wpPre_e rfl rfl (fun K1 hK1 => ?_)
              apply Exists.intro
              refine And.intro (fun wx hx => ?_) ?_
              · have e0 := below_fact hx rfl p0
                go_simp
                try rfl
              go_simp
              refine hK1 _ ?_
              clear hK1 K1
              refine wpPre_e rfl rfl (fun K1 hK1 => ?_)
              apply Exists.intro
              refine And.intro (fun wx hx => ?_) ?_
              · go_simp
                try rfl
              go_simp
              refine hK1 _ ?_
              clear hK1 K1
              refine wpPre_e rfl rfl (fun K1 hK1 => ?_)
              apply Exists.intro
              refine And.intro (fun wx hx => ?_) ?_
              · go_simp
                try rfl
              go_simp
              refine hK1 _ ?_
              clear hK1 K1
              refine wpPre_i rfl (fun K1 hK1 => ?_)
              rw [if_neg (by go_simp; all_goals (intro h; cases h))]
              go_simp
              refine hK1 _ ?_
              clear hK1 K1
              refine wpPre_i rfl (fun K1 hK1 => ?_)
              rw [if_neg (by go_simp; all_goals (intro h; cases h))]
              go_simp
              refine hK1 _ ?_
              clear hK1 K1
              refine wpPre_i rfl (fun K1 hK1 => ?_)
              rw [if_neg (by go_simp; all_goals (intro h; cases h))]
              go_simp
              refine hK1 _ ?_
              clear hK1 K1
              refine wpPre_i rfl (fun K1 hK1 => ?_)
              rw [if_neg (by go_simp; all_goals (intro h; cases h))]
              go_simp
              refine hK1 _ ?_
              clear hK1 K1
              refine wpPre_i rfl (fun K1 hK1 => ?_)
              rw [if_neg (by go_simp; all_goals (intro h; cases h))]
              go_simp
              refine hK1 _ ?_
              clear hK1 K1
              refine wpPre_i rfl (fun K1 hK1 => ?_)
              rw [if_neg (by go_simp; all_goals (intro h; cases h))]
              go_simp
              refine hK1 _ ?_
              clear hK1 K1
              refine wpPre_i rfl (fun K1 hK1 => ?_)
              rw [if_neg (by go_simp; all_goals (intro h; cases h))]
              go_simp
              refine hK1 _ ?_
              clear hK1 K1
              refine wpPre_i rfl (fun K1 hK1 => ?_)
              rw [if_neg (by go_simp; all_goals (intro h; cases h))]
              go_simp
              refine hK1 _ ?_
              clear hK1 K1
              refine wpPre_nil ?_
              refine wpTr_e rfl (fun K1 hK1 => ?_)
              rw [if_neg (by go_simp; all_goals (intro h; cases h))]
              go_simp
              refine hK1 _ _ (fun _ => ((Below.refl wr.heap.size wr).drew)) ?_
              clear hK1 K1
              refine wpPre_nil ?_
              refine wpTr_e rfl (fun K1 hK1 => ?_)
              rw [if_neg (by go_simp; all_goals (intro h; cases h))]
              go_simp
              refine hK1 _ _ (fun _ => ((Below.refl wr.heap.size wr).drew)) ?_
              clear hK1 K1
              refine wpPre_nil ?_
              refine wpTr_e rfl (fun K1 hK1 => ?_)
              rw [if_neg (by go_simp; all_goals (intro h; cases h))]
              go_simp
              refine hK1 _ _ (fun _ => ((Below.refl wr.heap.size wr).drew)) ?_
              clear hK1 K1
              refine wpPre_e rfl rfl (fun K1 hK1 => ?_)
              apply Exists.intro
              refine And.intro (fun wx hx => ?_) ?_
              · go_simp
                try rfl
              go_simp
              refine hK1 _ ?_
              clear hK1 K1
              refine wpPre_e rfl rfl (fun K1 hK1 => ?_)
              apply Exists.intro
              refine And.intro (fun wx hx => ?_) ?_
              · go_simp
                try rfl
              go_simp
              refine hK1 _ ?_
              clear hK1 K1
              refine wpPre_i rfl (fun K1 hK1 => ?_)
              rw [if_pos (by go_simp)]
              apply Exists.intro
              refine And.intro (fun wx hx => ?_) ?_
              · go_simp
                try rfl
              go_simp
              refine hK1 _ ?_
              clear hK1 K1
              refine wpPre_i rfl (fun K1 hK1 => ?_)
              rw [if_pos (by go_simp)]
              apply Exists.intro
              refine And.intro (fun wx hx => ?_) ?_
              · go_simp
                try rfl
              go_simp
              refine hK1 _ ?_
              clear hK1 K1
              refine wpPre_i rfl (fun K1 hK1 => ?_)
              rw [if_pos (by go_simp)]
              apply Exists.intro
              refine And.intro (fun wx hx => ?_) ?_
              · go_simp
                try rfl
              go_simp
              refine hK1 _ ?_
              clear hK1 K1
              refine wpPre_i rfl (fun K1 hK1 => ?_)
              rw [if_pos (by go_simp)]
              apply Exists.intro
              refine And.intro (fun wx hx => ?_) ?_
              · have e0 := below_fact hx rfl q0
                go_simp
                try rfl
              go_simp
              refine hK1 _ ?_
              clear hK1 K1
              refine wpPre_i rfl (fun K1 hK1 => ?_)
              rw [if_pos (by go_simp)]
              apply Exists.intro
              refine And.intro (fun wx hx => ?_) ?_
              · go_simp
                try rfl
              go_simp
              refine hK1 _ ?_
              clear hK1 K1
              refine wpPre_i rfl (fun K1 hK1 => ?_)
              rw [if_pos (by go_simp)]
              apply Exists.intro
              refine And.intro (fun wx hx => ?_) ?_
              · go_simp
                try rfl
              go_simp
              refine hK1 _ ?_
              clear hK1 K1
              refine wpPre_i rfl (fun K1 hK1 => ?_)
              rw [if_neg (by go_simp; all_goals (intro h; cases h))]
              go_simp
              refine hK1 _ ?_
              clear hK1 K1
              refine wpPre_i rfl (fun K1 hK1 => ?_)
              rw [if_neg (by go_simp; all_goals (intro h; cases h))]
              go_simp
              refine hK1 _ ?_
              clear hK1 K1
              refine wpPre_i rfl (fun K1 hK1 => ?_)
              rw [if_neg (by go_simp; all_goals (intro h; cases h))]
              go_simp
              refine hK1 _ ?_
              clear hK1 K1
              refine wpPre_i rfl (fun K1 hK1 => ?_)
              rw [if_neg (by go_simp; all_goals (intro h; cases h))]
              go_simp
              refine hK1 _ ?_
              clear hK1 K1
              refine wpPre_i rfl (fun K1 hK1 => ?_)
              rw [if_neg (by go_simp; all_goals (intro h; cases h))]
              go_simp
              refine hK1 _ ?_
              clear hK1 K1
              refine wpPre_i rfl (fun K1 hK1 => ?_)
              rw [if_neg (by go_simp; all_goals (intro h; cases h))]
              go_simp
              refine hK1 _ ?_
              clear hK1 K1
              refine wpPre_i rfl (fun K1 hK1 => ?_)
              rw [if_neg (by go_simp; all_goals (intro h; cases h))]
              go_simp
              refine hK1 _ ?_
              clear hK1 K1
              refine wpPre_i rfl (fun K1 hK1 => ?_)
              rw [if_neg (by go_simp; all_goals (intro h; cases h))]
              go_simp
              refine hK1 _ ?_
              clear hK1 K1
              refine wpPre_nil ?_
              refine wpTr_e rfl (fun K1 hK1 => ?_)
              rw [if_neg (by go_simp; all_goals (intro h; cases h))]
              go_simp
              refine hK1 _ _ (fun _ => ((Below.refl wr.heap.size wr).drew)) ?_
              clear hK1 K1
              refine wpPre_nil ?_
              refine wpTr_e rfl (fun K1 hK1 => ?_)
              rw [if_neg (by go_simp; all_goals (intro h; cases h))]
              go_simp
              refine hK1 _ _ (fun _ => ((Below.refl wr.heap.size wr).drew)) ?_
              clear hK1 K1
              refine wpPre_nil ?_
              refine wpTr_e rfl (fun K1 hK1 => ?_)
              rw [if_neg (by go_simp; all_goals (intro h; cases h))]
              go_simp
              refine hK1 _ _ (fun _ => ((Below.refl wr.heap.size wr).drew)) ?_
              clear hK1 K1
              refine wpPre_i rfl (fun K1 hK1 => ?_)
              rw [if_pos (by go_simp)]
              apply Exists.intro
              refine And.intro (fun wx hx => ?_) ?_
              · go_simp
                try rfl
              go_simp
              refine hK1 _ ?_
              clear hK1 K1
              refine wpPre_e rfl rfl (fun K1 hK1 => ?_)
              apply Exists.intro
              refine And.intro (fun wx hx => ?_) ?_
              · go_simp
                try rfl
              go_simp
              refine hK1 _ ?_
              clear hK1 K1
              refine wpPre_e rfl rfl (fun K1 hK1 => ?_)
              apply Exists.intro
              refine And.intro (fun wx hx => ?_) ?_
              · go_simp
                try rfl
              go_simp
              refine hK1 _ ?_
              clear hK1 K1
              refine wpPre_nil ?_
              refine wpTr_done ?_
              have HBE : Hid (Below wr.heap.size wr wr.drew) := ((Below.refl wr.heap.size wr).drew)
              clear p0 q0
              go_wp2
              exact bodyPost_ret (v := .bool true) (by simp [results, Tryz.results3, go_sem]) rfl ⟨rfl, HBw.out.trans (HBE.out.mono HBw.out.size)⟩
            · subst hqe
              have HMq := hid hMq
              have HRq := hid hRq
              have q1 := hMq.bx.cell 1
              simp at q1
              have HFq1 : Hid (∀ Wx, Below wr.heap.size wr Wx → Calls Tryz.prog 9 #[.pointer (some ⟨dbq, 0, none⟩)] Wx fun e w' => FilesQ Dq Wx e w') := fun Wx hW => dfiles_any Dq Wx _ dbq (HMq.out.dk.below hW)
              have HFq2 : Hid (∀ Wx, Below wr.heap.size wr Wx → Calls Tryz.prog 10 #[.pointer (some ⟨rbq, 0, none⟩)] Wx fun e w' => RfilesQ Rq.lt Wx e w') := fun Wx hW => by
                have hk := HMq.out.rk.below hW
                have hr := hk.bx.cell 0
                exact rfiles_any Rq.lt Wx _ rbq (by rw [Rq.lt_n]; show Wx.cell? ⟨rbq, 0, none⟩ = some (.slice Rq.p Rq.fs.length Rq.c); simpa using hr) hk.toLt (by rw [Rq.lt_n]; have := hk.n; omega)
              clear hMq hRq
              refine wpPre_e rfl rfl (fun K1 hK1 => ?_)
              apply Exists.intro
              refine And.intro (fun wx hx => ?_) ?_
              · go_simp
                try rfl
              go_simp
              refine hK1 _ ?_
              clear hK1 K1
              refine wpPre_e rfl rfl (fun K1 hK1 => ?_)
              apply Exists.intro
              refine And.intro (fun wx hx => ?_) ?_
              · go_simp
                try rfl
              go_simp
              refine hK1 _ ?_
              clear hK1 K1
              refine wpPre_e rfl rfl (fun K1 hK1 => ?_)
              apply Exists.intro
              refine And.intro (fun wx hx => ?_) ?_
              · go_simp
                try rfl
              go_simp
              refine hK1 _ ?_
              clear hK1 K1
              refine wpPre_e rfl rfl (fun K1 hK1 => ?_)
              apply Exists.intro
              refine And.intro (fun wx hx => ?_) ?_
              · have e0 := below_fact hx rfl p0
                go_simp
                try rfl
              go_simp
              refine hK1 _ ?_
              clear hK1 K1
              refine wpPre_e rfl rfl (fun K1 hK1 => ?_)
              apply Exists.intro
              refine And.intro (fun wx hx => ?_) ?_
              · go_simp
                try rfl
              go_simp
              refine hK1 _ ?_
              clear hK1 K1
              refine wpPre_e rfl rfl (fun K1 hK1 => ?_)
              apply Exists.intro
              refine And.intro (fun wx hx => ?_) ?_
              · go_simp
                try rfl
              go_simp
              refine hK1 _ ?_
              clear hK1 K1
              refine wpPre_i rfl (fun K1 hK1 => ?_)
              rw [if_neg (by go_simp; all_goals (intro h; cases h))]
              go_simp
              refine hK1 _ ?_
              clear hK1 K1
              refine wpPre_i rfl (fun K1 hK1 => ?_)
              rw [if_neg (by go_simp; all_goals (intro h; cases h))]
              go_simp
              refine hK1 _ ?_
              clear hK1 K1
              refine wpPre_i rfl (fun K1 hK1 => ?_)
              rw [if_neg (by go_simp; all_goals (intro h; cases h))]
              go_simp
              refine hK1 _ ?_
              clear hK1 K1
              refine wpPre_i rfl (fun K1 hK1 => ?_)
              rw [if_neg (by go_simp; all_goals (intro h; cases h))]
              go_simp
              refine hK1 _ ?_
              clear hK1 K1
              refine wpPre_i rfl (fun K1 hK1 => ?_)
              rw [if_neg (by go_simp; all_goals (intro h; cases h))]
              go_simp
              refine hK1 _ ?_
              clear hK1 K1
              refine wpPre_i rfl (fun K1 hK1 => ?_)
              rw [if_neg (by go_simp; all_goals (intro h; cases h))]
              go_simp
              refine hK1 _ ?_
              clear hK1 K1
              refine wpPre_i rfl (fun K1 hK1 => ?_)
              rw [if_neg (by go_simp; all_goals (intro h; cases h))]
              go_simp
              refine hK1 _ ?_
              clear hK1 K1
              refine wpPre_i rfl (fun K1 hK1 => ?_)
              rw [if_neg (by go_simp; all_goals (intro h; cases h))]
              go_simp
              refine hK1 _ ?_
              clear hK1 K1
              refine wpPre_nil ?_
              refine wpTr_e rfl (fun K1 hK1 => ?_)
              rw [if_neg (by go_simp; all_goals (intro h; cases h))]
              go_simp
              refine hK1 _ _ (fun _ => ((Below.refl wr.heap.size wr).drew)) ?_
              clear hK1 K1
              refine wpPre_nil ?_
              refine wpTr_e rfl (fun K1 hK1 => ?_)
              rw [if_neg (by go_simp; all_goals (intro h; cases h))]
              go_simp
              refine hK1 _ _ (fun _ => ((Below.refl wr.heap.size wr).drew)) ?_
              clear hK1 K1
              refine wpPre_nil ?_
              refine wpTr_e rfl (fun K1 hK1 => ?_)
              rw [if_neg (by go_simp; all_goals (intro h; cases h))]
              go_simp
              refine hK1 _ _ (fun _ => ((Below.refl wr.heap.size wr).drew)) ?_
              clear hK1 K1
              refine wpPre_e rfl rfl (fun K1 hK1 => ?_)
              apply Exists.intro
              refine And.intro (fun wx hx => ?_) ?_
              · go_simp
                try rfl
              go_simp
              refine hK1 _ ?_
              clear hK1 K1
              refine wpPre_e rfl rfl (fun K1 hK1 => ?_)
              apply Exists.intro
              refine And.intro (fun wx hx => ?_) ?_
              · go_simp
                try rfl
              go_simp
              refine hK1 _ ?_
              clear hK1 K1
              refine wpPre_i rfl (fun K1 hK1 => ?_)
              rw [if_pos (by go_simp)]
              apply Exists.intro
              refine And.intro (fun wx hx => ?_) ?_
              · go_simp
                try rfl
              go_simp
              refine hK1 _ ?_
              clear hK1 K1
              refine wpPre_i rfl (fun K1 hK1 => ?_)
              rw [if_pos (by go_simp)]
              apply Exists.intro
              refine And.intro (fun wx hx => ?_) ?_
              · go_simp
                try rfl
              go_simp
              refine hK1 _ ?_
              clear hK1 K1
              refine wpPre_i rfl (fun K1 hK1 => ?_)
              rw [if_pos (by go_simp)]
              apply Exists.intro
              refine And.intro (fun wx hx => ?_) ?_
              · go_simp
                try rfl
              go_simp
              refine hK1 _ ?_
              clear hK1 K1
              refine wpPre_i rfl (fun K1 hK1 => ?_)
              rw [if_pos (by go_simp)]
              apply Exists.intro
              refine And.intro (fun wx hx => ?_) ?_
              · have e0 := below_fact hx rfl q0
                go_simp
                try rfl
              go_simp
              refine hK1 _ ?_
              clear hK1 K1
              refine wpPre_i rfl (fun K1 hK1 => ?_)
              rw [if_pos (by go_simp)]
              apply Exists.intro
              refine And.intro (fun wx hx => ?_) ?_
              · go_simp
                try rfl
              go_simp
              refine hK1 _ ?_
              clear hK1 K1
              refine wpPre_i rfl (fun K1 hK1 => ?_)
              rw [if_pos (by go_simp)]
              apply Exists.intro
              refine And.intro (fun wx hx => ?_) ?_
              · go_simp
                try rfl
              go_simp
              refine hK1 _ ?_
              clear hK1 K1
              refine wpPre_i rfl (fun K1 hK1 => ?_)
              rw [if_pos (by go_simp)]
              apply Exists.intro
              refine And.intro (fun wx hx => ?_) ?_
              · go_simp
                try rfl
              go_simp
              refine hK1 _ ?_
              clear hK1 K1
              refine wpPre_i rfl (fun K1 hK1 => ?_)
              rw [if_pos (by go_simp)]
              apply Exists.intro
              refine And.intro (fun wx hx => ?_) ?_
              · go_simp
                try rfl
              go_simp
              refine hK1 _ ?_
              clear hK1 K1
              refine wpPre_i rfl (fun K1 hK1 => ?_)
              rw [if_pos (by go_simp)]
              apply Exists.intro
              refine And.intro (fun wx hx => ?_) ?_
              · go_simp
                try rfl
              go_simp
              refine hK1 _ ?_
              clear hK1 K1
              refine wpPre_i rfl (fun K1 hK1 => ?_)
              rw [if_pos (by go_simp)]
              apply Exists.intro
              refine And.intro (fun wx hx => ?_) ?_
              · have e0 := below_fact hx rfl q0
                go_simp
                try rfl
              go_simp
              refine hK1 _ ?_
              clear hK1 K1
              refine wpPre_i rfl (fun K1 hK1 => ?_)
              rw [if_pos (by go_simp)]
              apply Exists.intro
              refine And.intro (fun wx hx => ?_) ?_
              · go_simp
                try rfl
              go_simp
              refine hK1 _ ?_
              clear hK1 K1
              refine wpPre_i rfl (fun K1 hK1 => ?_)
              rw [if_pos (by go_simp)]
              apply Exists.intro
              refine And.intro (fun wx hx => ?_) ?_
              · go_simp
                try rfl
              go_simp
              refine hK1 _ ?_
              clear hK1 K1
              refine wpPre_i rfl (fun K1 hK1 => ?_)
              rw [if_pos (by go_simp)]
              apply Exists.intro
              refine And.intro (fun wx hx => ?_) ?_
              · go_simp
                try rfl
              go_simp
              refine hK1 _ ?_
              clear hK1 K1
              refine wpPre_i rfl (fun K1 hK1 => ?_)
              rw [if_pos (by go_simp)]
              apply Exists.intro
              refine And.intro (fun wx hx => ?_) ?_
              · have e0 := below_fact hx rfl q1
                go_simp
                try rfl
              go_simp
              refine hK1 _ ?_
              clear hK1 K1
              refine wpPre_nil ?_
              refine wpTr_e rfl (fun K1 hK1 => ?_)
              refine step_callG (by first | rfl | go_simp) 9 #[.tmp 90] _ rfl Tryz.f9 Tryz.func9 (by kernel_rfl) rfl #[.pointer (some ⟨dbq, 0, none⟩)] rfl _ (HFq1.out _ ((Below.refl wr.heap.size wr).drew)) ?_
              rintro e_ wq1 ⟨uq, Yq, rfl, hu, hYp, hYs, hun, huk, hb3⟩
              refine ⟨_, rfl, ?_⟩
              have HUq := hid hu
              have HYq := hid (And.intro hYp (And.intro hYs (And.intro hun huk)))
              have HBq1 : Hid (Below wr.heap.size wr wq1) := Below.trans ((Below.refl wr.heap.size wr).drew) (hb3.mono (Below.size ((Below.refl wr.heap.size wr).drew)))
              clear hu hYp hYs hun huk hb3
              go_simp
              refine hK1 _ _ (fun _ => HBq1.out) ?_
              clear hK1 K1
              refine wpPre_nil ?_
              refine wpTr_e rfl (fun K1 hK1 => ?_)
              refine step_callG (by first | rfl | go_simp) 10 #[.tmp 95] _ rfl Tryz.f10 Tryz.func10 (by kernel_rfl) rfl #[.pointer (some ⟨rbq, 0, none⟩)] rfl _ (HFq2.out _ HBq1.out) ?_
              rintro e_ wq2 ⟨vq, rfl, hv, hvn, hvk, hb4⟩
              refine ⟨_, rfl, ?_⟩
              have HVq := hid hv
              have HKq := hid (And.intro hvn hvk)
              have HBq12 := hid hb4
              have HBq2 : Hid (Below wr.heap.size wr wq2) := HBq1.out.trans (hb4.mono HBq1.out.size)
              clear hv hvn hvk hb4
              go_simp
              refine hK1 _ _ (fun _ => HBq2.out) ?_
              clear hK1 K1
              refine wpPre_nil ?_
              refine wpTr_e rfl (fun K1 hK1 => ?_)
              have HSq := hid (files_same HRq.out (fun f hf => (HMq.out.dk.each f hf).nm) HMq.out.dk.nodup HYq.out.1 HYq.out.2.1 HYq.out.2.2.1 HYq.out.2.2.2 HKq.out.1 HKq.out.2)
              refine step_callG (by first | rfl | go_simp) 8 #[.tmp 91, .tmp 96] _ rfl Tryz.f8 Tryz.func8 (by kernel_rfl) rfl #[.slice uq.p uq.n uq.c, .slice vq.p vq.n vq.c] rfl _ (alike_yes uq vq wq2 _ _ (HUq.out.kept HBq12.out.size fun b _ hl => HBq12.out.block b hl) HVq.out HSq.out.1 HSq.out.2) ?_
              rintro e_ wq3 ⟨rfl, hb5⟩
              refine ⟨_, rfl, ?_⟩
              have HBq3 : Hid (Below wr.heap.size wr wq3) := HBq2.out.trans (hb5.mono HBq2.out.size)
              clear hb5
              go_simp
              refine hK1 _ _ (fun _ => HBq3.out) ?_
              clear hK1 K1
              refine wpPre_i rfl (fun K1 hK1 => ?_)
              rw [if_pos (by go_simp)]
              apply Exists.intro
              refine And.intro (fun wx hx => ?_) ?_
              · go_simp
                try rfl
              go_simp
              refine hK1 _ ?_
              clear hK1 K1
              refine wpPre_e rfl rfl (fun K1 hK1 => ?_)
              apply Exists.intro
              refine And.intro (fun wx hx => ?_) ?_
              · go_simp
                try rfl
              go_simp
              refine hK1 _ ?_
              clear hK1 K1
              refine wpPre_e rfl rfl (fun K1 hK1 => ?_)
              apply Exists.intro
              refine And.intro (fun wx hx => ?_) ?_
              · go_simp
                try rfl
              go_simp
              refine hK1 _ ?_
              clear hK1 K1
              refine wpPre_nil ?_
              refine wpTr_done ?_
              have HBE : Hid (Below wr.heap.size wr wq3) := HBq3.out
              clear p0 q0 q1
              go_wp2
              exact bodyPost_ret (v := .bool true) (by simp [results, Tryz.results3, go_sem]) rfl ⟨rfl, HBw.out.trans (HBE.out.mono HBw.out.size)⟩
          · subst hpe
            have HMp := hid hMp
            have HRp := hid hRp
            have p1 := hMp.bx.cell 1
            simp at p1
            have HFp1 : Hid (∀ Wx, Below wr.heap.size wr Wx → Calls Tryz.prog 9 #[.pointer (some ⟨dbp, 0, none⟩)] Wx fun e w' => FilesQ Dp Wx e w') := fun Wx hW => dfiles_any Dp Wx _ dbp (HMp.out.dk.below hW)
            have HFp2 : Hid (∀ Wx, Below wr.heap.size wr Wx → Calls Tryz.prog 10 #[.pointer (some ⟨rbp, 0, none⟩)] Wx fun e w' => RfilesQ Rp.lt Wx e w') := fun Wx hW => by
              have hk := HMp.out.rk.below hW
              have hr := hk.bx.cell 0
              exact rfiles_any Rp.lt Wx _ rbp (by rw [Rp.lt_n]; show Wx.cell? ⟨rbp, 0, none⟩ = some (.slice Rp.p Rp.fs.length Rp.c); simpa using hr) hk.toLt (by rw [Rp.lt_n]; have := hk.n; omega)
            clear hMp hRp
            rcases Hqv.out with hqe | ⟨Vq, dbq, rbq, Dq, Rq, Cdq, Crq, hqe, hMq, hRq⟩
            · subst hqe
              refine wpPre_e rfl rfl (fun K1 hK1 => ?_)
              apply Exists.intro
              refine And.intro (fun wx hx => ?_) ?_
              · go_simp
                try rfl
              go_simp
              refine hK1 _ ?_
              clear hK1 K1
              refine wpPre_e rfl rfl (fun K1 hK1 => ?_)
              apply Exists.intro
              refine And.intro (fun wx hx => ?_) ?_
              · go_simp
                try rfl
              go_simp
              refine hK1 _ ?_
              clear hK1 K1
              refine wpPre_e rfl rfl (fun K1 hK1 => ?_)
              apply Exists.intro
              refine And.intro (fun wx hx => ?_) ?_
              · go_simp
                try rfl
              go_simp
              refine hK1 _ ?_
              clear hK1 K1
              refine wpPre_e rfl rfl (fun K1 hK1 => ?_)
              apply Exists.intro
              refine And.intro (fun wx hx => ?_) ?_
              · have e0 := below_fact hx rfl p0
                go_simp
                try rfl
              go_simp
              refine hK1 _ ?_
              clear hK1 K1
              refine wpPre_e rfl rfl (fun K1 hK1 => ?_)
              apply Exists.intro
              refine And.intro (fun wx hx => ?_) ?_
              · go_simp
                try rfl
              go_simp
              refine hK1 _ ?_
              clear hK1 K1
              refine wpPre_e rfl rfl (fun K1 hK1 => ?_)
              apply Exists.intro
              refine And.intro (fun wx hx => ?_) ?_
              · go_simp
                try rfl
              go_simp
              refine hK1 _ ?_
              clear hK1 K1
              refine wpPre_i rfl (fun K1 hK1 => ?_)
              rw [if_pos (by go_simp)]
              apply Exists.intro
              refine And.intro (fun wx hx => ?_) ?_
              · go_simp
                try rfl
              go_simp
              refine hK1 _ ?_
              clear hK1 K1
              refine wpPre_i rfl (fun K1 hK1 => ?_)
              rw [if_pos (by go_simp)]
              apply Exists.intro
              refine And.intro (fun wx hx => ?_) ?_
              · go_simp
                try rfl
              go_simp
              refine hK1 _ ?_
              clear hK1 K1
              refine wpPre_i rfl (fun K1 hK1 => ?_)
              rw [if_pos (by go_simp)]
              apply Exists.intro
              refine And.intro (fun wx hx => ?_) ?_
              · go_simp
                try rfl
              go_simp
              refine hK1 _ ?_
              clear hK1 K1
              refine wpPre_i rfl (fun K1 hK1 => ?_)
              rw [if_pos (by go_simp)]
              apply Exists.intro
              refine And.intro (fun wx hx => ?_) ?_
              · have e0 := below_fact hx rfl p0
                go_simp
                try rfl
              go_simp
              refine hK1 _ ?_
              clear hK1 K1
              refine wpPre_i rfl (fun K1 hK1 => ?_)
              rw [if_pos (by go_simp)]
              apply Exists.intro
              refine And.intro (fun wx hx => ?_) ?_
              · go_simp
                try rfl
              go_simp
              refine hK1 _ ?_
              clear hK1 K1
              refine wpPre_i rfl (fun K1 hK1 => ?_)
              rw [if_pos (by go_simp)]
              apply Exists.intro
              refine And.intro (fun wx hx => ?_) ?_
              · go_simp
                try rfl
              go_simp
              refine hK1 _ ?_
              clear hK1 K1
              refine wpPre_i rfl (fun K1 hK1 => ?_)
              rw [if_pos (by go_simp)]
              apply Exists.intro
              refine And.intro (fun wx hx => ?_) ?_
              · go_simp
                try rfl
              go_simp
              refine hK1 _ ?_
              clear hK1 K1
              refine wpPre_i rfl (fun K1 hK1 => ?_)
              rw [if_pos (by go_simp)]
              apply Exists.intro
              refine And.intro (fun wx hx => ?_) ?_
              · have e0 := below_fact hx rfl p1
                go_simp
                try rfl
              go_simp
              refine hK1 _ ?_
              clear hK1 K1
              refine wpPre_nil ?_
              refine wpTr_e rfl (fun K1 hK1 => ?_)
              refine step_callG (by first | rfl | go_simp) 9 #[.tmp 71] _ rfl Tryz.f9 Tryz.func9 (by kernel_rfl) rfl #[.pointer (some ⟨dbp, 0, none⟩)] rfl _ (HFp1.out _ ((Below.refl wr.heap.size wr).drew)) ?_
              rintro e_ wp1 ⟨up, Yp, rfl, hu, hYp, hYs, hun, huk, hb3⟩
              refine ⟨_, rfl, ?_⟩
              have HUp := hid hu
              have HYp := hid (And.intro hYp (And.intro hYs (And.intro hun huk)))
              have HBp1 : Hid (Below wr.heap.size wr wp1) := Below.trans ((Below.refl wr.heap.size wr).drew) (hb3.mono (Below.size ((Below.refl wr.heap.size wr).drew)))
              clear hu hYp hYs hun huk hb3
              go_simp
              refine hK1 _ _ (fun _ => HBp1.out) ?_
              clear hK1 K1
              refine wpPre_nil ?_
              refine wpTr_e rfl (fun K1 hK1 => ?_)
              refine step_callG (by first | rfl | go_simp) 10 #[.tmp 76] _ rfl Tryz.f10 Tryz.func10 (by kernel_rfl) rfl #[.pointer (some ⟨rbp, 0, none⟩)] rfl _ (HFp2.out _ HBp1.out) ?_
              rintro e_ wp2 ⟨vp, rfl, hv, hvn, hvk, hb4⟩
              refine ⟨_, rfl, ?_⟩
              have HVp := hid hv
              have HKp := hid (And.intro hvn hvk)
              have HBp12 := hid hb4
              have HBp2 : Hid (Below wr.heap.size wr wp2) := HBp1.out.trans (hb4.mono HBp1.out.size)
              clear hv hvn hvk hb4
              go_simp
              refine hK1 _ _ (fun _ => HBp2.out) ?_
              clear hK1 K1
              refine wpPre_nil ?_
              refine wpTr_e rfl (fun K1 hK1 => ?_)
              have HSp := hid (files_same HRp.out (fun f hf => (HMp.out.dk.each f hf).nm) HMp.out.dk.nodup HYp.out.1 HYp.out.2.1 HYp.out.2.2.1 HYp.out.2.2.2 HKp.out.1 HKp.out.2)
              refine step_callG (by first | rfl | go_simp) 8 #[.tmp 72, .tmp 77] _ rfl Tryz.f8 Tryz.func8 (by kernel_rfl) rfl #[.slice up.p up.n up.c, .slice vp.p vp.n vp.c] rfl _ (alike_yes up vp wp2 _ _ (HUp.out.kept HBp12.out.size fun b _ hl => HBp12.out.block b hl) HVp.out HSp.out.1 HSp.out.2) ?_
              rintro e_ wp3 ⟨rfl, hb5⟩
              refine ⟨_, rfl, ?_⟩
              have HBp3 : Hid (Below wr.heap.size wr wp3) := HBp2.out.trans (hb5.mono HBp2.out.size)
              clear hb5
              go_simp
              refine hK1 _ _ (fun _ => HBp3.out) ?_
              clear hK1 K1
              refine wpPre_e rfl rfl (fun K1 hK1 => ?_)
              apply Exists.intro
              refine And.intro (fun wx hx => ?_) ?_
              · go_simp
                try rfl
              go_simp
              refine hK1 _ ?_
              clear hK1 K1
              refine wpPre_e rfl rfl (fun K1 hK1 => ?_)
              apply Exists.intro
              refine And.intro (fun wx hx => ?_) ?_
              · go_simp
                try rfl
              go_simp
              refine hK1 _ ?_
              clear hK1 K1
              refine wpPre_i rfl (fun K1 hK1 => ?_)
              rw [if_pos (by go_simp)]
              apply Exists.intro
              refine And.intro (fun wx hx => ?_) ?_
              · go_simp
                try rfl
              go_simp
              refine hK1 _ ?_
              clear hK1 K1
              refine wpPre_i rfl (fun K1 hK1 => ?_)
              rw [if_pos (by go_simp)]
              apply Exists.intro
              refine And.intro (fun wx hx => ?_) ?_
              · go_simp
                try rfl
              go_simp
              refine hK1 _ ?_
              clear hK1 K1
              refine wpPre_i rfl (fun K1 hK1 => ?_)
              rw [if_pos (by go_simp)]
              apply Exists.intro
              refine And.intro (fun wx hx => ?_) ?_
              · go_simp
                try rfl
              go_simp
              refine hK1 _ ?_
              clear hK1 K1
              refine wpPre_i rfl (fun K1 hK1 => ?_)
              rw [if_pos (by go_simp)]
              apply Exists.intro
              refine And.intro (fun wx hx => ?_) ?_
              · have e0 := below_fact hx rfl q0
                go_simp
                try rfl
              go_simp
              refine hK1 _ ?_
              clear hK1 K1
              refine wpPre_i rfl (fun K1 hK1 => ?_)
              rw [if_pos (by go_simp)]
              apply Exists.intro
              refine And.intro (fun wx hx => ?_) ?_
              · go_simp
                try rfl
              go_simp
              refine hK1 _ ?_
              clear hK1 K1
              refine wpPre_i rfl (fun K1 hK1 => ?_)
              rw [if_pos (by go_simp)]
              apply Exists.intro
              refine And.intro (fun wx hx => ?_) ?_
              · go_simp
                try rfl
              go_simp
              refine hK1 _ ?_
              clear hK1 K1
              refine wpPre_i rfl (fun K1 hK1 => ?_)
              rw [if_neg (by go_simp; all_goals (intro h; cases h))]
              go_simp
              refine hK1 _ ?_
              clear hK1 K1
              refine wpPre_i rfl (fun K1 hK1 => ?_)
              rw [if_neg (by go_simp; all_goals (intro h; cases h))]
              go_simp
              refine hK1 _ ?_
              clear hK1 K1
              refine wpPre_i rfl (fun K1 hK1 => ?_)
              rw [if_neg (by go_simp; all_goals (intro h; cases h))]
              go_simp
              refine hK1 _ ?_
              clear hK1 K1
              refine wpPre_i rfl (fun K1 hK1 => ?_)
              rw [if_neg (by go_simp; all_goals (intro h; cases h))]
              go_simp
              refine hK1 _ ?_
              clear hK1 K1
              refine wpPre_i rfl (fun K1 hK1 => ?_)
              rw [if_neg (by go_simp; all_goals (intro h; cases h))]
              go_simp
              refine hK1 _ ?_
              clear hK1 K1
              refine wpPre_i rfl (fun K1 hK1 => ?_)
              rw [if_neg (by go_simp; all_goals (intro h; cases h))]
              go_simp
              refine hK1 _ ?_
              clear hK1 K1
              refine wpPre_i rfl (fun K1 hK1 => ?_)
              rw [if_neg (by go_simp; all_goals (intro h; cases h))]
              go_simp
              refine hK1 _ ?_
              clear hK1 K1
              refine wpPre_i rfl (fun K1 hK1 => ?_)
              rw [if_neg (by go_simp; all_goals (intro h; cases h))]
              go_simp
              refine hK1 _ ?_
              clear hK1 K1
              refine wpPre_nil ?_
              refine wpTr_e rfl (fun K1 hK1 => ?_)
              rw [if_neg (by go_simp; all_goals (intro h; cases h))]
              go_simp
              refine hK1 _ _ (fun _ => HBp3.out) ?_
              clear hK1 K1
              refine wpPre_nil ?_
              refine wpTr_e rfl (fun K1 hK1 => ?_)
              rw [if_neg (by go_simp; all_goals (intro h; cases h))]
              go_simp
              refine hK1 _ _ (fun _ => HBp3.out) ?_
              clear hK1 K1
              refine wpPre_nil ?_
              refine wpTr_e rfl (fun K1 hK1 => ?_)
              rw [if_neg (by go_simp; all_goals (intro h; cases h))]
              go_simp
              refine hK1 _ _ (fun _ => HBp3.out) ?_
              clear hK1 K1
              refine wpPre_i rfl (fun K1 hK1 => ?_)
              rw [if_pos (by go_simp)]
              apply Exists.intro
              refine And.intro (fun wx hx => ?_) ?_
              · go_simp
                try rfl
              go_simp
              refine hK1 _ ?_
              clear hK1 K1
              refine wpPre_e rfl rfl (fun K1 hK1 => ?_)
              apply Exists.intro
              refine And.intro (fun wx hx => ?_) ?_
              · go_simp
                try rfl
              go_simp
              refine hK1 _ ?_
              clear hK1 K1
              refine wpPre_e rfl rfl (fun K1 hK1 => ?_)
              apply Exists.intro
              refine And.intro (fun wx hx => ?_) ?_
              · go_simp
                try rfl
              go_simp
              refine hK1 _ ?_
              clear hK1 K1
              refine wpPre_nil ?_
              refine wpTr_done ?_
              have HBE : Hid (Below wr.heap.size wr wp3) := HBp3.out
              clear p0 q0 p1
              go_wp2
              exact bodyPost_ret (v := .bool true) (by simp [results, Tryz.results3, go_sem]) rfl ⟨rfl, HBw.out.trans (HBE.out.mono HBw.out.size)⟩
            · subst hqe
              have HMq := hid hMq
              have HRq := hid hRq
              have q1 := hMq.bx.cell 1
              simp at q1
              have HFq1 : Hid (∀ Wx, Below wr.heap.size wr Wx → Calls Tryz.prog 9 #[.pointer (some ⟨dbq, 0, none⟩)] Wx fun e w' => FilesQ Dq Wx e w') := fun Wx hW => dfiles_any Dq Wx _ dbq (HMq.out.dk.below hW)
              have HFq2 : Hid (∀ Wx, Below wr.heap.size wr Wx → Calls Tryz.prog 10 #[.pointer (some ⟨rbq, 0, none⟩)] Wx fun e w' => RfilesQ Rq.lt Wx e w') := fun Wx hW => by
                have hk := HMq.out.rk.below hW
                have hr := hk.bx.cell 0
                exact rfiles_any Rq.lt Wx _ rbq (by rw [Rq.lt_n]; show Wx.cell? ⟨rbq, 0, none⟩ = some (.slice Rq.p Rq.fs.length Rq.c); simpa using hr) hk.toLt (by rw [Rq.lt_n]; have := hk.n; omega)
              clear hMq hRq
              refine wpPre_e rfl rfl (fun K1 hK1 => ?_)
              apply Exists.intro
              refine And.intro (fun wx hx => ?_) ?_
              · go_simp
                try rfl
              go_simp
              refine hK1 _ ?_
              clear hK1 K1
              refine wpPre_e rfl rfl (fun K1 hK1 => ?_)
              apply Exists.intro
              refine And.intro (fun wx hx => ?_) ?_
              · go_simp
                try rfl
              go_simp
              refine hK1 _ ?_
              clear hK1 K1
              refine wpPre_e rfl rfl (fun K1 hK1 => ?_)
              apply Exists.intro
              refine And.intro (fun wx hx => ?_) ?_
              · go_simp
                try rfl
              go_simp
              refine hK1 _ ?_
              clear hK1 K1
              refine wpPre_e rfl rfl (fun K1 hK1 => ?_)
              apply Exists.intro
              refine And.intro (fun wx hx => ?_) ?_
              · have e0 := below_fact hx rfl p0
                go_simp
                try rfl
              go_simp
              refine hK1 _ ?_
              clear hK1 K1
              refine wpPre_e rfl rfl (fun K1 hK1 => ?_)
              apply Exists.intro
              refine And.intro (fun wx hx => ?_) ?_
              · go_simp
                try rfl
              go_simp
              refine hK1 _ ?_
              clear hK1 K1
              refine wpPre_e rfl rfl (fun K1 hK1 => ?_)
              apply Exists.intro
              refine And.intro (fun wx hx => ?_) ?_
              · go_simp
                try rfl
              go_simp
              refine hK1 _ ?_
              clear hK1 K1
              refine wpPre_i rfl (fun K1 hK1 => ?_)
              rw [if_pos (by go_simp)]
              apply Exists.intro
              refine And.intro (fun wx hx => ?_) ?_
              · go_simp
                try rfl
              go_simp
              refine hK1 _ ?_
              clear hK1 K1
              refine wpPre_i rfl (fun K1 hK1 => ?_)
              rw [if_pos (by go_simp)]
              apply Exists.intro
              refine And.intro (fun wx hx => ?_) ?_
              · go_simp
                try rfl
              go_simp
              refine hK1 _ ?_
              clear hK1 K1
              refine wpPre_i rfl (fun K1 hK1 => ?_)
              rw [if_pos (by go_simp)]
              apply Exists.intro
              refine And.intro (fun wx hx => ?_) ?_
              · go_simp
                try rfl
              go_simp
              refine hK1 _ ?_
              clear hK1 K1
              refine wpPre_i rfl (fun K1 hK1 => ?_)
              rw [if_pos (by go_simp)]
              apply Exists.intro
              refine And.intro (fun wx hx => ?_) ?_
              · have e0 := below_fact hx rfl p0
                go_simp
                try rfl
              go_simp
              refine hK1 _ ?_
              clear hK1 K1
              refine wpPre_i rfl (fun K1 hK1 => ?_)
              rw [if_pos (by go_simp)]
              apply Exists.intro
              refine And.intro (fun wx hx => ?_) ?_
              · go_simp
                try rfl
              go_simp
              refine hK1 _ ?_
              clear hK1 K1
              refine wpPre_i rfl (fun K1 hK1 => ?_)
              rw [if_pos (by go_simp)]
              apply Exists.intro
              refine And.intro (fun wx hx => ?_) ?_
              · go_simp
                try rfl
              go_simp
              refine hK1 _ ?_
              clear hK1 K1
              refine wpPre_i rfl (fun K1 hK1 => ?_)
              rw [if_pos (by go_simp)]
              apply Exists.intro
              refine And.intro (fun wx hx => ?_) ?_
              · go_simp
                try rfl
              go_simp
              refine hK1 _ ?_
              clear hK1 K1
              refine wpPre_i rfl (fun K1 hK1 => ?_)
              rw [if_pos (by go_simp)]
              apply Exists.intro
              refine And.intro (fun wx hx => ?_) ?_
              · have e0 := below_fact hx rfl p1
                go_simp
                try rfl
              go_simp
              refine hK1 _ ?_
              clear hK1 K1
              refine wpPre_nil ?_
              refine wpTr_e rfl (fun K1 hK1 => ?_)
              refine step_callG (by first | rfl | go_simp) 9 #[.tmp 71] _ rfl Tryz.f9 Tryz.func9 (by kernel_rfl) rfl #[.pointer (some ⟨dbp, 0, none⟩)] rfl _ (HFp1.out _ ((Below.refl wr.heap.size wr).drew)) ?_
              rintro e_ wp1 ⟨up, Yp, rfl, hu, hYp, hYs, hun, huk, hb3⟩
              refine ⟨_, rfl, ?_⟩
              have HUp := hid hu
              have HYp := hid (And.intro hYp (And.intro hYs (And.intro hun huk)))
              have HBp1 : Hid (Below wr.heap.size wr wp1) := Below.trans ((Below.refl wr.heap.size wr).drew) (hb3.mono (Below.size ((Below.refl wr.heap.size wr).drew)))
              clear hu hYp hYs hun huk hb3
              go_simp
              refine hK1 _ _ (fun _ => HBp1.out) ?_
              clear hK1 K1
              refine wpPre_nil ?_
              refine wpTr_e rfl (fun K1 hK1 => ?_)
              refine step_callG (by first | rfl | go_simp) 10 #[.tmp 76] _ rfl Tryz.f10 Tryz.func10 (by kernel_rfl) rfl #[.pointer (some ⟨rbp, 0, none⟩)] rfl _ (HFp2.out _ HBp1.out) ?_
              rintro e_ wp2 ⟨vp, rfl, hv, hvn, hvk, hb4⟩
              refine ⟨_, rfl, ?_⟩
              have HVp := hid hv
              have HKp := hid (And.intro hvn hvk)
              have HBp12 := hid hb4
              have HBp2 : Hid (Below wr.heap.size wr wp2) := HBp1.out.trans (hb4.mono HBp1.out.size)
              clear hv hvn hvk hb4
              go_simp
              refine hK1 _ _ (fun _ => HBp2.out) ?_
              clear hK1 K1
              refine wpPre_nil ?_
              refine wpTr_e rfl (fun K1 hK1 => ?_)
              have HSp := hid (files_same HRp.out (fun f hf => (HMp.out.dk.each f hf).nm) HMp.out.dk.nodup HYp.out.1 HYp.out.2.1 HYp.out.2.2.1 HYp.out.2.2.2 HKp.out.1 HKp.out.2)
              refine step_callG (by first | rfl | go_simp) 8 #[.tmp 72, .tmp 77] _ rfl Tryz.f8 Tryz.func8 (by kernel_rfl) rfl #[.slice up.p up.n up.c, .slice vp.p vp.n vp.c] rfl _ (alike_yes up vp wp2 _ _ (HUp.out.kept HBp12.out.size fun b _ hl => HBp12.out.block b hl) HVp.out HSp.out.1 HSp.out.2) ?_
              rintro e_ wp3 ⟨rfl, hb5⟩
              refine ⟨_, rfl, ?_⟩
              have HBp3 : Hid (Below wr.heap.size wr wp3) := HBp2.out.trans (hb5.mono HBp2.out.size)
              clear hb5
              go_simp
              refine hK1 _ _ (fun _ => HBp3.out) ?_
              clear hK1 K1
              refine wpPre_e rfl rfl (fun K1 hK1 => ?_)
              apply Exists.intro
              refine And.intro (fun wx hx => ?_) ?_
              · go_simp
                try rfl
              go_simp
              refine hK1 _ ?_
              clear hK1 K1
              refine wpPre_e rfl rfl (fun K1 hK1 => ?_)
              apply Exists.intro
              refine And.intro (fun wx hx => ?_) ?_
              · go_simp
                try rfl
              go_simp
              refine hK1 _ ?_
              clear hK1 K1
              refine wpPre_i rfl (fun K1 hK1 => ?_)
              rw [if_pos (by go_simp)]
              apply Exists.intro
              refine And.intro (fun wx hx => ?_) ?_
              · go_simp
                try rfl
              go_simp
              refine hK1 _ ?_
              clear hK1 K1
              refine wpPre_i rfl (fun K1 hK1 => ?_)
              rw [if_pos (by go_simp)]
              apply Exists.intro
              refine And.intro (fun wx hx => ?_) ?_
              · go_simp
                try rfl
              go_simp
              refine hK1 _ ?_
              clear hK1 K1
              refine wpPre_i rfl (fun K1 hK1 => ?_)
              rw [if_pos (by go_simp)]
              apply Exists.intro
              refine And.intro (fun wx hx => ?_) ?_
              · go_simp
                try rfl
              go_simp
              refine hK1 _ ?_
              clear hK1 K1
              refine wpPre_i rfl (fun K1 hK1 => ?_)
              rw [if_pos (by go_simp)]
              apply Exists.intro
              refine And.intro (fun wx hx => ?_) ?_
              · have e0 := below_fact hx rfl q0
                go_simp
                try rfl
              go_simp
              refine hK1 _ ?_
              clear hK1 K1
              refine wpPre_i rfl (fun K1 hK1 => ?_)
              rw [if_pos (by go_simp)]
              apply Exists.intro
              refine And.intro (fun wx hx => ?_) ?_
              · go_simp
                try rfl
              go_simp
              refine hK1 _ ?_
              clear hK1 K1
              refine wpPre_i rfl (fun K1 hK1 => ?_)
              rw [if_pos (by go_simp)]
              apply Exists.intro
              refine And.intro (fun wx hx => ?_) ?_
              · go_simp
                try rfl
              go_simp
              refine hK1 _ ?_
              clear hK1 K1
              refine wpPre_i rfl (fun K1 hK1 => ?_)
              rw [if_pos (by go_simp)]
              apply Exists.intro
              refine And.intro (fun wx hx => ?_) ?_
              · go_simp
                try rfl
              go_simp
              refine hK1 _ ?_
              clear hK1 K1
              refine wpPre_i rfl (fun K1 hK1 => ?_)
              rw [if_pos (by go_simp)]
              apply Exists.intro
              refine And.intro (fun wx hx => ?_) ?_
              · go_simp
                try rfl
              go_simp
              refine hK1 _ ?_
              clear hK1 K1
              refine wpPre_i rfl (fun K1 hK1 => ?_)
              rw [if_pos (by go_simp)]
              apply Exists.intro
              refine And.intro (fun wx hx => ?_) ?_
              · go_simp
                try rfl
              go_simp
              refine hK1 _ ?_
              clear hK1 K1
              refine wpPre_i rfl (fun K1 hK1 => ?_)
              rw [if_pos (by go_simp)]
              apply Exists.intro
              refine And.intro (fun wx hx => ?_) ?_
              · have e0 := below_fact hx rfl q0
                go_simp
                try rfl
              go_simp
              refine hK1 _ ?_
              clear hK1 K1
              refine wpPre_i rfl (fun K1 hK1 => ?_)
              rw [if_pos (by go_simp)]
              apply Exists.intro
              refine And.intro (fun wx hx => ?_) ?_
              · go_simp
                try rfl
              go_simp
              refine hK1 _ ?_
              clear hK1 K1
              refine wpPre_i rfl (fun K1 hK1 => ?_)
              rw [if_pos (by go_simp)]
              apply Exists.intro
              refine And.intro (fun wx hx => ?_) ?_
              · go_simp
                try rfl
              go_simp
              refine hK1 _ ?_
              clear hK1 K1
              refine wpPre_i rfl (fun K1 hK1 => ?_)
              rw [if_pos (by go_simp)]
              apply Exists.intro
              refine And.intro (fun wx hx => ?_) ?_
              · go_simp
                try rfl
              go_simp
              refine hK1 _ ?_
              clear hK1 K1
              refine wpPre_i rfl (fun K1 hK1 => ?_)
              rw [if_pos (by go_simp)]
              apply Exists.intro
              refine And.intro (fun wx hx => ?_) ?_
              · have e0 := below_fact hx rfl q1
                go_simp
                try rfl
              go_simp
              refine hK1 _ ?_
              clear hK1 K1
              refine wpPre_nil ?_
              refine wpTr_e rfl (fun K1 hK1 => ?_)
              refine step_callG (by first | rfl | go_simp) 9 #[.tmp 90] _ rfl Tryz.f9 Tryz.func9 (by kernel_rfl) rfl #[.pointer (some ⟨dbq, 0, none⟩)] rfl _ (HFq1.out _ HBp3.out) ?_
              rintro e_ wq1 ⟨uq, Yq, rfl, hu, hYp, hYs, hun, huk, hb3⟩
              refine ⟨_, rfl, ?_⟩
              have HUq := hid hu
              have HYq := hid (And.intro hYp (And.intro hYs (And.intro hun huk)))
              have HBq1 : Hid (Below wr.heap.size wr wq1) := Below.trans HBp3.out (hb3.mono (Below.size HBp3.out))
              clear hu hYp hYs hun huk hb3
              go_simp
              refine hK1 _ _ (fun _ => HBq1.out) ?_
              clear hK1 K1
              refine wpPre_nil ?_
              refine wpTr_e rfl (fun K1 hK1 => ?_)
              refine step_callG (by first | rfl | go_simp) 10 #[.tmp 95] _ rfl Tryz.f10 Tryz.func10 (by kernel_rfl) rfl #[.pointer (some ⟨rbq, 0, none⟩)] rfl _ (HFq2.out _ HBq1.out) ?_
              rintro e_ wq2 ⟨vq, rfl, hv, hvn, hvk, hb4⟩
              refine ⟨_, rfl, ?_⟩
              have HVq := hid hv
              have HKq := hid (And.intro hvn hvk)
              have HBq12 := hid hb4
              have HBq2 : Hid (Below wr.heap.size wr wq2) := HBq1.out.trans (hb4.mono HBq1.out.size)
              clear hv hvn hvk hb4
              go_simp
              refine hK1 _ _ (fun _ => HBq2.out) ?_
              clear hK1 K1
              refine wpPre_nil ?_
              refine wpTr_e rfl (fun K1 hK1 => ?_)
              have HSq := hid (files_same HRq.out (fun f hf => (HMq.out.dk.each f hf).nm) HMq.out.dk.nodup HYq.out.1 HYq.out.2.1 HYq.out.2.2.1 HYq.out.2.2.2 HKq.out.1 HKq.out.2)
              refine step_callG (by first | rfl | go_simp) 8 #[.tmp 91, .tmp 96] _ rfl Tryz.f8 Tryz.func8 (by kernel_rfl) rfl #[.slice uq.p uq.n uq.c, .slice vq.p vq.n vq.c] rfl _ (alike_yes uq vq wq2 _ _ (HUq.out.kept HBq12.out.size fun b _ hl => HBq12.out.block b hl) HVq.out HSq.out.1 HSq.out.2) ?_
              rintro e_ wq3 ⟨rfl, hb5⟩
              refine ⟨_, rfl, ?_⟩
              have HBq3 : Hid (Below wr.heap.size wr wq3) := HBq2.out.trans (hb5.mono HBq2.out.size)
              clear hb5
              go_simp
              refine hK1 _ _ (fun _ => HBq3.out) ?_
              clear hK1 K1
              refine wpPre_i rfl (fun K1 hK1 => ?_)
              rw [if_pos (by go_simp)]
              apply Exists.intro
              refine And.intro (fun wx hx => ?_) ?_
              · go_simp
                try rfl
              go_simp
              refine hK1 _ ?_
              clear hK1 K1
              refine wpPre_e rfl rfl (fun K1 hK1 => ?_)
              apply Exists.intro
              refine And.intro (fun wx hx => ?_) ?_
              · go_simp
                try rfl
              go_simp
              refine hK1 _ ?_
              clear hK1 K1
              refine wpPre_e rfl rfl (fun K1 hK1 => ?_)
              apply Exists.intro
              refine And.intro (fun wx hx => ?_) ?_
              · go_simp
                try rfl
              go_simp
              refine hK1 _ ?_
              clear hK1 K1
              refine wpPre_nil ?_
              refine wpTr_done ?_
              have HBE : Hid (Below wr.heap.size wr wq3) := HBq3.out
              clear p0 q0 p1 q1
              go_wp2
              exact bodyPost_ret (v := .bool true) (by simp [results, Tryz.results3, go_sem]) rfl ⟨rfl, HBw.out.trans (HBE.out.mono HBw.out.size)⟩
end Go.Proofs.YtebiidfdokhpaabGreatDoor
