import Derived.Test.YtkfcilandmhomaaDoorPack23
namespace Go.Proofs.YtkfcilandmhomaaDoor
open Go.RowKit
set_option maxRecDepth 8000
def spB (D : DK) (s : ByteArray) (bit : Int) : Bool := match fnd D s with | some f => decide (0 ≤ bit) && decide (bit / 8 < (f.zs.length : Int)) | none => false
theorem DkI.chg {w w' : World} {C : Nat → Prop} {db : Nat} {D : DK} (h : DkI w C db D) (hb : Below w.heap.size w w') : Chg D C db w w' := ⟨(h.below hb).mono fun _ hk _ => .inl hk, But.ofBelow hb⟩
/-- a byte with one bit turned -/
def spx (z : Int) (r : Nat) : Int := bits BinOp.xor IntKind.u8 z (IntKind.u8.wrap (2 ^ r))
theorem spx_bd (z : Int) (r : Nat) : 0 ≤ spx z r ∧ spx z r ≤ 255 := by
  unfold spx bits
  simp only [IntKind.wrap_u8]
  omega
def FT.spo (f : FT) (i r : Nat) : FT := { f with zs := f.zs.set i (spx (f.zs.getD i 0) r) }
theorem own_put {base : Nat} {w : World} {p : Option Addr} {c : Nat} {zs : List Int} {g o : Nat} (h : OwnBy base w (.slice p zs.length c) zs) (hp : p = some ⟨g, o, none⟩) : o = 0 ∧ (Value.slice p zs.length c).ownBlock = some g ∧ (∀ k, w.frozen? ⟨g, k, none⟩ = false) ∧ ∀ k u, OwnBy base (w.setCell ⟨g, k, none⟩ (.int .u8 u)) (.slice p (zs.set k u).length c) (zs.set k u) := by
  obtain ⟨hl, ⟨hv, h0⟩ | ⟨g2, cap, cur, hv, hb, hh, hnc, hcm, hcs, ht⟩⟩ := h
  · simp only [Value.slice.injEq] at hv
    rw [hv.1] at hp; cases hp
  · simp only [Value.slice.injEq, true_and] at hv
    obtain ⟨rfl, rfl⟩ := hv
    simp only [Option.some.injEq, Addr.mk.injEq, and_true] at hp
    obtain ⟨rfl, rfl⟩ := hp
    have hb2 : Box w g2 cur 5 := hh
    refine ⟨rfl, rfl, fun k => hb2.frozen k, fun k u => ⟨by simp, .inr ⟨g2, c, cur.setIfInBounds k (.int .u8 u), by rw [List.length_set], hb, hb2.set k _, by rw [List.length_set]; exact hnc, hcm, by simpa using hcs, ?_⟩⟩⟩
    rw [Array.toList_setIfInBounds, List.length_set, List.map_set, ← ht, List.take_set]
def SpQ (D : DK) (s : ByteArray) (bit : Int) (C : Nat → Prop) (db : Nat) (w : World) (e : Ending) (w' : World) : Prop :=
  e = .returned (.bool (spB D s bit)) ∧ (spB D s bit = false → Chg D C db w w') ∧ (spB D s bit = true → ∃ f, fnd D s = some f ∧ Chg (D.upd s (f.spo (bit / 8).toNat (bit % 8).toNat)) C db w w')
set_option maxHeartbeats 8000000 in
theorem dspoil_any (D : DK) (s : ByteArray) (bit : Int) (w : World) (C : Nat → Prop) (db : Nat) (hD : DkI w C db D) (hmx : s.size ≤ 140737488355328) (hb1 : bit ≤ 9223372036854775807) (hb0 : -9223372036854775808 ≤ bit) :
    Calls Tryd.prog 32 #[.pointer (some ⟨db, 0, none⟩), .string s, .int .i64 bit] w fun e w' => SpQ D s bit C db w e w' := by
  have HD := hid hD
  clear hD
  have HLb := hid (labelOf_any s w hmx)
  go_enter Tryd.func32, Tryd.ntmps32
  go_wp2_with fail
  refine HLb.out.mono ?_
  rintro e w2 ⟨rfl, hb2⟩
  have HB2 := hid hb2
  clear hb2
  cases hnb : nmB s with
  | false =>
    rw [labR_no hnb]
    have HR : Hid (spB D s bit = false) := by
      show spB D s bit = false
      unfold spB
      cases hf : fnd D s with
      | none => rfl
      | some f =>
        have h1 := fnd_at hf
        have h2 := (nmB_iff s).2 (h1.2 ▸ (HD.out.each f h1.1).nm)
        rw [hnb] at h2
        cases h2
    obtain ⟨W3, hW3⟩ : ∃ V, V = w2.alloc (.cells #[.int .u8 0, .int .u8 0, .int .u8 0, .int .u8 0, .int .u8 0, .int .u8 0, .int .u8 0, .int .u8 0, .int .u8 0, .int .u8 0, .int .u8 0, .int .u8 0] 69) := ⟨_, rfl⟩
    have HBE : Hid (Below w.heap.size w W3) := by show Below _ _ _; rw [hW3]; exact HB2.out.trans (((Below.refl _ _).alloc (Nat.le_refl _) _).mono HB2.out.size)
    have HW3 := hid hW3
    clear hW3
    go_upto_region 2 with fail
    rw [← HW3.out]
    go_wp2
    exact bodyPost_ret (v := .bool false) (by simp [results, Tryd.results32, go_sem]) rfl ⟨by rw [HR.out], fun _ => HD.out.chg HBE.out, fun h => absurd h (by rw [HR.out]; simp)⟩
  | true =>
    rw [labR_yes hnb, labV_at]
    obtain ⟨W3, hW3⟩ : ∃ V, V = w2.alloc (.cells #[.int .u8 (bat s 0), .int .u8 (bat s 1), .int .u8 (bat s 2), .int .u8 (bat s 3), .int .u8 (bat s 4), .int .u8 (bat s 5), .int .u8 (bat s 6), .int .u8 (bat s 7), .int .u8 (bat s 8), .int .u8 (bat s 9), .int .u8 (bat s 10), .int .u8 (bat s 11)] 69) := ⟨_, rfl⟩
    have HBx : Hid (Below w2.heap.size w2 W3) := by show Below _ _ _; rw [hW3]; exact (Below.refl _ _).alloc (Nat.le_refl _) _
    have HB3 : Hid (Below w.heap.size w W3) := HB2.out.trans (HBx.out.mono HB2.out.size)
    have HY3 : Hid (Box W3 w2.heap.size #[.int .u8 (bat s 0), .int .u8 (bat s 1), .int .u8 (bat s 2), .int .u8 (bat s 3), .int .u8 (bat s 4), .int .u8 (bat s 5), .int .u8 (bat s 6), .int .u8 (bat s 7), .int .u8 (bat s 8), .int .u8 (bat s 9), .int .u8 (bat s 10), .int .u8 (bat s 11)] 69) := by show Box _ _ _ _; rw [hW3]; exact Box.new _ _ _
    have HD3 : Hid (DkI W3 C db D) := HD.out.below HB3.out
    have HW3 := hid hW3
    clear hW3
    go_upto_region 2 with fail
    rw [← HW3.out]
    have HNm : Hid (Nm s) := (nmB_iff s).1 hnb
    have HM : Hid (MpI W3 D.mb D.ents) := HD3.out.mp
    have d0 := HD3.out.bx.cell 0
    simp at d0
    have y0 := HY3.out.cell 0
    have y1 := HY3.out.cell 1
    have y2 := HY3.out.cell 2
    have y3 := HY3.out.cell 3
    have y4 := HY3.out.cell 4
    have y5 := HY3.out.cell 5
    have y6 := HY3.out.cell 6
    have y7 := HY3.out.cell 7
    have y8 := HY3.out.cell 8
    have y9 := HY3.out.cell 9
    have y10 := HY3.out.cell 10
    have y11 := HY3.out.cell 11
    have yl := HY3.out.lt
    simp at y0 y1 y2 y3 y4 y5 y6 y7 y8 y9 y10 y11
    go_upto_region 4 with fail
    cases hf : fnd D s with
    | none =>
      have hlk : lk D.ents s = none := by rw [lk_ents, hf]; rfl
      have HR : Hid (spB D s bit = false) := by show spB D s bit = false; unfold spB; rw [hf]
      refine wp_region_calmE 30 (fun wx => Below W3.heap.size W3 wx) [(0, true), (1, true), (2, true), (3, false), (4, false), (5, false), (6, true)] .done (by kernel_rfl) (by kernel_rfl) (Below.refl _ _).drew ?_
      refine wpPre_e rfl rfl (fun K1 hK1 => ?_)
      apply Exists.intro
      refine And.intro (fun wx hx => ?_) ?_
      · go_simp
        try rfl
      go_simp
      refine hK1 _ ?_
      clear hK1 K1
      refine wpPre_e rfl rfl (fun K1 hK1 => ?_)
      apply Exists.intro
      refine And.intro (fun wx hx => ?_) ?_
      · go_simp
        try rfl
      go_simp
      refine hK1 _ ?_
      clear hK1 K1
      refine wpPre_e rfl rfl (fun K1 hK1 => ?_)
      apply Exists.intro
      refine And.intro (fun wx hx => ?_) ?_
      · go_simp
        try rfl
      go_simp
      refine hK1 _ ?_
      clear hK1 K1
      refine wpPre_e rfl rfl (fun K1 hK1 => ?_)
      apply Exists.intro
      refine And.intro (fun wx hx => ?_) ?_
      · have e0 := below_fact hx rfl d0
        go_simp
        try rfl
      go_simp
      refine hK1 _ ?_
      clear hK1 K1
      refine wpPre_e rfl rfl (fun K1 hK1 => ?_)
      apply Exists.intro
      refine And.intro (fun wx hx => ?_) ?_
      · have e0 := below_fact hx rfl y0
        have e1 := below_fact hx rfl y1
        have e2 := below_fact hx rfl y2
        have e3 := below_fact hx rfl y3
        have e4 := below_fact hx rfl y4
        have e5 := below_fact hx rfl y5
        have e6 := below_fact hx rfl y6
        have e7 := below_fact hx rfl y7
        have e8 := below_fact hx rfl y8
        have e9 := below_fact hx rfl y9
        have e10 := below_fact hx rfl y10
        have e11 := below_fact hx rfl y11
        go_simp
        try rfl
      go_simp
      refine hK1 _ ?_
      clear hK1 K1
      refine wpPre_e rfl rfl (fun K1 hK1 => ?_)
      apply Exists.intro
      refine And.intro (fun wx hx => ?_) ?_
      · have hx2 := hx.resolve_left (by simp)
        have e0 := run_look (HM.out.kept (hx2.block _ HM.out.lt)) HNm.out false
        simp only [labV, labC, hlk, Option.getD_none, Bool.false_eq_true, if_false] at e0
        go_simp
        try rfl
      go_simp
      refine hK1 _ ?_
      clear hK1 K1
      refine wpPre_e rfl rfl (fun K1 hK1 => ?_)
      apply Exists.intro
      refine And.intro (fun wx hx => ?_) ?_
      · go_simp
        try rfl
      go_simp
      refine hK1 _ ?_
      clear hK1 K1
      refine wpPre_nil ?_
      refine wpTr_done ?_
      clear hlk y0 y1 y2 y3 y4 y5 y6 y7 y8 y9 y10 y11 yl d0
      obtain ⟨W4, hW4⟩ : ∃ V, V = W3.drew := ⟨_, rfl⟩
      rw [← hW4]
      have HB4 : Hid (Below w.heap.size w W4) := by show Below _ _ _; rw [hW4]; exact HB3.out.drew
      have HD4 : Hid (DkI W4 C db D) := by show DkI _ _ _ _; rw [hW4]; exact HD3.out.kept fun _ _ _ => rfl
      clear hW4
      have HBE := HB4
      go_wp2
      exact bodyPost_ret (v := .bool false) (by simp [results, Tryd.results32, go_sem]) rfl ⟨by rw [HR.out], fun _ => HD.out.chg HBE.out, fun h => absurd h (by rw [HR.out]; simp)⟩
    | some f =>
      have hlk : lk D.ents s = some (.pointer (some ⟨f.fb, 0, none⟩)) := by rw [lk_ents, hf]; rfl
      refine wp_region_calmE 30 (fun wx => Below W3.heap.size W3 wx) [(0, true), (1, true), (2, true), (3, false), (4, false), (5, false), (6, true)] .done (by kernel_rfl) (by kernel_rfl) (Below.refl _ _).drew ?_
      refine wpPre_e rfl rfl (fun K1 hK1 => ?_)
      apply Exists.intro
      refine And.intro (fun wx hx => ?_) ?_
      · go_simp
        try rfl
      go_simp
      refine hK1 _ ?_
      clear hK1 K1
      refine wpPre_e rfl rfl (fun K1 hK1 => ?_)
      apply Exists.intro
      refine And.intro (fun wx hx => ?_) ?_
      · go_simp
        try rfl
      go_simp
      refine hK1 _ ?_
      clear hK1 K1
      refine wpPre_e rfl rfl (fun K1 hK1 => ?_)
      apply Exists.intro
      refine And.intro (fun wx hx => ?_) ?_
      · go_simp
        try rfl
      go_simp
      refine hK1 _ ?_
      clear hK1 K1
      refine wpPre_e rfl rfl (fun K1 hK1 => ?_)
      apply Exists.intro
      refine And.intro (fun wx hx => ?_) ?_
      · have e0 := below_fact hx rfl d0
        go_simp
        try rfl
      go_simp
      refine hK1 _ ?_
      clear hK1 K1
      refine wpPre_e rfl rfl (fun K1 hK1 => ?_)
      apply Exists.intro
      refine And.intro (fun wx hx => ?_) ?_
      · have e0 := below_fact hx rfl y0
        have e1 := below_fact hx rfl y1
        have e2 := below_fact hx rfl y2
        have e3 := below_fact hx rfl y3
        have e4 := below_fact hx rfl y4
        have e5 := below_fact hx rfl y5
        have e6 := below_fact hx rfl y6
        have e7 := below_fact hx rfl y7
        have e8 := below_fact hx rfl y8
        have e9 := below_fact hx rfl y9
        have e10 := below_fact hx rfl y10
        have e11 := below_fact hx rfl y11
        go_simp
        try rfl
      go_simp
      refine hK1 _ ?_
      clear hK1 K1
      refine wpPre_e rfl rfl (fun K1 hK1 => ?_)
      apply Exists.intro
      refine And.intro (fun wx hx => ?_) ?_
      · have hx2 := hx.resolve_left (by simp)
        have e0 := run_look (HM.out.kept (hx2.block _ HM.out.lt)) HNm.out false
        simp only [labV, labC, hlk, Option.getD_some, Bool.false_eq_true, if_false] at e0
        go_simp
        try rfl
      go_simp
      refine hK1 _ ?_
      clear hK1 K1
      refine wpPre_e rfl rfl (fun K1 hK1 => ?_)
      apply Exists.intro
      refine And.intro (fun wx hx => ?_) ?_
      · go_simp
        try rfl
      go_simp
      refine hK1 _ ?_
      clear hK1 K1
      refine wpPre_nil ?_
      refine wpTr_done ?_
      clear hlk y0 y1 y2 y3 y4 y5 y6 y7 y8 y9 y10 y11 yl d0
      obtain ⟨W4, hW4⟩ : ∃ V, V = W3.drew := ⟨_, rfl⟩
      rw [← hW4]
      have HB4 : Hid (Below w.heap.size w W4) := by show Below _ _ _; rw [hW4]; exact HB3.out.drew
      have HD4 : Hid (DkI W4 C db D) := by show DkI _ _ _ _; rw [hW4]; exact HD3.out.kept fun _ _ _ => rfl
      clear hW4
      have HBE := HB4
      have HF4 := hid (HD4.out.each f (fnd_at hf).1)
      have q0 := HF4.out.bx.cell 0
      simp at q0
      by_cases h0 : bit < 0
      · have HR : Hid (spB D s bit = false) := by show spB D s bit = false; unfold spB; rw [hf]; simp; omega
        go_wp2
        exact bodyPost_ret (v := .bool false) (by simp [results, Tryd.results32, go_sem]) rfl ⟨by rw [HR.out], fun _ => HD.out.chg HBE.out, fun h => absurd h (by rw [HR.out]; simp)⟩
      · by_cases h1 : (f.zs.length : Int) ≤ bit / 8
        · have HR : Hid (spB D s bit = false) := by show spB D s bit = false; unfold spB; rw [hf]; simp; omega
          have hq : bit.tdiv 8 = bit / 8 := Int.tdiv_eq_ediv_of_nonneg (by omega)
          go_wp2
          exact bodyPost_ret (v := .bool false) (by simp [results, Tryd.results32, go_sem]) rfl ⟨by rw [HR.out], fun _ => HD.out.chg HBE.out, fun h => absurd h (by rw [HR.out]; simp)⟩
        · have HR : Hid (spB D s bit = true) := by show spB D s bit = true; unfold spB; rw [hf]; simp; omega
          obtain ⟨i, hi⟩ : ∃ i : Nat, bit / 8 = (i : Int) := ⟨(bit / 8).toNat, by omega⟩
          obtain ⟨rr, hrr⟩ : ∃ rr : Nat, bit % 8 = (rr : Int) := ⟨(bit % 8).toNat, by omega⟩
          have hq : bit.tdiv 8 = (i : Int) := (Int.tdiv_eq_ediv_of_nonneg (by omega)).trans hi
          have hqr : bit.tmod 8 = (rr : Int) := (Int.tmod_eq_emod_of_nonneg (by omega)).trans hrr
          have hil : i < f.zs.length := by omega
          have hr8 : rr < 8 := by omega
          have hli : (i : Int) < (f.zs.length : Int) := by omega
          have hle6 := HF4.out.le
          have hwi : IntKind.i64.wrap (i : Int) = (i : Int) := by rw [IntKind.wrap_i64]; omega
          have hwr : IntKind.i64.wrap (rr : Int) = (rr : Int) := by rw [IntKind.wrap_i64]; omega
          obtain ⟨g, o, hp, _, hgl, hat⟩ := (own_byts HF4.out.row (S := fun _ => True) (fun _ _ => trivial) HF4.out.by_ (by have := HF4.out.le; omega)).at_ (by omega)
          have r0 := hat i hil
          obtain ⟨z, hz⟩ : ∃ z, z = f.zs.getD i 0 := ⟨_, rfl⟩
          rw [← hz] at r0
          rw [hp] at q0
          obtain ⟨ho, hog, hfz, hput⟩ := own_put HF4.out.row hp
          have qz := hfz (o + i)
          have HPu := hid (And.intro ho (And.intro hog hput))
          have HHi := hid (And.intro hi hrr)
          have HZ := hid hz
          clear hat hp ho hog hfz hput hi hrr hz
          go_upto_region 7 with fail
          refine wp_region_calmE 30 (fun wx => Below W4.heap.size W4 wx) [(0, true), (1, true), (2, true), (3, false), (4, true), (5, true), (6, true), (7, false), (8, true), (9, true), (10, true), (11, true), (12, true)] (.one 13 false [] .done) (by kernel_rfl) (by kernel_rfl) (Below.refl _ _).drew ?_
          refine wpPre_e rfl rfl (fun K1 hK1 => ?_)
          apply Exists.intro
          refine And.intro (fun wx hx => ?_) ?_
          · go_simp
            try rfl
          go_simp
          refine hK1 _ ?_
          clear hK1 K1
          refine wpPre_e rfl rfl (fun K1 hK1 => ?_)
          apply Exists.intro
          refine And.intro (fun wx hx => ?_) ?_
          · go_simp
            try rfl
          go_simp
          refine hK1 _ ?_
          clear hK1 K1
          refine wpPre_e rfl rfl (fun K1 hK1 => ?_)
          apply Exists.intro
          refine And.intro (fun wx hx => ?_) ?_
          · go_simp
            try rfl
          go_simp
          refine hK1 _ ?_
          clear hK1 K1
          refine wpPre_e rfl rfl (fun K1 hK1 => ?_)
          apply Exists.intro
          refine And.intro (fun wx hx => ?_) ?_
          · have e0 := below_fact hx rfl q0
            go_simp
            try rfl
          go_simp
          refine hK1 _ ?_
          clear hK1 K1
          refine wpPre_e rfl rfl (fun K1 hK1 => ?_)
          apply Exists.intro
          refine And.intro (fun wx hx => ?_) ?_
          · go_simp
            try rfl
          go_simp
          refine hK1 _ ?_
          clear hK1 K1
          refine wpPre_e rfl rfl (fun K1 hK1 => ?_)
          apply Exists.intro
          refine And.intro (fun wx hx => ?_) ?_
          · go_simp
            try rfl
          go_simp
          refine hK1 _ ?_
          clear hK1 K1
          refine wpPre_e rfl rfl (fun K1 hK1 => ?_)
          apply Exists.intro
          refine And.intro (fun wx hx => ?_) ?_
          · go_simp
            try rfl
          go_simp
          refine hK1 _ ?_
          clear hK1 K1
          refine wpPre_e rfl rfl (fun K1 hK1 => ?_)
          apply Exists.intro
          refine And.intro (fun wx hx => ?_) ?_
          · have e0 := below_fact hx rfl r0
            go_simp
            try rfl
          go_simp
          refine hK1 _ ?_
          clear hK1 K1
          refine wpPre_e rfl rfl (fun K1 hK1 => ?_)
          apply Exists.intro
          refine And.intro (fun wx hx => ?_) ?_
          · go_simp
            try rfl
          go_simp
          refine hK1 _ ?_
          clear hK1 K1
          refine wpPre_e rfl rfl (fun K1 hK1 => ?_)
          apply Exists.intro
          refine And.intro (fun wx hx => ?_) ?_
          · go_simp
            try rfl
          go_simp
          refine hK1 _ ?_
          clear hK1 K1
          refine wpPre_e rfl rfl (fun K1 hK1 => ?_)
          apply Exists.intro
          refine And.intro (fun wx hx => ?_) ?_
          · go_simp
            try rfl
          go_simp
          refine hK1 _ ?_
          clear hK1 K1
          refine wpPre_e rfl rfl (fun K1 hK1 => ?_)
          apply Exists.intro
          refine And.intro (fun wx hx => ?_) ?_
          · go_simp
            try rfl
          go_simp
          refine hK1 _ ?_
          clear hK1 K1
          refine wpPre_e rfl rfl (fun K1 hK1 => ?_)
          apply Exists.intro
          refine And.intro (fun wx hx => ?_) ?_
          · go_simp
            try rfl
          go_simp
          refine hK1 _ ?_
          clear hK1 K1
          refine wpPre_nil ?_
          refine wpTr_e rfl (fun K1 hK1 => ?_)
          have s2 : W4.drew.frozen? ⟨g, o + i, none⟩ = false := qz
          go_simp
          refine hK1 _ _ (fun h => by cases h) ?_
          clear s2
          clear hK1 K1
          refine wpPre_nil ?_
          refine wpTr_done ?_
          go_wp2
          obtain ⟨ho, hog, hput⟩ := HPu.out
          obtain ⟨hi, hrr⟩ := HHi.out
          have e1 : (bit / 8).toNat = i := by omega
          have e2 : (bit % 8).toNat = rr := by omega
          refine bodyPost_ret (v := .bool true) (by simp [results, Tryd.results32, go_sem]) rfl ⟨by rw [HR.out], fun h => absurd h (by rw [HR.out]; simp), fun _ => ⟨f, hf, ?_⟩⟩
          rw [e1, e2]
          subst ho
          have hne : g ≠ f.fb := (HF4.out.rc g hog).2
          have hw5 := hput i (spx z rr)
          have hspo : f.spo i rr = { f with zs := f.zs.set i (spx z rr) } := by rw [HZ.out]; rfl
          rw [hspo]
          have hbt : But f.blk W4 (W4.setCell ⟨g, i, none⟩ (.int .u8 (spx z rr))).drew := ((But.refl _ _).setCell (p := ⟨g, i, none⟩) (fun _ => .inr hog) _).drew
          have hlen : (f.zs.set i (spx z rr)).length = f.zs.length := List.length_set
          have hI : FtI (W4.setCell ⟨g, i, none⟩ (.int .u8 (spx z rr))).drew (fun k => C k ∨ W4.heap.size ≤ k) { f with zs := f.zs.set i (spx z rr) } := by
            refine ⟨HF4.out.nm, ?_, ownBy_ge hw5 (Nat.zero_le _), fun k hk => ?_, .inl HF4.out.fc, by show (f.zs.set i (spx z rr)).length ≤ 65536; omega, by show f.sure ≤ (f.zs.set i (spx z rr)).length; rw [hlen]; exact HF4.out.su, fun y hy => ?_⟩
            · show Box _ f.fb #[.slice f.p (f.zs.set i (spx z rr)).length f.c, .int .i64 (f.sure : Int)] _
              rw [hlen]
              exact HF4.out.bx.kept (Below.heap_setCell _ _ _ _ (fun e => hne e.symm))
            · have hk' : (Value.slice f.p (f.zs.set i (spx z rr)).length f.c).ownBlock = some k := hk
              rw [hlen] at hk'
              exact ⟨.inl (HF4.out.rc k hk').1, (HF4.out.rc k hk').2⟩
            · rcases List.mem_or_eq_of_mem_set hy with h | h
              · exact HF4.out.by_ y h
              · rw [h]; exact spx_bd z rr
          have hU := HD4.out.upd (f' := { f with zs := f.zs.set i (spx z rr) }) hf rfl rfl hI hbt (fun k hk => .inl (hk.imp_right fun h => by
            have hk' : (Value.slice f.p (f.zs.set i (spx z rr)).length f.c).ownBlock = some k := h
            rw [hlen] at hk'
            exact hk'))
          have e3 : bits BinOp.xor IntKind.u8 z (IntKind.u8.wrap (2 ^ rr)) = spx z rr := rfl
          first
            | (simp only [Nat.zero_add, e3]; exact ⟨hU.mono fun k hk _ => hk.imp_right fun h => Nat.le_trans HB4.out.size h, (But.ofBelow HB4.out).trans (hbt.mono fun k _ hk => (HF4.out.blk hk).1)⟩)
            | trace_state
end Go.Proofs.YtkfcilandmhomaaDoor
