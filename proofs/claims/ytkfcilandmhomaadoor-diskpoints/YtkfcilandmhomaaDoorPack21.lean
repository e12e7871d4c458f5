import Derived.Test.YtkfcilandmhomaaDoorEeE
namespace Go.Proofs.YtkfcilandmhomaaDoor
open Go.RowKit
set_option maxRecDepth 8000
theorem ownBy_ge {a b : Nat} {w : World} {v : Value} {zs : List Int} (h : OwnBy b w v zs) (hb : a ≤ b) : OwnBy a w v zs := by
  obtain ⟨h1, h2⟩ := h
  refine ⟨h1, ?_⟩
  rcases h2 with h2 | ⟨g, cap, cur, e1, e2, e3⟩
  · exact .inl h2
  · exact .inr ⟨g, cap, cur, e1, Nat.le_trans hb e2, e3⟩
def readE (D : DK) (s : ByteArray) : Int := if reachE D s = 0 then (if (fnd D s).isSome = true then 0 else 103) else reachE D s
def readZ (D : DK) (s : ByteArray) : List Int := if reachE D s = 0 then ((fnd D s).map FT.zs).getD [] else []
def ReadQ (D : DK) (s : ByteArray) (w : World) (e : Ending) (w' : World) : Prop :=
  ∃ (p : Option Addr) (c : Nat), e = .returned (.tuple #[.slice p (readZ D s).length c, .int .i64 (readE D s)]) ∧ OwnBy w.heap.size w' (.slice p (readZ D s).length c) (readZ D s) ∧ Below w.heap.size w w'
set_option maxHeartbeats 8000000 in
theorem dread_any (D : DK) (s : ByteArray) (w : World) (C : Nat → Prop) (db : Nat) (hD : DkI w C db D) (hmx : s.size ≤ 140737488355328) :
    Calls Tryd.prog 18 #[.pointer (some ⟨db, 0, none⟩), .string s] w fun e w' => ReadQ D s w e w' := by
  have HD := hid hD
  clear hD
  have HRc := hid (dreach_any D s w _ db HD.out hmx)
  go_enter Tryd.func18, Tryd.ntmps18
  go_wp2_with fail
  refine HRc.out.mono ?_
  rintro e w2 ⟨t, rfl, ht, hb2⟩
  have HT := hid ht
  have HB2 := hid hb2
  clear hb2 ht
  rw [labV_at]
  obtain ⟨W3, hW3⟩ : ∃ V, V = w2.alloc (.cells #[.int .u8 (bat t 0), .int .u8 (bat t 1), .int .u8 (bat t 2), .int .u8 (bat t 3), .int .u8 (bat t 4), .int .u8 (bat t 5), .int .u8 (bat t 6), .int .u8 (bat t 7), .int .u8 (bat t 8), .int .u8 (bat t 9), .int .u8 (bat t 10), .int .u8 (bat t 11)] 69) := ⟨_, rfl⟩
  have HBx : Hid (Below w2.heap.size w2 W3) := by show Below _ _ _; rw [hW3]; exact (Below.refl _ _).alloc (Nat.le_refl _) _
  have HB3 : Hid (Below w.heap.size w W3) := HB2.out.trans (HBx.out.mono HB2.out.size)
  have HY3 : Hid (Box W3 w2.heap.size #[.int .u8 (bat t 0), .int .u8 (bat t 1), .int .u8 (bat t 2), .int .u8 (bat t 3), .int .u8 (bat t 4), .int .u8 (bat t 5), .int .u8 (bat t 6), .int .u8 (bat t 7), .int .u8 (bat t 8), .int .u8 (bat t 9), .int .u8 (bat t 10), .int .u8 (bat t 11)] 69) := by show Box _ _ _ _; rw [hW3]; exact Box.new _ _ _
  have HD3 : Hid (DkI W3 C db D) := HD.out.below HB3.out
  have HW3 := hid hW3
  clear hW3
  go_upto_region 2 with fail
  rw [← HW3.out]
  by_cases hr : reachE D s = 0
  · rw [hr]
    obtain ⟨hts, hNm⟩ := HT.out hr
    subst hts
    have HNm := hid hNm
    have HM : Hid (MpI W3 D.mb D.ents) := HD3.out.mp
    have d0 := HD3.out.bx.cell 0
    simp at d0
    have y0 := HY3.out.cell 0
    have y1 := HY3.out.cell 1
    have y2 := HY3.out.cell 2
    have y3 := HY3.out.cell 3
    have y4 := HY3.out.cell 4
    have y5 := HY3.out.cell 5
    have y6 := HY3.out.cell 6
    have y7 := HY3.out.cell 7
    have y8 := HY3.out.cell 8
    have y9 := HY3.out.cell 9
    have y10 := HY3.out.cell 10
    have y11 := HY3.out.cell 11
    have yl := HY3.out.lt
    simp at y0 y1 y2 y3 y4 y5 y6 y7 y8 y9 y10 y11
    clear hNm
    go_upto_region 4 with fail
    cases hf : fnd D t with
    | none =>
      have hlk : lk D.ents t = none := by rw [lk_ents, hf]; rfl
      have HRe : Hid (readE D t = 103) := by show readE D t = _; rw [readE, if_pos hr, if_neg (by rw [hf]; simp)]
      have HRz : Hid (readZ D t = []) := by show readZ D t = _; rw [readZ, if_pos hr, hf]; rfl
      refine wp_region_calmE 30 (fun wx => Below W3.heap.size W3 wx) [(0, true), (1, true), (2, true), (3, false), (4, false), (5, false), (6, true)] .done (by kernel_rfl) (by kernel_rfl) (Below.refl _ _).drew ?_
      refine wpPre_e rfl rfl (fun K1 hK1 => ?_)
      apply Exists.intro
      refine And.intro (fun wx hx => ?_) ?_
      · go_simp
        try rfl
      go_simp
      refine hK1 _ ?_
      clear hK1 K1
      refine wpPre_e rfl rfl (fun K1 hK1 => ?_)
      apply Exists.intro
      refine And.intro (fun wx hx => ?_) ?_
      · go_simp
        try rfl
      go_simp
      refine hK1 _ ?_
      clear hK1 K1
      refine wpPre_e rfl rfl (fun K1 hK1 => ?_)
      apply Exists.intro
      refine And.intro (fun wx hx => ?_) ?_
      · go_simp
        try rfl
      go_simp
      refine hK1 _ ?_
      clear hK1 K1
      refine wpPre_e rfl rfl (fun K1 hK1 => ?_)
      apply Exists.intro
      refine And.intro (fun wx hx => ?_) ?_
      · have e0 := below_fact hx rfl d0
        go_simp
        try rfl
      go_simp
      refine hK1 _ ?_
      clear hK1 K1
      refine wpPre_e rfl rfl (fun K1 hK1 => ?_)
      apply Exists.intro
      refine And.intro (fun wx hx => ?_) ?_
      · have e0 := below_fact hx rfl y0
        have e1 := below_fact hx rfl y1
        have e2 := below_fact hx rfl y2
        have e3 := below_fact hx rfl y3
        have e4 := below_fact hx rfl y4
        have e5 := below_fact hx rfl y5
        have e6 := below_fact hx rfl y6
        have e7 := below_fact hx rfl y7
        have e8 := below_fact hx rfl y8
        have e9 := below_fact hx rfl y9
        have e10 := below_fact hx rfl y10
        have e11 := below_fact hx rfl y11
        go_simp
        try rfl
      go_simp
      refine hK1 _ ?_
      clear hK1 K1
      refine wpPre_e rfl rfl (fun K1 hK1 => ?_)
      apply Exists.intro
      refine And.intro (fun wx hx => ?_) ?_
      · have hx2 := hx.resolve_left (by simp)
        have e0 := run_look (HM.out.kept (hx2.block _ HM.out.lt)) HNm.out false
        simp only [labV, labC, hlk, Option.getD_none, Bool.false_eq_true, if_false] at e0
        go_simp
        try rfl
      go_simp
      refine hK1 _ ?_
      clear hK1 K1
      refine wpPre_e rfl rfl (fun K1 hK1 => ?_)
      apply Exists.intro
      refine And.intro (fun wx hx => ?_) ?_
      · go_simp
        try rfl
      go_simp
      refine hK1 _ ?_
      clear hK1 K1
      refine wpPre_nil ?_
      refine wpTr_done ?_
      clear hlk y0 y1 y2 y3 y4 y5 y6 y7 y8 y9 y10 y11 yl d0
      obtain ⟨W4, hW4⟩ : ∃ V, V = W3.drew := ⟨_, rfl⟩
      rw [← hW4]
      have HB4 : Hid (Below w.heap.size w W4) := by show Below _ _ _; rw [hW4]; exact HB3.out.drew
      have HD4 : Hid (DkI W4 C db D) := by show DkI _ _ _ _; rw [hW4]; exact HD3.out.kept fun _ _ _ => rfl
      clear hW4
      go_wp2
      exact bodyPost_ret (v := .tuple #[.slice none 0 0, .int .i64 103]) (by simp [results, Tryd.results18, go_sem]) rfl ⟨none, 0, by rw [HRz.out, HRe.out]; rfl, by rw [HRz.out]; exact World.ownsRow_nil _ _ _ _, HB4.out⟩
    | some f =>
      have hlk : lk D.ents t = some (.pointer (some ⟨f.fb, 0, none⟩)) := by rw [lk_ents, hf]; rfl
      have HRe : Hid (readE D t = 0) := by show readE D t = _; rw [readE, if_pos hr, if_pos (by rw [hf]; rfl)]
      have HRz : Hid (readZ D t = f.zs) := by show readZ D t = _; rw [readZ, if_pos hr, hf]; rfl
      refine wp_region_calmE 30 (fun wx => Below W3.heap.size W3 wx) [(0, true), (1, true), (2, true), (3, false), (4, false), (5, false), (6, true)] .done (by kernel_rfl) (by kernel_rfl) (Below.refl _ _).drew ?_
      refine wpPre_e rfl rfl (fun K1 hK1 => ?_)
      apply Exists.intro
      refine And.intro (fun wx hx => ?_) ?_
      · go_simp
        try rfl
      go_simp
      refine hK1 _ ?_
      clear hK1 K1
      refine wpPre_e rfl rfl (fun K1 hK1 => ?_)
      apply Exists.intro
      refine And.intro (fun wx hx => ?_) ?_
      · go_simp
        try rfl
      go_simp
      refine hK1 _ ?_
      clear hK1 K1
      refine wpPre_e rfl rfl (fun K1 hK1 => ?_)
      apply Exists.intro
      refine And.intro (fun wx hx => ?_) ?_
      · go_simp
        try rfl
      go_simp
      refine hK1 _ ?_
      clear hK1 K1
      refine wpPre_e rfl rfl (fun K1 hK1 => ?_)
      apply Exists.intro
      refine And.intro (fun wx hx => ?_) ?_
      · have e0 := below_fact hx rfl d0
        go_simp
        try rfl
      go_simp
      refine hK1 _ ?_
      clear hK1 K1
      refine wpPre_e rfl rfl (fun K1 hK1 => ?_)
      apply Exists.intro
      refine And.intro (fun wx hx => ?_) ?_
      · have e0 := below_fact hx rfl y0
        have e1 := below_fact hx rfl y1
        have e2 := below_fact hx rfl y2
        have e3 := below_fact hx rfl y3
        have e4 := below_fact hx rfl y4
        have e5 := below_fact hx rfl y5
        have e6 := below_fact hx rfl y6
        have e7 := below_fact hx rfl y7
        have e8 := below_fact hx rfl y8
        have e9 := below_fact hx rfl y9
        have e10 := below_fact hx rfl y10
        have e11 := below_fact hx rfl y11
        go_simp
        try rfl
      go_simp
      refine hK1 _ ?_
      clear hK1 K1
      refine wpPre_e rfl rfl (fun K1 hK1 => ?_)
      apply Exists.intro
      refine And.intro (fun wx hx => ?_) ?_
      · have hx2 := hx.resolve_left (by simp)
        have e0 := run_look (HM.out.kept (hx2.block _ HM.out.lt)) HNm.out false
        simp only [labV, labC, hlk, Option.getD_some, Bool.false_eq_true, if_false] at e0
        go_simp
        try rfl
      go_simp
      refine hK1 _ ?_
      clear hK1 K1
      refine wpPre_e rfl rfl (fun K1 hK1 => ?_)
      apply Exists.intro
      refine And.intro (fun wx hx => ?_) ?_
      · go_simp
        try rfl
      go_simp
      refine hK1 _ ?_
      clear hK1 K1
      refine wpPre_nil ?_
      refine wpTr_done ?_
      clear hlk y0 y1 y2 y3 y4 y5 y6 y7 y8 y9 y10 y11 yl d0
      obtain ⟨W4, hW4⟩ : ∃ V, V = W3.drew := ⟨_, rfl⟩
      rw [← hW4]
      have HB4 : Hid (Below w.heap.size w W4) := by show Below _ _ _; rw [hW4]; exact HB3.out.drew
      have HD4 : Hid (DkI W4 C db D) := by show DkI _ _ _ _; rw [hW4]; exact HD3.out.kept fun _ _ _ => rfl
      clear hW4
      have HF4 := hid (HD4.out.each f (fnd_at hf).1)
      have q0 := HF4.out.bx.cell 0
      simp at q0
      have HCl := hid (bclone_any f.p f.c f.zs W4 (HF4.out.row.src rfl) (Nat.le_trans HF4.out.le (by omega)))
      go_wp2_with fail
      refine HCl.out.mono ?_
      rintro e w5 ⟨p5, c5, rfl, hr5, hb5⟩
      have HR5 := hid hr5
      have HB5 := hid hb5
      clear hr5 hb5 q0
      go_wp2
      exact bodyPost_ret (v := .tuple #[.slice p5 f.zs.length c5, .int .i64 0]) (by simp [results, Tryd.results18, go_sem]) rfl ⟨p5, c5, by rw [HRz.out, HRe.out], by rw [HRz.out]; exact ownBy_ge HR5.out HB4.out.size, HB4.out.trans (HB5.out.mono HB4.out.size)⟩
  · have HRe : Hid (readE D s = reachE D s) := by show readE D s = _; rw [readE, if_neg hr]
    have HRz : Hid (readZ D s = []) := by show readZ D s = _; rw [readZ, if_neg hr]
    go_wp2
    exact bodyPost_ret (v := .tuple #[.slice none 0 0, .int .i64 (reachE D s)]) (by simp [results, Tryd.results18, go_sem]) rfl ⟨none, 0, by rw [HRz.out, HRe.out]; rfl, by rw [HRz.out]; exact World.ownsRow_nil _ _ _ _, HB3.out⟩
end Go.Proofs.YtkfcilandmhomaaDoor

namespace Go.Proofs.YtkfcilandmhomaaDoor
open Go.RowKit
set_option maxRecDepth 8000
theorem kindStrs : ∃ i, Kind 39 9 i (.string ⟨#[]⟩) 1 16 := by
  obtain ⟨i0, hi, hz0, hz1, hz2⟩ := info_parts (show (Tryd.prog.info? 9).map (fun i => (i.zero, i.size, i.bytes)) = some (some (.string ⟨#[]⟩), 1, 16) by kernel_rfl)
  exact ⟨i0, Tryd.underlying39, hi, hz0, hz1, hz2, rfl, by decide⟩
/-- what List answers -/
def ListQ (D : DK) (w : World) (e : Ending) (w' : World) : Prop :=
  Below w.heap.size w w' ∧ (D.down = true → e = .returned (.tuple #[.slice none 0 0, .int .i64 100])) ∧ (D.down = false →
  ∃ (u : LT ByteArray) (YS : List FT), e = .returned (.tuple #[.slice u.p u.n u.c, .int .i64 0]) ∧ LT.In elStr w' (fun k => w.heap.size ≤ k) u ∧ YS.Perm D.fs ∧ YS.Pairwise (fun a b => ¬ cmpN b.name a.name < 0) ∧ u.n = YS.length ∧ (∀ j, j < u.n → ∃ f, YS[j]? = some f ∧ u.item j = f.name))
set_option maxHeartbeats 8000000 in
theorem dlist_any (D : DK) (w : World) (C : Nat → Prop) (db : Nat) (hD : DkI w C db D) :
    Calls Tryd.prog 15 #[.pointer (some ⟨db, 0, none⟩)] w fun e w' => ListQ D w e w' := by
  obtain ⟨i0, Kd⟩ := kindStrs
  have HKd := hid Kd
  have HD := hid hD
  have d0' := hD.bx.cell 0
  have d5 := hD.bx.cell 5
  simp at d0' d5
  have HOr := hid (order_any w db D.mb D.ents d0' hD.mp (by have := hD.n; simp [DK.ents]; omega))
  clear hD Kd d0'
  cases hdn : D.down with
  | true =>
    rw [hdn] at d5
    have HDn := hid hdn
    clear hdn
    go_enter Tryd.func15, Tryd.ntmps15
    go_wp2
    exact bodyPost_ret (v := .tuple #[.slice none 0 0, .int .i64 100]) (by simp [results, Tryd.results15, go_sem]) rfl ⟨Below.refl _ _, fun _ => rfl, fun h => by rw [HDn.out] at h; cases h⟩
  | false =>
    rw [hdn] at d5
    have HDn := hid hdn
    clear hdn
    go_enter Tryd.func15, Tryd.ntmps15
    go_wp2_with fail
    refine HOr.out.mono ?_
    rintro e w1 ⟨p, c, Y, rfl, hperm, hpw, hrow, hb1⟩
    obtain ⟨YS, hYp, hYn⟩ := perm_map FT.name Y D.fs (by simpa [DK.ents, List.map_map, Function.comp_def] using hperm)
    have HYl : Hid (YS.length = Y.length) := by show YS.length = Y.length; rw [← hYn, List.length_map]
    have hY4 : Y.length ≤ 400 := by have h1 := hYp.length_eq; have h2 := HD.out.n; have := HYl.out; omega
    have HPw : Hid (YS.Pairwise (fun a b => ¬ cmpN b.name a.name < 0)) := by
      show List.Pairwise _ _
      rw [← hYn, List.pairwise_map] at hpw
      exact hpw.imp fun h => by omega
    rw [flat_range] at hrow
    obtain ⟨p2, c2, hv2, hLr⟩ := OwnL.in_ (E := elL) (g := fun j => Y.getD j ⟨#[]⟩) ⟨hrow, fun _ _ => trivial⟩ (by omega)
    simp only [Value.slice.injEq, true_and] at hv2
    obtain ⟨rfl, rfl⟩ := hv2
    have HLr := hid hLr
    have HY := hid (And.intro hYp hYn)
    have HW1 := hid hb1
    clear hperm hpw hrow hYp hYn hLr hb1 HOr d5
    go_wp2_with fail
    go_loopw [4, 14] (fun v x wr => ∃ (i : Nat) (g : Nat → ByteArray), i ≤ Y.length ∧ x = .int .i64 (i : Int) ∧ OwnL elStr w1.heap.size wr v i g ∧ (∀ q, q < i → ∃ f, YS[q]? = some f ∧ g q = f.name) ∧ Below w1.heap.size w1 wr) (fun _ x _ => Y.length - (intOf x).toNat)
    case atStart => exact ⟨0, fun _ => ⟨#[]⟩, Nat.zero_le _, rfl, ⟨World.ownsRow_nil _ _ _ _, fun j hj => absurd hj (by omega)⟩, fun q hq => absurd hq (by omega), Below.refl _ _⟩
    case round =>
      obtain ⟨i, g, hi, rfl, hO, hg, hbw⟩ := hrel
      have HO := hid hO
      have HG := hid hg
      have HBw := hid hbw
      clear hO hg hbw
      by_cases hlt : i < Y.length
      · have hlt' : (i : Int) < (Y.length : Int) := by omega
        obtain ⟨bb, o, hp, hbS, hbb, hat⟩ := HLr.out.at_ (by show 0 < Y.length; omega)
        have hp' : p = some ⟨bb, o, none⟩ := hp
        subst hp'
        obtain ⟨f, hf⟩ : ∃ f, YS[i]? = some f := ⟨YS[i]'(by have := HYl.out; omega), List.getElem?_eq_getElem _⟩
        obtain ⟨s, hs⟩ : ∃ s, s = f.name := ⟨_, rfl⟩
        have hsY : Y.getD i ⟨#[]⟩ = s := by
          rw [← HY.out.2, List.getD_eq_getElem?_getD, List.getElem?_map, hf, hs]; rfl
        have hfD : f ∈ D.fs := HY.out.1.mem_iff.1 (List.mem_of_getElem? hf)
        have HNm : Hid (Nm s) := by show Nm s; rw [hs]; exact (HD.out.each f hfD).nm
        have HFn : Hid (f.name = s) := hs.symm
        have HFi := hid hf
        have hce : ∀ r u, (labC s)[r]? = some u → wr.cell? ⟨bb, o + i * 12 + r, none⟩ = some u := fun r u hu => (World.cell?_of_block (a := ⟨bb, o + i * 12 + r, none⟩) (HBw.out.block bb hbb)).trans (hat i hlt r u (by show (labC (Y.getD i ⟨#[]⟩))[r]? = some u; rw [hsY]; exact hu))
        have k0 : wr.cell? ⟨bb, o + i * 12, none⟩ = some (.int .u8 (bat s 0)) := hce 0 _ rfl
        have k1 : wr.cell? ⟨bb, o + i * 12 + 1, none⟩ = some (.int .u8 (bat s 1)) := hce 1 _ rfl
        have k2 : wr.cell? ⟨bb, o + i * 12 + 2, none⟩ = some (.int .u8 (bat s 2)) := hce 2 _ rfl
        have k3 : wr.cell? ⟨bb, o + i * 12 + 3, none⟩ = some (.int .u8 (bat s 3)) := hce 3 _ rfl
        have k4 : wr.cell? ⟨bb, o + i * 12 + 4, none⟩ = some (.int .u8 (bat s 4)) := hce 4 _ rfl
        have k5 : wr.cell? ⟨bb, o + i * 12 + 5, none⟩ = some (.int .u8 (bat s 5)) := hce 5 _ rfl
        have k6 : wr.cell? ⟨bb, o + i * 12 + 6, none⟩ = some (.int .u8 (bat s 6)) := hce 6 _ rfl
        have k7 : wr.cell? ⟨bb, o + i * 12 + 7, none⟩ = some (.int .u8 (bat s 7)) := hce 7 _ rfl
        have k8 : wr.cell? ⟨bb, o + i * 12 + 8, none⟩ = some (.int .u8 (bat s 8)) := hce 8 _ rfl
        have k9 : wr.cell? ⟨bb, o + i * 12 + 9, none⟩ = some (.int .u8 (bat s 9)) := hce 9 _ rfl
        have k10 : wr.cell? ⟨bb, o + i * 12 + 10, none⟩ = some (.int .u8 (bat s 10)) := hce 10 _ rfl
        have k11 : wr.cell? ⟨bb, o + i * 12 + 11, none⟩ = some (.int .u8 (bat s 11)) := hce 11 _ rfl
        clear hce hat hp hbS hf hs hsY hfD
        obtain ⟨V1, hV1⟩ : ∃ V, V = wr.alloc (.cells #[.int .u8 (bat s 0), .int .u8 (bat s 1), .int .u8 (bat s 2), .int .u8 (bat s 3), .int .u8 (bat s 4), .int .u8 (bat s 5), .int .u8 (bat s 6), .int .u8 (bat s 7), .int .u8 (bat s 8), .int .u8 (bat s 9), .int .u8 (bat s 10), .int .u8 (bat s 11)] 69) := ⟨_, rfl⟩
        have HB1 : Hid (Below wr.heap.size wr V1) := by show Below _ _ _; rw [hV1]; exact (Below.refl _ _).alloc (Nat.le_refl _) _
        have HX1 : Hid (Box V1 wr.heap.size #[.int .u8 (bat s 0), .int .u8 (bat s 1), .int .u8 (bat s 2), .int .u8 (bat s 3), .int .u8 (bat s 4), .int .u8 (bat s 5), .int .u8 (bat s 6), .int .u8 (bat s 7), .int .u8 (bat s 8), .int .u8 (bat s 9), .int .u8 (bat s 10), .int .u8 (bat s 11)] 69) := by show Box _ _ _ _; rw [hV1]; exact Box.new _ _ _
        have HV1 := hid hV1
        clear hV1
        go_upto_region 7 with fail
        rw [← HV1.out]
        clear k0 k1 k2 k3 k4 k5 k6 k7 k8 k9 k10 k11
        have y0 := HX1.out.cell 0
        have y1 := HX1.out.cell 1
        have y2 := HX1.out.cell 2
        have y3 := HX1.out.cell 3
        have y4 := HX1.out.cell 4
        have y5 := HX1.out.cell 5
        have y6 := HX1.out.cell 6
        have y7 := HX1.out.cell 7
        have y8 := HX1.out.cell 8
        have y9 := HX1.out.cell 9
        have y10 := HX1.out.cell 10
        have y11 := HX1.out.cell 11
        have yl := HX1.out.lt
        simp at y0 y1 y2 y3 y4 y5 y6 y7 y8 y9 y10 y11
        have HNa := hid (name_any s HNm.out V1)
        go_wp2_with fail
        refine HNa.out.mono ?_
        rintro e w2 ⟨rfl, hb2⟩
        have HB2 : Hid (Below wr.heap.size wr w2) := HB1.out.trans (hb2.mono HB1.out.size)
        clear hb2 y0 y1 y2 y3 y4 y5 y6 y7 y8 y9 y10 y11 yl
        have hal : Below w2.heap.size w2 (w2.alloc (.cells #[.string s] 9)) := (Below.refl _ _).alloc (Nat.le_refl _) _
        have hO2 := (HO.out.keep HB2.out.size (fun k _ hl => HB2.out.block k hl)).keep hal.size (fun k _ hl => hal.block k hl)
        have hu2 : elStr.In (w2.alloc (.cells #[.string s] 9)) (fun b => w1.heap.size ≤ b ∧ u4.ownBlock ≠ some b) s := by
          show s.size ≤ 140737488355328
          have := HNm.out.le
          omega
        have hnw : ∀ j u', (elStr.cells s)[j]? = some u' → (w2.alloc (.cells #[.string s] 9)).cell? ((⟨w2.heap.size, 0, none⟩ : Addr).add j) = some u' := fun j u' hu => by
          rw [Go.WideShapes.add_plain, (Box.new w2 #[.string s] 9).cell]
          rw [show 0 + j = j by omega]
          simpa [elStr] using hu
        have hbA : Below w1.heap.size w1 (w2.alloc (.cells #[.string s] 9)) := (HBw.out.trans (HB2.out.mono HBw.out.size)).trans (hal.mono (Nat.le_trans HBw.out.size HB2.out.size))
        have HP := hid (And.intro hO2 (And.intro hu2 (And.intro hnw hbA)))
        clear hal hO2 hu2 hnw hbA
        go_wp2_with (at_builtin; refine wpList_app rfl (.tmp 18) (.tmp 21) 39 9 i0 _ 1 16 HKd.out rfl w1.heap.size u4 i _ rfl HP.out.1.own ⟨w2.heap.size, 0, none⟩ 1 1 (elStr.cells s) rfl rfl HP.out.2.2.1 (elStr.one _) (by omega) (by omega) HP.out.2.2.2.size ?_)
        intro v5 w5 ho5 hg5 hn5
        have HO5 := hid (HP.out.1.push HP.out.2.1 ho5 hg5 hn5)
        have HB5 : Hid (Below w1.heap.size w1 w5) := HP.out.2.2.2.grown hg5 HP.out.2.2.2.size (fun k hk => (HP.out.1.own.lt k hk).1)
        have HG5 : Hid (∀ q, q < i + 1 → ∃ f_, YS[q]? = some f_ ∧ (if q < i then g q else s) = f_.name) := by
          intro q hq
          by_cases hqi : q < i
          · rw [if_pos hqi]; exact HG.out q hqi
          · rw [if_neg hqi]
            obtain rfl : q = i := by omega
            exact ⟨f, HFi.out, HFn.out.symm⟩
        clear ho5 hg5 hn5 HP
        go_wp2
        go_roundw
        case rel => exact ⟨i + 1, _, by omega, by go_num, HO5.out, HG5.out, HB5.out⟩
        case measure => simp [intOf]; omega
      · have hlt' : ¬ (i : Int) < (Y.length : Int) := by omega
        obtain rfl : i = Y.length := by omega
        obtain ⟨p3, c3, hv3, hL3⟩ := HO.out.in_ (by omega)
        subst hv3
        have HL3 := hid hL3
        clear hL3
        go_wp2
        refine bodyPost_ret (v := .tuple #[.slice p3 Y.length c3, .int .i64 0]) (by simp [results, Tryd.results15, go_sem]) rfl ⟨HW1.out.trans (HBw.out.mono HW1.out.size), fun h => absurd h (by rw [HDn.out]; simp), fun _ => ?_⟩
        exact ⟨⟨p3, Y.length, c3, g⟩, YS, rfl, HL3.out.mono (fun b hb _ => Nat.le_trans HW1.out.size hb), HY.out.1, HPw.out.imp (fun h => by omega), HYl.out.symm, fun j hj => HG.out j hj⟩
end Go.Proofs.YtkfcilandmhomaaDoor

namespace Go.Proofs.YtkfcilandmhomaaDoor
open Go.RowKit
set_option maxRecDepth 8000
/-- the disk with another file of this name -/
def DK.upd (D : DK) (s : ByteArray) (f' : FT) : DK := { D with fs := D.fs.map fun g => if g.name = s then f' else g }
theorem DkI.nodup {w : World} {C : Nat → Prop} {db : Nat} {D : DK} (h : DkI w C db D) : (D.fs.map FT.name).Nodup := by
  obtain ⟨es, ck, _, hE⟩ := h.mp
  simpa [DK.ents, List.map_map, Function.comp_def] using hE.nodup
theorem nodup_inj {α β : Type} {f : α → β} : ∀ {l : List α}, (l.map f).Nodup → ∀ {a b : α}, a ∈ l → b ∈ l → f a = f b → a = b
  | [], _, _, _, h, _, _ => by cases h
  | x :: l, hn, a, b, ha, hb, e => by
    rw [List.map_cons, List.nodup_cons] at hn
    rcases List.mem_cons.1 ha with rfl | ha'
    · rcases List.mem_cons.1 hb with rfl | hb
      · rfl
      · exact absurd (List.mem_map.2 ⟨b, hb, e.symm⟩) hn.1
    · rcases List.mem_cons.1 hb with rfl | hb
      · exact absurd (List.mem_map.2 ⟨a, ha', e⟩) hn.1
      · exact nodup_inj hn.2 ha' hb e
theorem pair_of {α : Type} {R : α → α → Prop} (hs : ∀ a b, R a b → R b a) : ∀ {l : List α}, l.Pairwise R → ∀ {a b : α}, a ∈ l → b ∈ l → a ≠ b → R a b
  | [], _, _, _, h, _, _ => by cases h
  | x :: l, hp, a, b, ha, hb, hne => by
    obtain ⟨h1, h2⟩ := List.pairwise_cons.1 hp
    rcases List.mem_cons.1 ha with rfl | ha'
    · rcases List.mem_cons.1 hb with rfl | hb
      · exact absurd rfl hne
      · exact h1 b hb
    · rcases List.mem_cons.1 hb with rfl | hb
      · exact hs _ _ (h1 a ha')
      · exact pair_of hs h2 ha' hb hne
theorem DkI.apart_ {w : World} {C : Nat → Prop} {db : Nat} {D : DK} (h : DkI w C db D) {f g : FT} (hf : f ∈ D.fs) (hg : g ∈ D.fs) (hne : f.name ≠ g.name) (k : Nat) (hk : f.blk k) : ¬ g.blk k :=
  pair_of (R := fun f g : FT => ∀ k, f.blk k → ¬ g.blk k) (fun _ _ h k h1 h2 => h k h2 h1) h.apart hf hg (fun e => hne (by rw [e])) k hk
/-- a file of the disk is another now: only its own blocks are touched -/
theorem DkI.upd {w w' : World} {C : Nat → Prop} {db : Nat} {D : DK} {s : ByteArray} {f f' : FT} (h : DkI w C db D) (hf : fnd D s = some f) (hn : f'.name = f.name) (hfb : f'.fb = f.fb)
    (hI : FtI w' (fun k => C k ∨ w.heap.size ≤ k) f') (hb : But f.blk w w') (hnew : ∀ k, f'.blk k → f.blk k ∨ w.heap.size ≤ k) : DkI w' (fun k => C k ∨ w.heap.size ≤ k) db (D.upd s f') := by
  obtain ⟨hfm, hfs⟩ := fnd_at hf
  have hself : ∀ g ∈ D.fs, g.name = s → g = f := fun g hg e => nodup_inj h.nodup hg hfm (by rw [e, hfs])
  have hents : (D.upd s f').ents = D.ents := by
    show (D.fs.map _).map _ = D.fs.map _
    rw [List.map_map]
    refine List.map_congr_left fun g hg => ?_
    by_cases e : g.name = s
    · simp only [Function.comp, if_pos e, hn, hfb]
      rw [hself g hg e]
    · simp only [Function.comp, if_neg e]
  have hlow : ∀ k, f'.blk k → k ≠ db ∧ k ≠ D.mb := fun k hk => by
    rcases hnew k hk with h1 | h1
    · exact h.low f hfm k h1
    · have h2 := h.bx.lt
      have h3 := h.mp.lt
      exact ⟨by omega, by omega⟩
  have hoth : ∀ g ∈ D.fs, g.name ≠ s → ∀ k, f'.blk k → ¬ g.blk k := fun g hg e k hk hgk => by
    rcases hnew k hk with h1 | h1
    · exact h.apart_ hfm hg (by rw [hfs]; exact fun e' => e e'.symm) k h1 hgk
    · have := ((h.each g hg).blk hgk).2
      omega
  refine ⟨h.bx.kept (hb.block _ h.bx.lt fun e => (h.low f hfm _ e).1 rfl), ?_, .inl h.cb, .inl h.cm, h.ne, ?_, ?_, ?_, ?_, h.bu, h.ba, h.bc⟩
  · rw [hents]
    exact h.mp.kept (hb.block _ h.mp.lt fun e => (h.low f hfm _ e).2 rfl)
  · intro g' hg'
    obtain ⟨g, hg, rfl⟩ := List.mem_map.1 hg'
    by_cases e : g.name = s
    · simp only [if_pos e]; exact hI
    · simp only [if_neg e]
      exact (h.each g hg).kept (fun k hk => hb.block k ((h.each g hg).blk hk).2 fun hfk => h.apart_ hfm hg (by rw [hfs]; exact fun e' => e e'.symm) k hfk hk) (fun k hk => .inl ((h.each g hg).blk hk).1)
  · intro g' hg'
    obtain ⟨g, hg, rfl⟩ := List.mem_map.1 hg'
    by_cases e : g.name = s
    · simp only [if_pos e]; exact hlow
    · simp only [if_neg e]; exact h.low g hg
  · show (D.fs.map _).Pairwise _
    rw [List.pairwise_map]
    have hnd : D.fs.Pairwise fun a b => a.name ≠ b.name := by
      have := h.nodup
      unfold List.Nodup at this
      rwa [List.pairwise_map] at this
    refine (h.apart.and hnd).imp_of_mem ?_
    intro a b ha hb' ⟨hab, hne⟩ k
    by_cases ea : a.name = s
    · have eb : ¬ b.name = s := fun e => hne (by rw [ea, e])
      simp only [if_pos ea, if_neg eb]
      exact hoth b hb' eb k
    · simp only [if_neg ea]
      by_cases eb : b.name = s
      · simp only [if_pos eb]
        exact fun h1 h2 => hoth a ha ea k h2 h1
      · simp only [if_neg eb]
        exact hab k
  · show (D.fs.map _).length ≤ 400
    rw [List.length_map]
    exact h.n
end Go.Proofs.YtkfcilandmhomaaDoor
