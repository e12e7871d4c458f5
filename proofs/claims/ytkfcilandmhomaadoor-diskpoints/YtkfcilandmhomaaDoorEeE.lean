import Derived.Test.YtkfcilandmhomaaDoorEeD
namespace Go.Proofs.YtkfcilandmhomaaDoor
open Go.RowKit
set_option maxRecDepth 8000
/-- the file of this name -/
def fnd (D : DK) (s : ByteArray) : Option FT := D.fs.find? fun f => decide (f.name = s)
theorem lk_ents (D : DK) (s : ByteArray) : lk D.ents s = (fnd D s).map fun f => .pointer (some ⟨f.fb, 0, none⟩) := by
  unfold lk fnd DK.ents
  rw [List.find?_map]
  simp [Function.comp_def]
theorem fnd_at {D : DK} {s : ByteArray} {f : FT} (h : fnd D s = some f) : f ∈ D.fs ∧ f.name = s := by
  unfold fnd at h
  exact ⟨List.mem_of_find?_eq_some h, by simpa using List.find?_some h⟩
theorem cnt_fs (D : DK) : D.cnt.fs = D.fs ∧ D.cnt.mb = D.mb := by
  unfold DK.cnt
  split
  · exact ⟨rfl, rfl⟩
  · split <;> exact ⟨rfl, rfl⟩
theorem beg_fs (D : DK) (s : ByteArray) : (begD D s).fs = D.fs ∧ (begD D s).mb = D.mb := by
  unfold begD
  split
  · exact cnt_fs D
  · exact ⟨rfl, rfl⟩
theorem pays_fs (D : DK) (c : Int) : (D.pays c).fs = D.fs ∧ (D.pays c).mb = D.mb := by
  unfold DK.pays
  split
  · exact ⟨rfl, rfl⟩
  · split <;> exact ⟨rfl, rfl⟩
theorem DK.Ok.cnt {D : DK} (h : D.Ok) (ha : 0 ≤ D.after) : D.cnt.Ok := by
  unfold DK.cnt
  by_cases h0 : D.calls = 0
  · rw [if_pos h0]; exact h
  · rw [if_neg h0]
    by_cases h1 : 0 < D.after
    · rw [if_pos h1]; exact ⟨h.arm, fun e => absurd e h0⟩
    · rw [if_neg h1]; exact ⟨h.arm, fun _ => by show D.after = 0; omega⟩
theorem DK.Ok.beg {D : DK} (h : D.Ok) (ha : 0 ≤ D.after) (s : ByteArray) : (begD D s).Ok := by
  unfold begD
  split
  · exact h.cnt ha
  · exact h
theorem DK.Ok.pays {D : DK} (h : D.Ok) (c : Int) : (D.pays c).Ok := by
  unfold DK.pays
  by_cases h0 : D.set = false
  · rw [if_pos h0]; exact h
  · rw [if_neg h0]
    split
    · exact ⟨fun e => absurd e h0, h.fail⟩
    · exact ⟨fun _ => rfl, fun _ => rfl⟩
def payN (D : DK) (c : Int) : Int := if D.set = false then c else if c ≤ D.units then c else D.units
def payE (D : DK) (c : Int) : Int := if D.set = false then 0 else if c ≤ D.units then 0 else 100
theorem payV_eq (D : DK) (c : Int) : D.payV c = .tuple #[.int .i64 (payN D c), .int .i64 (payE D c)] := by
  unfold DK.payV payN payE
  split
  · rfl
  · split <;> rfl
def chE (D : DK) (s : ByteArray) : Int := if begE D s = 0 then (if (fnd D s).isSome = true then payE (begD D s) 1 else 103) else begE D s
def chD (D : DK) (s : ByteArray) : DK := if begE D s = 0 ∧ (fnd D s).isSome = true then (begD D s).pays 1 else begD D s
def ChQ (D : DK) (s : ByteArray) (C : Nat → Prop) (db : Nat) (w : World) (e : Ending) (w' : World) : Prop :=
  ∃ t, e = .returned (.tuple #[labV t, .int .i64 (chE D s)]) ∧ (chE D s = 0 → t = s ∧ Nm s ∧ ∃ f, fnd D s = some f) ∧ RigQ (chD D s) C db w w'
set_option maxHeartbeats 8000000 in
theorem dchange_any (D : DK) (s : ByteArray) (w : World) (C : Nat → Prop) (db : Nat) (hD : DkI w C db D) (hO : D.Ok) (hmx : s.size ≤ 140737488355328) :
    Calls Tryd.prog 36 #[.pointer (some ⟨db, 0, none⟩), .string s] w fun e w' => ChQ D s C db w e w' := by
  have hdb := hD.bx.lt
  have HOb := hid (hO.beg hD.ba.1 s)
  have HD := hid hD.low_
  clear hD
  obtain ⟨W, hW⟩ : ∃ V, V = w.alloc (.cells #[.int .u8 0, .int .u8 0, .int .u8 0, .int .u8 0, .int .u8 0, .int .u8 0, .int .u8 0, .int .u8 0, .int .u8 0, .int .u8 0, .int .u8 0, .int .u8 0] 69) := ⟨_, rfl⟩
  have HB : Hid (Below w.heap.size w W) := by show Below _ _ _; rw [hW]; exact (Below.refl _ _).alloc (Nat.le_refl _) _
  have HX : Hid (Box W w.heap.size #[.int .u8 0, .int .u8 0, .int .u8 0, .int .u8 0, .int .u8 0, .int .u8 0, .int .u8 0, .int .u8 0, .int .u8 0, .int .u8 0, .int .u8 0, .int .u8 0] 69) := by show Box _ _ _ _; rw [hW]; exact Box.new _ _ _
  have HW := hid hW
  clear hW
  have HRc := hid (dbegin_any D s W _ db (HD.out.below HB.out) hO hmx)
  go_enter Tryd.func36, Tryd.ntmps36
  go_upto_region 1 with fail
  rw [← HW.out]
  go_wp2_with fail
  refine HRc.out.mono ?_
  rintro e w2 ⟨t, rfl, ht, hQ2⟩
  have HT := hid ht
  have hWl := HX.out.lt
  have HX2 : Hid (Box w2 w.heap.size #[.int .u8 0, .int .u8 0, .int .u8 0, .int .u8 0, .int .u8 0, .int .u8 0, .int .u8 0, .int .u8 0, .int .u8 0, .int .u8 0, .int .u8 0, .int .u8 0] 69) := HX.out.but hQ2.2 (by show ¬ w.heap.size = db; omega)
  have HBt2 : Hid (But (fun k => k = db) w w2) := (But.ofBelow HB.out).trans hQ2.2
  have HD2 := hid hQ2.1
  clear hQ2 ht hWl
  rw [labV_at]
  obtain ⟨W3, hW3⟩ : ∃ V, V = w2.alloc (.cells #[.int .u8 (bat t 0), .int .u8 (bat t 1), .int .u8 (bat t 2), .int .u8 (bat t 3), .int .u8 (bat t 4), .int .u8 (bat t 5), .int .u8 (bat t 6), .int .u8 (bat t 7), .int .u8 (bat t 8), .int .u8 (bat t 9), .int .u8 (bat t 10), .int .u8 (bat t 11)] 69) := ⟨_, rfl⟩
  have HBx : Hid (Below w2.heap.size w2 W3) := by show Below _ _ _; rw [hW3]; exact (Below.refl _ _).alloc (Nat.le_refl _) _
  have HBt3 : Hid (But (fun k => k = db) w W3) := HBt2.out.trans (But.ofBelow HBx.out)
  have HX3 : Hid (Box W3 w.heap.size #[.int .u8 0, .int .u8 0, .int .u8 0, .int .u8 0, .int .u8 0, .int .u8 0, .int .u8 0, .int .u8 0, .int .u8 0, .int .u8 0, .int .u8 0, .int .u8 0] 69) := HX2.out.below HBx.out
  have HY3 : Hid (Box W3 w2.heap.size #[.int .u8 (bat t 0), .int .u8 (bat t 1), .int .u8 (bat t 2), .int .u8 (bat t 3), .int .u8 (bat t 4), .int .u8 (bat t 5), .int .u8 (bat t 6), .int .u8 (bat t 7), .int .u8 (bat t 8), .int .u8 (bat t 9), .int .u8 (bat t 10), .int .u8 (bat t 11)] 69) := by show Box _ _ _ _; rw [hW3]; exact Box.new _ _ _
  have HD3 : Hid (DkI W3 (fun k => C k ∧ k < w.heap.size) db (begD D s)) := HD2.out.below HBx.out
  have HW3 := hid hW3
  have HSz : Hid (w.heap.size < w2.heap.size) := HX2.out.lt
  clear hW3
  go_upto_region 2 with fail
  rw [← HW3.out]
  by_cases hr : begE D s = 0
  · rw [hr]
    obtain ⟨hts, hNm⟩ := HT.out hr
    subst hts
    obtain ⟨E, hE⟩ : ∃ E, E = begD D t := ⟨_, rfl⟩
    rw [← hE] at HD3
    have HEf : Hid (fnd E t = fnd D t) := by show fnd E t = fnd D t; unfold fnd; rw [hE, (beg_fs D t).1]
    have HEe := hid hE
    have HNm := hid hNm
    have HM : Hid (MpI W3 E.mb E.ents) := HD3.out.mp
    have HOe : Hid E.Ok := by show E.Ok; rw [hE]; exact HOb.out
    have d0 := HD3.out.bx.cell 0
    simp at d0
    have y0 := HY3.out.cell 0
    have y1 := HY3.out.cell 1
    have y2 := HY3.out.cell 2
    have y3 := HY3.out.cell 3
    have y4 := HY3.out.cell 4
    have y5 := HY3.out.cell 5
    have y6 := HY3.out.cell 6
    have y7 := HY3.out.cell 7
    have y8 := HY3.out.cell 8
    have y9 := HY3.out.cell 9
    have y10 := HY3.out.cell 10
    have y11 := HY3.out.cell 11
    have yl := HY3.out.lt
    simp at y0 y1 y2 y3 y4 y5 y6 y7 y8 y9 y10 y11
    clear hE hNm
    go_upto_region 4 with fail
    cases hf : fnd E t with
    | none =>
      have hlk : lk E.ents t = none := by rw [lk_ents, hf]; rfl
      have HRd : Hid (chD D t = E) := by show chD D t = E; rw [chD, if_neg (by rw [← HEf.out, hf]; simp)]; exact HEe.out.symm
      have HRe : Hid (chE D t = 103) := by show chE D t = _; rw [chE, if_pos hr, if_neg (by rw [← HEf.out, hf]; simp)]
      refine wp_region_calmE 30 (fun wx => Below W3.heap.size W3 wx) [(0, true), (1, true), (2, true), (3, false), (4, false), (5, false), (6, true)] .done (by kernel_rfl) (by kernel_rfl) (Below.refl _ _).drew ?_
      refine wpPre_e rfl rfl (fun K1 hK1 => ?_)
      apply Exists.intro
      refine And.intro (fun wx hx => ?_) ?_
      · go_simp
        try rfl
      go_simp
      refine hK1 _ ?_
      clear hK1 K1
      refine wpPre_e rfl rfl (fun K1 hK1 => ?_)
      apply Exists.intro
      refine And.intro (fun wx hx => ?_) ?_
      · go_simp
        try rfl
      go_simp
      refine hK1 _ ?_
      clear hK1 K1
      refine wpPre_e rfl rfl (fun K1 hK1 => ?_)
      apply Exists.intro
      refine And.intro (fun wx hx => ?_) ?_
      · go_simp
        try rfl
      go_simp
      refine hK1 _ ?_
      clear hK1 K1
      refine wpPre_e rfl rfl (fun K1 hK1 => ?_)
      apply Exists.intro
      refine And.intro (fun wx hx => ?_) ?_
      · have e0 := below_fact hx rfl d0
        go_simp
        try rfl
      go_simp
      refine hK1 _ ?_
      clear hK1 K1
      refine wpPre_e rfl rfl (fun K1 hK1 => ?_)
      apply Exists.intro
      refine And.intro (fun wx hx => ?_) ?_
      · have e0 := below_fact hx rfl y0
        have e1 := below_fact hx rfl y1
        have e2 := below_fact hx rfl y2
        have e3 := below_fact hx rfl y3
        have e4 := below_fact hx rfl y4
        have e5 := below_fact hx rfl y5
        have e6 := below_fact hx rfl y6
        have e7 := below_fact hx rfl y7
        have e8 := below_fact hx rfl y8
        have e9 := below_fact hx rfl y9
        have e10 := below_fact hx rfl y10
        have e11 := below_fact hx rfl y11
        go_simp
        try rfl
      go_simp
      refine hK1 _ ?_
      clear hK1 K1
      refine wpPre_e rfl rfl (fun K1 hK1 => ?_)
      apply Exists.intro
      refine And.intro (fun wx hx => ?_) ?_
      · have hx2 := hx.resolve_left (by simp)
        have e0 := run_look (HM.out.kept (hx2.block _ HM.out.lt)) HNm.out false
        simp only [labV, labC, hlk, Option.getD_none, Bool.false_eq_true, if_false] at e0
        go_simp
        try rfl
      go_simp
      refine hK1 _ ?_
      clear hK1 K1
      refine wpPre_e rfl rfl (fun K1 hK1 => ?_)
      apply Exists.intro
      refine And.intro (fun wx hx => ?_) ?_
      · go_simp
        try rfl
      go_simp
      refine hK1 _ ?_
      clear hK1 K1
      refine wpPre_nil ?_
      refine wpTr_done ?_
      clear hlk y0 y1 y2 y3 y4 y5 y6 y7 y8 y9 y10 y11 yl d0
      obtain ⟨W4, hW4⟩ : ∃ V, V = W3.drew := ⟨_, rfl⟩
      rw [← hW4]
      have HX5 : Hid (Box W4 w.heap.size #[.int .u8 0, .int .u8 0, .int .u8 0, .int .u8 0, .int .u8 0, .int .u8 0, .int .u8 0, .int .u8 0, .int .u8 0, .int .u8 0, .int .u8 0, .int .u8 0] 69) := by show Box _ _ _ _; rw [hW4]; exact HX3.out
      have HY5 : Hid (Box W4 w2.heap.size #[.int .u8 (bat t 0), .int .u8 (bat t 1), .int .u8 (bat t 2), .int .u8 (bat t 3), .int .u8 (bat t 4), .int .u8 (bat t 5), .int .u8 (bat t 6), .int .u8 (bat t 7), .int .u8 (bat t 8), .int .u8 (bat t 9), .int .u8 (bat t 10), .int .u8 (bat t 11)] 69) := by show Box _ _ _ _; rw [hW4]; exact HY3.out
      have HD5 : Hid (DkI W4 (fun k => C k ∧ k < w.heap.size) db E) := by show DkI _ _ _ _; rw [hW4]; exact HD3.out.kept fun _ _ _ => rfl
      have HBt5 : Hid (But (fun k => k = db) w W4) := by show But _ _ _; rw [hW4]; exact HBt3.out.drew
      clear hW4
      have x0 := HX5.out.cell 0
      have x1 := HX5.out.cell 1
      have x2 := HX5.out.cell 2
      have x3 := HX5.out.cell 3
      have x4 := HX5.out.cell 4
      have x5 := HX5.out.cell 5
      have x6 := HX5.out.cell 6
      have x7 := HX5.out.cell 7
      have x8 := HX5.out.cell 8
      have x9 := HX5.out.cell 9
      have x10 := HX5.out.cell 10
      have x11 := HX5.out.cell 11
      have xz0 := HX5.out.frozen 0
      have xz1 := HX5.out.frozen 1
      have xz2 := HX5.out.frozen 2
      have xz3 := HX5.out.frozen 3
      have xz4 := HX5.out.frozen 4
      have xz5 := HX5.out.frozen 5
      have xz6 := HX5.out.frozen 6
      have xz7 := HX5.out.frozen 7
      have xz8 := HX5.out.frozen 8
      have xz9 := HX5.out.frozen 9
      have xz10 := HX5.out.frozen 10
      have xz11 := HX5.out.frozen 11
      have xl := HX5.out.lt
      simp at x0 x1 x2 x3 x4 x5 x6 x7 x8 x9 x10 x11
      have y0 := HY5.out.cell 0
      have y1 := HY5.out.cell 1
      have y2 := HY5.out.cell 2
      have y3 := HY5.out.cell 3
      have y4 := HY5.out.cell 4
      have y5 := HY5.out.cell 5
      have y6 := HY5.out.cell 6
      have y7 := HY5.out.cell 7
      have y8 := HY5.out.cell 8
      have y9 := HY5.out.cell 9
      have y10 := HY5.out.cell 10
      have y11 := HY5.out.cell 11
      have yl := HY5.out.lt
      simp at y0 y1 y2 y3 y4 y5 y6 y7 y8 y9 y10 y11
      go_wp2
      have HE := ((((((((((((HX5.out.set 0 (.int .u8 (bat t 0))).set 1 (.int .u8 (bat t 1))).set 2 (.int .u8 (bat t 2))).set 3 (.int .u8 (bat t 3))).set 4 (.int .u8 (bat t 4))).set 5 (.int .u8 (bat t 5))).set 6 (.int .u8 (bat t 6))).set 7 (.int .u8 (bat t 7))).set 8 (.int .u8 (bat t 8))).set 9 (.int .u8 (bat t 9))).set 10 (.int .u8 (bat t 10))).set 11 (.int .u8 (bat t 11)))
      have e0 := HE.cell 0
      have e1 := HE.cell 1
      have e2 := HE.cell 2
      have e3 := HE.cell 3
      have e4 := HE.cell 4
      have e5 := HE.cell 5
      have e6 := HE.cell 6
      have e7 := HE.cell 7
      have e8 := HE.cell 8
      have e9 := HE.cell 9
      have e10 := HE.cell 10
      have e11 := HE.cell 11
      have el := HE.lt
      simp at e0 e1 e2 e3 e4 e5 e6 e7 e8 e9 e10 e11
      exact bodyPost_ret (v := .tuple #[.agg #[.int .u8 (bat t 0), .int .u8 (bat t 1), .int .u8 (bat t 2), .int .u8 (bat t 3), .int .u8 (bat t 4), .int .u8 (bat t 5), .int .u8 (bat t 6), .int .u8 (bat t 7), .int .u8 (bat t 8), .int .u8 (bat t 9), .int .u8 (bat t 10), .int .u8 (bat t 11)], .int .i64 103]) (by simp [results, Tryd.results36, go_sem, e0, e1, e2, e3, e4, e5, e6, e7, e8, e9, e10, e11]) rfl ⟨t, by rw [HRe.out, labV_at], fun h => absurd h (by rw [HRe.out]; decide), by rw [HRd.out]; exact RigQ.fin HD5.out HBt5.out (((((((((((((Below.refl _ _).setCell (p := ⟨w.heap.size, 0, none⟩) (by simp) _).setCell (p := ⟨w.heap.size, 1, none⟩) (by simp) _).setCell (p := ⟨w.heap.size, 2, none⟩) (by simp) _).setCell (p := ⟨w.heap.size, 3, none⟩) (by simp) _).setCell (p := ⟨w.heap.size, 4, none⟩) (by simp) _).setCell (p := ⟨w.heap.size, 5, none⟩) (by simp) _).setCell (p := ⟨w.heap.size, 6, none⟩) (by simp) _).setCell (p := ⟨w.heap.size, 7, none⟩) (by simp) _).setCell (p := ⟨w.heap.size, 8, none⟩) (by simp) _).setCell (p := ⟨w.heap.size, 9, none⟩) (by simp) _).setCell (p := ⟨w.heap.size, 10, none⟩) (by simp) _).setCell (p := ⟨w.heap.size, 11, none⟩) (by simp) _)⟩
    | some f =>
      have hlk : lk E.ents t = some (.pointer (some ⟨f.fb, 0, none⟩)) := by rw [lk_ents, hf]; rfl
      have HRd : Hid (chD D t = E.pays 1) := by show chD D t = _; rw [chD, if_pos ⟨hr, by rw [← HEf.out, hf]; rfl⟩, HEe.out]
      have HRe : Hid (chE D t = payE E 1) := by show chE D t = _; rw [chE, if_pos hr, if_pos (by rw [← HEf.out, hf]; rfl), HEe.out]
      refine wp_region_calmE 30 (fun wx => Below W3.heap.size W3 wx) [(0, true), (1, true), (2, true), (3, false), (4, false), (5, false), (6, true)] .done (by kernel_rfl) (by kernel_rfl) (Below.refl _ _).drew ?_
      refine wpPre_e rfl rfl (fun K1 hK1 => ?_)
      apply Exists.intro
      refine And.intro (fun wx hx => ?_) ?_
      · go_simp
        try rfl
      go_simp
      refine hK1 _ ?_
      clear hK1 K1
      refine wpPre_e rfl rfl (fun K1 hK1 => ?_)
      apply Exists.intro
      refine And.intro (fun wx hx => ?_) ?_
      · go_simp
        try rfl
      go_simp
      refine hK1 _ ?_
      clear hK1 K1
      refine wpPre_e rfl rfl (fun K1 hK1 => ?_)
      apply Exists.intro
      refine And.intro (fun wx hx => ?_) ?_
      · go_simp
        try rfl
      go_simp
      refine hK1 _ ?_
      clear hK1 K1
      refine wpPre_e rfl rfl (fun K1 hK1 => ?_)
      apply Exists.intro
      refine And.intro (fun wx hx => ?_) ?_
      · have e0 := below_fact hx rfl d0
        go_simp
        try rfl
      go_simp
      refine hK1 _ ?_
      clear hK1 K1
      refine wpPre_e rfl rfl (fun K1 hK1 => ?_)
      apply Exists.intro
      refine And.intro (fun wx hx => ?_) ?_
      · have e0 := below_fact hx rfl y0
        have e1 := below_fact hx rfl y1
        have e2 := below_fact hx rfl y2
        have e3 := below_fact hx rfl y3
        have e4 := below_fact hx rfl y4
        have e5 := below_fact hx rfl y5
        have e6 := below_fact hx rfl y6
        have e7 := below_fact hx rfl y7
        have e8 := below_fact hx rfl y8
        have e9 := below_fact hx rfl y9
        have e10 := below_fact hx rfl y10
        have e11 := below_fact hx rfl y11
        go_simp
        try rfl
      go_simp
      refine hK1 _ ?_
      clear hK1 K1
      refine wpPre_e rfl rfl (fun K1 hK1 => ?_)
      apply Exists.intro
      refine And.intro (fun wx hx => ?_) ?_
      · have hx2 := hx.resolve_left (by simp)
        have e0 := run_look (HM.out.kept (hx2.block _ HM.out.lt)) HNm.out false
        simp only [labV, labC, hlk, Option.getD_some, Bool.false_eq_true, if_false] at e0
        go_simp
        try rfl
      go_simp
      refine hK1 _ ?_
      clear hK1 K1
      refine wpPre_e rfl rfl (fun K1 hK1 => ?_)
      apply Exists.intro
      refine And.intro (fun wx hx => ?_) ?_
      · go_simp
        try rfl
      go_simp
      refine hK1 _ ?_
      clear hK1 K1
      refine wpPre_nil ?_
      refine wpTr_done ?_
      clear hlk y0 y1 y2 y3 y4 y5 y6 y7 y8 y9 y10 y11 yl d0
      obtain ⟨W4, hW4⟩ : ∃ V, V = W3.drew := ⟨_, rfl⟩
      rw [← hW4]
      have HX5 : Hid (Box W4 w.heap.size #[.int .u8 0, .int .u8 0, .int .u8 0, .int .u8 0, .int .u8 0, .int .u8 0, .int .u8 0, .int .u8 0, .int .u8 0, .int .u8 0, .int .u8 0, .int .u8 0] 69) := by show Box _ _ _ _; rw [hW4]; exact HX3.out
      have HY5 : Hid (Box W4 w2.heap.size #[.int .u8 (bat t 0), .int .u8 (bat t 1), .int .u8 (bat t 2), .int .u8 (bat t 3), .int .u8 (bat t 4), .int .u8 (bat t 5), .int .u8 (bat t 6), .int .u8 (bat t 7), .int .u8 (bat t 8), .int .u8 (bat t 9), .int .u8 (bat t 10), .int .u8 (bat t 11)] 69) := by show Box _ _ _ _; rw [hW4]; exact HY3.out
      have HD5 : Hid (DkI W4 (fun k => C k ∧ k < w.heap.size) db E) := by show DkI _ _ _ _; rw [hW4]; exact HD3.out.kept fun _ _ _ => rfl
      have HBt5 : Hid (But (fun k => k = db) w W4) := by show But _ _ _; rw [hW4]; exact HBt3.out.drew
      clear hW4
      have HPy := hid (dpay_any E 1 W4 _ db HD5.out HOe.out (by omega))
      go_wp2_with fail
      refine HPy.out.mono ?_
      rintro e w4 ⟨rfl, hQ4⟩
      rw [payV_eq]
      have HX4 : Hid (Box w4 w.heap.size #[.int .u8 0, .int .u8 0, .int .u8 0, .int .u8 0, .int .u8 0, .int .u8 0, .int .u8 0, .int .u8 0, .int .u8 0, .int .u8 0, .int .u8 0, .int .u8 0] 69) := HX5.out.but hQ4.2 (by show ¬ w.heap.size = db; omega)
      have HY4 : Hid (Box w4 w2.heap.size #[.int .u8 (bat t 0), .int .u8 (bat t 1), .int .u8 (bat t 2), .int .u8 (bat t 3), .int .u8 (bat t 4), .int .u8 (bat t 5), .int .u8 (bat t 6), .int .u8 (bat t 7), .int .u8 (bat t 8), .int .u8 (bat t 9), .int .u8 (bat t 10), .int .u8 (bat t 11)] 69) := HY5.out.but hQ4.2 (by have := HSz.out; show ¬ w2.heap.size = db; omega)
      have HBt4 : Hid (But (fun k => k = db) w w4) := HBt5.out.trans hQ4.2
      have HD4 := hid hQ4.1
      clear hQ4
      have x0 := HX4.out.cell 0
      have x1 := HX4.out.cell 1
      have x2 := HX4.out.cell 2
      have x3 := HX4.out.cell 3
      have x4 := HX4.out.cell 4
      have x5 := HX4.out.cell 5
      have x6 := HX4.out.cell 6
      have x7 := HX4.out.cell 7
      have x8 := HX4.out.cell 8
      have x9 := HX4.out.cell 9
      have x10 := HX4.out.cell 10
      have x11 := HX4.out.cell 11
      have xz0 := HX4.out.frozen 0
      have xz1 := HX4.out.frozen 1
      have xz2 := HX4.out.frozen 2
      have xz3 := HX4.out.frozen 3
      have xz4 := HX4.out.frozen 4
      have xz5 := HX4.out.frozen 5
      have xz6 := HX4.out.frozen 6
      have xz7 := HX4.out.frozen 7
      have xz8 := HX4.out.frozen 8
      have xz9 := HX4.out.frozen 9
      have xz10 := HX4.out.frozen 10
      have xz11 := HX4.out.frozen 11
      have xl := HX4.out.lt
      simp at x0 x1 x2 x3 x4 x5 x6 x7 x8 x9 x10 x11
      have y0 := HY4.out.cell 0
      have y1 := HY4.out.cell 1
      have y2 := HY4.out.cell 2
      have y3 := HY4.out.cell 3
      have y4 := HY4.out.cell 4
      have y5 := HY4.out.cell 5
      have y6 := HY4.out.cell 6
      have y7 := HY4.out.cell 7
      have y8 := HY4.out.cell 8
      have y9 := HY4.out.cell 9
      have y10 := HY4.out.cell 10
      have y11 := HY4.out.cell 11
      have yl := HY4.out.lt
      simp at y0 y1 y2 y3 y4 y5 y6 y7 y8 y9 y10 y11
      go_wp2
      have HE := ((((((((((((HX4.out.set 0 (.int .u8 (bat t 0))).set 1 (.int .u8 (bat t 1))).set 2 (.int .u8 (bat t 2))).set 3 (.int .u8 (bat t 3))).set 4 (.int .u8 (bat t 4))).set 5 (.int .u8 (bat t 5))).set 6 (.int .u8 (bat t 6))).set 7 (.int .u8 (bat t 7))).set 8 (.int .u8 (bat t 8))).set 9 (.int .u8 (bat t 9))).set 10 (.int .u8 (bat t 10))).set 11 (.int .u8 (bat t 11)))
      have e0 := HE.cell 0
      have e1 := HE.cell 1
      have e2 := HE.cell 2
      have e3 := HE.cell 3
      have e4 := HE.cell 4
      have e5 := HE.cell 5
      have e6 := HE.cell 6
      have e7 := HE.cell 7
      have e8 := HE.cell 8
      have e9 := HE.cell 9
      have e10 := HE.cell 10
      have e11 := HE.cell 11
      have el := HE.lt
      simp at e0 e1 e2 e3 e4 e5 e6 e7 e8 e9 e10 e11
      exact bodyPost_ret (v := .tuple #[.agg #[.int .u8 (bat t 0), .int .u8 (bat t 1), .int .u8 (bat t 2), .int .u8 (bat t 3), .int .u8 (bat t 4), .int .u8 (bat t 5), .int .u8 (bat t 6), .int .u8 (bat t 7), .int .u8 (bat t 8), .int .u8 (bat t 9), .int .u8 (bat t 10), .int .u8 (bat t 11)], .int .i64 (payE E 1)]) (by simp [results, Tryd.results36, go_sem, e0, e1, e2, e3, e4, e5, e6, e7, e8, e9, e10, e11]) rfl ⟨t, by rw [HRe.out, labV_at], fun _ => ⟨rfl, HNm.out, f, by rw [← HEf.out, hf]⟩, by rw [HRd.out]; exact RigQ.fin HD4.out HBt4.out (((((((((((((Below.refl _ _).setCell (p := ⟨w.heap.size, 0, none⟩) (by simp) _).setCell (p := ⟨w.heap.size, 1, none⟩) (by simp) _).setCell (p := ⟨w.heap.size, 2, none⟩) (by simp) _).setCell (p := ⟨w.heap.size, 3, none⟩) (by simp) _).setCell (p := ⟨w.heap.size, 4, none⟩) (by simp) _).setCell (p := ⟨w.heap.size, 5, none⟩) (by simp) _).setCell (p := ⟨w.heap.size, 6, none⟩) (by simp) _).setCell (p := ⟨w.heap.size, 7, none⟩) (by simp) _).setCell (p := ⟨w.heap.size, 8, none⟩) (by simp) _).setCell (p := ⟨w.heap.size, 9, none⟩) (by simp) _).setCell (p := ⟨w.heap.size, 10, none⟩) (by simp) _).setCell (p := ⟨w.heap.size, 11, none⟩) (by simp) _)⟩
  · have HRd : Hid (chD D s = begD D s) := by show chD D s = _; rw [chD, if_neg (fun h => hr h.1)]
    have HRe : Hid (chE D s = begE D s) := by show chE D s = _; rw [chE, if_neg hr]
    have x0 := HX3.out.cell 0
    have x1 := HX3.out.cell 1
    have x2 := HX3.out.cell 2
    have x3 := HX3.out.cell 3
    have x4 := HX3.out.cell 4
    have x5 := HX3.out.cell 5
    have x6 := HX3.out.cell 6
    have x7 := HX3.out.cell 7
    have x8 := HX3.out.cell 8
    have x9 := HX3.out.cell 9
    have x10 := HX3.out.cell 10
    have x11 := HX3.out.cell 11
    have xz0 := HX3.out.frozen 0
    have xz1 := HX3.out.frozen 1
    have xz2 := HX3.out.frozen 2
    have xz3 := HX3.out.frozen 3
    have xz4 := HX3.out.frozen 4
    have xz5 := HX3.out.frozen 5
    have xz6 := HX3.out.frozen 6
    have xz7 := HX3.out.frozen 7
    have xz8 := HX3.out.frozen 8
    have xz9 := HX3.out.frozen 9
    have xz10 := HX3.out.frozen 10
    have xz11 := HX3.out.frozen 11
    have xl := HX3.out.lt
    simp at x0 x1 x2 x3 x4 x5 x6 x7 x8 x9 x10 x11
    have y0 := HY3.out.cell 0
    have y1 := HY3.out.cell 1
    have y2 := HY3.out.cell 2
    have y3 := HY3.out.cell 3
    have y4 := HY3.out.cell 4
    have y5 := HY3.out.cell 5
    have y6 := HY3.out.cell 6
    have y7 := HY3.out.cell 7
    have y8 := HY3.out.cell 8
    have y9 := HY3.out.cell 9
    have y10 := HY3.out.cell 10
    have y11 := HY3.out.cell 11
    have yl := HY3.out.lt
    simp at y0 y1 y2 y3 y4 y5 y6 y7 y8 y9 y10 y11
    go_wp2
    have HE := ((((((((((((HX3.out.set 0 (.int .u8 (bat t 0))).set 1 (.int .u8 (bat t 1))).set 2 (.int .u8 (bat t 2))).set 3 (.int .u8 (bat t 3))).set 4 (.int .u8 (bat t 4))).set 5 (.int .u8 (bat t 5))).set 6 (.int .u8 (bat t 6))).set 7 (.int .u8 (bat t 7))).set 8 (.int .u8 (bat t 8))).set 9 (.int .u8 (bat t 9))).set 10 (.int .u8 (bat t 10))).set 11 (.int .u8 (bat t 11)))
    have e0 := HE.cell 0
    have e1 := HE.cell 1
    have e2 := HE.cell 2
    have e3 := HE.cell 3
    have e4 := HE.cell 4
    have e5 := HE.cell 5
    have e6 := HE.cell 6
    have e7 := HE.cell 7
    have e8 := HE.cell 8
    have e9 := HE.cell 9
    have e10 := HE.cell 10
    have e11 := HE.cell 11
    have el := HE.lt
    simp at e0 e1 e2 e3 e4 e5 e6 e7 e8 e9 e10 e11
    exact bodyPost_ret (v := .tuple #[.agg #[.int .u8 (bat t 0), .int .u8 (bat t 1), .int .u8 (bat t 2), .int .u8 (bat t 3), .int .u8 (bat t 4), .int .u8 (bat t 5), .int .u8 (bat t 6), .int .u8 (bat t 7), .int .u8 (bat t 8), .int .u8 (bat t 9), .int .u8 (bat t 10), .int .u8 (bat t 11)], .int .i64 (begE D s)]) (by simp [results, Tryd.results36, go_sem, e0, e1, e2, e3, e4, e5, e6, e7, e8, e9, e10, e11]) rfl ⟨t, by rw [HRe.out, labV_at], fun h => absurd (HRe.out ▸ h) hr, by rw [HRd.out]; exact RigQ.fin HD3.out HBt3.out (((((((((((((Below.refl _ _).setCell (p := ⟨w.heap.size, 0, none⟩) (by simp) _).setCell (p := ⟨w.heap.size, 1, none⟩) (by simp) _).setCell (p := ⟨w.heap.size, 2, none⟩) (by simp) _).setCell (p := ⟨w.heap.size, 3, none⟩) (by simp) _).setCell (p := ⟨w.heap.size, 4, none⟩) (by simp) _).setCell (p := ⟨w.heap.size, 5, none⟩) (by simp) _).setCell (p := ⟨w.heap.size, 6, none⟩) (by simp) _).setCell (p := ⟨w.heap.size, 7, none⟩) (by simp) _).setCell (p := ⟨w.heap.size, 8, none⟩) (by simp) _).setCell (p := ⟨w.heap.size, 9, none⟩) (by simp) _).setCell (p := ⟨w.heap.size, 10, none⟩) (by simp) _).setCell (p := ⟨w.heap.size, 11, none⟩) (by simp) _)⟩
end Go.Proofs.YtkfcilandmhomaaDoor
