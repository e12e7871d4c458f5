import Derived.Test.YtneomdiabcpemaaUcD
namespace Go.Proofs.Ytneomdiabcpemaa
open Go.RowKit
set_option maxRecDepth 8000
set_option maxHeartbeats 8000000 in
theorem step_2 (W w : World) (b kb : Nat) (m : Int) (N : Nat) (h : HT W w b kb m N) (hN : N * 56 ≤ 140737488355328) (wh a1 b1 : Int) (y : BY) (hy : Byts W (fun k => k < W.heap.size) y.p y.n y.c y.f) (_hb1 : b1 ≤ 9223372036854775807) :
    Calls Try.prog 16 #[.pointer (some ⟨kb, 0, none⟩), .pointer (some ⟨b, 0, none⟩), .int .i64 m, .agg #[.int .i64 2, .int .i64 wh, .int .i64 a1, .int .i64 b1, .slice y.p y.n y.c]] w fun e w' => StQ W b kb m N e w' := by
  obtain ⟨Z, A, l, cp, dl, dr, fl, h, hkb, hrw, hon, hbd⟩ := h
  obtain ⟨V, hV⟩ : ∃ V, V = w.alloc (.cells #[.int .i64 2, .int .i64 wh, .int .i64 a1, .int .i64 b1, .slice y.p y.n y.c] 48) := ⟨_, rfl⟩
  have hBV : Below w.heap.size w V := by rw [hV]; exact (Below.refl _ _).alloc (Nat.le_refl _) _
  have hX : Box V w.heap.size #[.int .i64 2, .int .i64 wh, .int .i64 a1, .int .i64 b1, .slice y.p y.n y.c] 48 := by rw [hV]; exact Box.new _ _ _
  have hVs : V.heap.size = w.heap.size + 1 := by rw [hV]; simp
  have hs := h.below hBV
  have hZx : (Z w.heap.size ∨ Bt w.heap.size V.heap.size w.heap.size) := .inr ⟨Nat.le_refl _, by omega⟩
  obtain ⟨Z1, hZ1⟩ : ∃ Z1 : Nat → Prop, Z1 = fun k => Z k ∨ Bt w.heap.size V.heap.size k := ⟨_, rfl⟩
  have hZx1 : Z1 w.heap.size := by rw [hZ1]; exact hZx
  rw [← hZ1] at hs
  have HS := hid hs
  have HX := hid hX
  have HZx := hid hZx1
  have HV := hid hV
  have HKb := hid hkb
  have HRw := hid hrw
  have HOn := hid hon
  have HBd := hid hbd
  have HY := hid hy
  have o0 := hX.cell 0
  have o1 := hX.cell 1
  have o2 := hX.cell 2
  have o3 := hX.cell 3
  have o4 := hX.cell 4
  simp at o0 o1 o2 o3 o4
  have ol := hX.lt
  have hcl : cp + 1 ≤ 4611686018427387904 ∧ dl + 1 ≤ 4611686018427387904 ∧ dr + 1 ≤ 4611686018427387904 ∧ fl + 1 ≤ 4611686018427387904 := by omega
  obtain ⟨hc1, hc2, hc3, hc4⟩ := hcl
  clear h hkb hrw hon hbd hy hX hV hVs hs hZx hZx1 hZ1 hBV
  go_enter Try.func16, Try.ntmps16
  go_upto_region 1 with fail
  rw [← HV.out]
  have HD := hid (deliver_any V Z1 b m A HS.out.et HS.out.lt a1)
  by_cases hi : inA a1 A.length
  · have HI := hid hi
    clear hi
    go_wp2_with fail
    refine HD.out.mono ?_
    intro e w2 hq
    obtain ⟨a, d, ha, rfl, hd, hbx, hE, hF⟩ := hq.2 HI.out
    have hs2 := HS.out.ether hF (hE.z fun k _ hk => .inl hk)
    obtain ⟨U, hU⟩ : ∃ U, U = w2.alloc (.cells #[.int .i64 a.fr, .int .i64 a.tt, .slice (some ⟨d, 0, none⟩) a.zs.length a.zs.length] 32) := ⟨_, rfl⟩
    have hBU : Below w2.heap.size w2 U := by rw [hU]; exact (Below.refl _ _).alloc (Nat.le_refl _) _
    have hfx : Box U w2.heap.size #[.int .i64 a.fr, .int .i64 a.tt, .slice (some ⟨d, 0, none⟩) a.zs.length a.zs.length] 32 := by rw [hU]; exact Box.new _ _ _
    have hsU := hs2.below hBU
    obtain ⟨Z2, hZ2⟩ : ∃ Z2 : Nat → Prop, Z2 = fun k => Z1 k ∨ Bt w2.heap.size U.heap.size k := ⟨_, rfl⟩
    rw [← hZ2] at hsU
    have hdU := hbx.below hBU
    have k2 := hsU.bk.bx.cell 2
    have kf := hsU.bk.bx.frozen 2
    have kl := hsU.bk.bx.lt
    simp at k2
    have hs3 := hsU.count 2 cp (dl + 1) dr fl (dl + 1) (by simp) HKb.out
    obtain ⟨T, hT⟩ : ∃ T, T = U.setCell ⟨kb, 2, none⟩ (.int .i64 ((dl + 1 : Nat) : Int)) := ⟨_, rfl⟩
    rw [← hT] at hs3
    have hbt : But (fun k => k = kb) U T := by rw [hT]; exact (But.one U kb).setAt 2 _
    have hkf : w2.heap.size ≠ kb := fun e => by
      have := hs2.bk.bx.lt
      omega
    have hkd : d ≠ kb := fun e => by
      have h1 := hs2.bk.bx
      rw [← e] at h1
      have := box_ty h1 hbx
      cases this
    have hfT := hfx.but hbt hkf
    have hdT := hdU.but hbt hkd
    have f0 := hfT.cell 0
    have f1 := hfT.cell 1
    have f2 := hfT.cell 2
    simp at f0 f1 f2
    have fll := hfT.lt
    have hsr : Src T (some ⟨d, 0, none⟩) a.zs.length a.zs.length 1 (a.zs.map (.int .u8)) := by
      refine .inr ⟨_, rfl, by simp, fun j u hu => ?_⟩
      rw [Go.WideShapes.add_plain, hdT.cell, ← hu]
      simp [bys]
    have hiA : a1.toNat < A.length := by have h1 : 0 ≤ a1 ∧ a1 < (A.length : Int) := HI.out; omega
    have ham := List.mem_of_getElem? ha
    have HKn := hid (known_any T Z2 kb l cp (dl + 1) dr fl hs3.bk (by have := HBd.out; omega) a.fr a.tt _ _ a.zs hsr (HS.out.et.ok a ham) HOn.out.ok (HOn.out.kn a ham))
    have HS3 := hid hs3
    have HOn3 := hid (HOn.out.out hiA).1
    have HU := hid hU
    have HT := hid hT
    have hdl : ((dl : Int) + 1) = ((dl + 1 : Nat) : Int) := by omega
    have HT' : Hid (T = U.setCell ⟨kb, 2, none⟩ (.int .i64 ((dl : Int) + 1))) := by show T = _; rw [hT, hdl]
    clear hq ha hd hbx hE hF hs2 hBU hfx hsU hZ2 hdU hs3 hbt hkf hkd hfT hdT hsr hiA ham hU hT HD hdl
    go_upto_region 14 with fail
    rw [← HU.out]
    go_upto_region 15 with fail
    rw [← HT'.out]
    go_wp2_with fail
    refine HKn.out.mono ?_
    rintro e w4 ⟨rfl, hb4⟩
    have H4 := hid (HS3.out.below hb4)
    clear hb4 HKn
    go_wp2
    refine bodyPost_ret (v := .bool true) (by simp [results, Try.results16, go_sem]) rfl ⟨rfl, ?_⟩
    exact ⟨_, _, l, cp, dl + 1, dr, fl, H4.out, HKb.out, HRw.out, HOn3.out, by have := HBd.out; omega⟩
  · have HI := hid hi
    clear hi
    go_wp2_with fail
    refine HD.out.mono ?_
    intro e w2 hq
    obtain ⟨rfl, hE, hF⟩ := hq.1 HI.out
    have hs2 := HS.out.ether hF hE
    obtain ⟨U, hU⟩ : ∃ U, U = w2.alloc (.cells #[.int .i64 0, .int .i64 0, .slice none 0 0] 32) := ⟨_, rfl⟩
    have hBU : Below w2.heap.size w2 U := by rw [hU]; exact (Below.refl _ _).alloc (Nat.le_refl _) _
    have HSf := hid (sameF_yes U 0 0 [] none none 0 0 (src_nil _) (src_nil _))
    have HSU := hid (hs2.below hBU)
    have HU := hid hU
    clear hq hE hF HD hs2 hBU hU
    go_wp2_with fail
    rw [← HU.out]
    refine HSf.out.mono ?_
    rintro e w3 ⟨rfl, hb3⟩
    have H3 := hid (HSU.out.below hb3)
    clear hb3 HSf
    go_wp2
    refine bodyPost_ret (v := .bool true) (by simp [results, Try.results16, go_sem]) rfl ⟨rfl, ?_⟩
    exact ⟨_, A, l, cp, dl, dr, fl, H3.out, HKb.out, HRw.out, HOn.out, by have := HBd.out; omega⟩
end Go.Proofs.Ytneomdiabcpemaa
