import Derived.Test.YtneomdiabcpemaaUcD
namespace Go.Proofs.Ytneomdiabcpemaa
open Go.RowKit
set_option maxRecDepth 8000
set_option maxHeartbeats 8000000 in
theorem step_5 (W w : World) (b kb : Nat) (m : Int) (N : Nat) (h : HT W w b kb m N) (hN : N * 56 ≤ 140737488355328) (wh a1 b1 : Int) (y : BY) (hy : Byts W (fun k => k < W.heap.size) y.p y.n y.c y.f) (_hb1 : b1 ≤ 9223372036854775807) :
    Calls Try.prog 16 #[.pointer (some ⟨kb, 0, none⟩), .pointer (some ⟨b, 0, none⟩), .int .i64 m, .agg #[.int .i64 5, .int .i64 wh, .int .i64 a1, .int .i64 b1, .slice y.p y.n y.c]] w fun e w' => StQ W b kb m N e w' := by
  obtain ⟨Z, A, l, cp, dl, dr, fl, h, hkb, hrw, hon, hbd⟩ := h
  obtain ⟨V, hV⟩ : ∃ V, V = w.alloc (.cells #[.int .i64 5, .int .i64 wh, .int .i64 a1, .int .i64 b1, .slice y.p y.n y.c] 48) := ⟨_, rfl⟩
  have hBV : Below w.heap.size w V := by rw [hV]; exact (Below.refl _ _).alloc (Nat.le_refl _) _
  have hX : Box V w.heap.size #[.int .i64 5, .int .i64 wh, .int .i64 a1, .int .i64 b1, .slice y.p y.n y.c] 48 := by rw [hV]; exact Box.new _ _ _
  have hVs : V.heap.size = w.heap.size + 1 := by rw [hV]; simp
  have hs := h.below hBV
  have hZx : (Z w.heap.size ∨ Bt w.heap.size V.heap.size w.heap.size) := .inr ⟨Nat.le_refl _, by omega⟩
  obtain ⟨Z1, hZ1⟩ : ∃ Z1 : Nat → Prop, Z1 = fun k => Z k ∨ Bt w.heap.size V.heap.size k := ⟨_, rfl⟩
  have hZx1 : Z1 w.heap.size := by rw [hZ1]; exact hZx
  rw [← hZ1] at hs
  have HS := hid hs
  have HX := hid hX
  have HZx := hid hZx1
  have HV := hid hV
  have HKb := hid hkb
  have HRw := hid hrw
  have HOn := hid hon
  have HBd := hid hbd
  have HY := hid hy
  have o0 := hX.cell 0
  have o1 := hX.cell 1
  have o2 := hX.cell 2
  have o3 := hX.cell 3
  have o4 := hX.cell 4
  simp at o0 o1 o2 o3 o4
  have ol := hX.lt
  have hcl : cp + 1 ≤ 4611686018427387904 ∧ dl + 1 ≤ 4611686018427387904 ∧ dr + 1 ≤ 4611686018427387904 ∧ fl + 1 ≤ 4611686018427387904 := by omega
  obtain ⟨hc1, hc2, hc3, hc4⟩ := hcl
  clear h hkb hrw hon hbd hy hX hV hVs hs hZx hZx1 hZ1 hBV
  go_enter Try.func16, Try.ntmps16
  go_upto_region 1 with fail
  rw [← HV.out]
  have HD := hid (flip_any V Z1 b m A HS.out.et a1 b1 _hb1)
  by_cases hi : canF A a1 b1
  · have HI := hid hi
    clear hi
    go_wp2_with fail
    refine HD.out.mono ?_
    intro e w2 hq
    obtain ⟨rfl, ⟨a, ha, hE⟩, hF⟩ := hq.2 HI.out
    have hs2 := HS.out.ether hF hE
    have k3 := hs2.bk.bx.cell 4
    have kf := hs2.bk.bx.frozen 4
    have kl := hs2.bk.bx.lt
    simp at k3
    have H2 := hid (hs2.count 4 cp dl dr (fl + 1) (fl + 1) (by simp) HKb.out)
    have HA := hid ha
    clear hq hE hF hs2 HD ha
    go_wp2
    refine bodyPost_ret (v := .bool true) (by simp [results, Try.results16, go_sem]) rfl ⟨rfl, ?_⟩
    exact ⟨Z1, _, l, cp, dl, dr, fl + 1, H2.out, HKb.out, HRw.out, HOn.out.flip HS.out.et.ok HA.out b1.toNat, by have := HBd.out; omega⟩
  · have HI := hid hi
    clear hi
    go_wp2_with fail
    refine HD.out.mono ?_
    intro e w2 hq
    obtain ⟨rfl, hE, hF⟩ := hq.1 HI.out
    have H2 := hid (HS.out.ether hF hE)
    clear hq hE hF HD
    go_wp2
    refine bodyPost_ret (v := .bool true) (by simp [results, Try.results16, go_sem]) rfl ⟨rfl, ?_⟩
    exact ⟨Z1, A, l, cp, dl, dr, fl, H2.out, HKb.out, HRw.out, HOn.out, by have := HBd.out; omega⟩
end Go.Proofs.Ytneomdiabcpemaa
