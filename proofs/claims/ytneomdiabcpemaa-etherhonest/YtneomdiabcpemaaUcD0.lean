import Derived.Test.YtneomdiabcpemaaUcD
namespace Go.Proofs.Ytneomdiabcpemaa
open Go.RowKit
set_option maxRecDepth 8000
set_option maxHeartbeats 8000000 in
theorem step_0 (kd : Int) (hk1 : kd ≠ 1) (hk2 : kd ≠ 2) (hk3 : kd ≠ 3) (hk4 : kd ≠ 4) (hk5 : kd ≠ 5) (W w : World) (b kb : Nat) (m : Int) (N : Nat) (h : HT W w b kb m N) (hN : N * 56 ≤ 140737488355328) (wh a1 b1 : Int) (y : BY) (hy : Byts W (fun k => k < W.heap.size) y.p y.n y.c y.f) (_hb1 : b1 ≤ 9223372036854775807) :
    Calls Try.prog 16 #[.pointer (some ⟨kb, 0, none⟩), .pointer (some ⟨b, 0, none⟩), .int .i64 m, .agg #[.int .i64 kd, .int .i64 wh, .int .i64 a1, .int .i64 b1, .slice y.p y.n y.c]] w fun e w' => StQ W b kb m N e w' := by
  obtain ⟨Z, A, l, cp, dl, dr, fl, h, hkb, hrw, hon, hbd⟩ := h
  obtain ⟨V, hV⟩ : ∃ V, V = w.alloc (.cells #[.int .i64 kd, .int .i64 wh, .int .i64 a1, .int .i64 b1, .slice y.p y.n y.c] 48) := ⟨_, rfl⟩
  have hBV : Below w.heap.size w V := by rw [hV]; exact (Below.refl _ _).alloc (Nat.le_refl _) _
  have hX : Box V w.heap.size #[.int .i64 kd, .int .i64 wh, .int .i64 a1, .int .i64 b1, .slice y.p y.n y.c] 48 := by rw [hV]; exact Box.new _ _ _
  have hVs : V.heap.size = w.heap.size + 1 := by rw [hV]; simp
  have hs := h.below hBV
  have hZx : (Z w.heap.size ∨ Bt w.heap.size V.heap.size w.heap.size) := .inr ⟨Nat.le_refl _, by omega⟩
  obtain ⟨Z1, hZ1⟩ : ∃ Z1 : Nat → Prop, Z1 = fun k => Z k ∨ Bt w.heap.size V.heap.size k := ⟨_, rfl⟩
  have hZx1 : Z1 w.heap.size := by rw [hZ1]; exact hZx
  rw [← hZ1] at hs
  have HS := hid hs
  have HX := hid hX
  have HZx := hid hZx1
  have HV := hid hV
  have HKb := hid hkb
  have HRw := hid hrw
  have HOn := hid hon
  have HBd := hid hbd
  have HY := hid hy
  have o0 := hX.cell 0
  have o1 := hX.cell 1
  have o2 := hX.cell 2
  have o3 := hX.cell 3
  have o4 := hX.cell 4
  simp at o0 o1 o2 o3 o4
  have ol := hX.lt
  have hcl : cp + 1 ≤ 4611686018427387904 ∧ dl + 1 ≤ 4611686018427387904 ∧ dr + 1 ≤ 4611686018427387904 ∧ fl + 1 ≤ 4611686018427387904 := by omega
  obtain ⟨hc1, hc2, hc3, hc4⟩ := hcl
  clear h hkb hrw hon hbd hy hX hV hVs hs hZx hZx1 hZ1 hBV
  go_enter Try.func16, Try.ntmps16
  go_upto_region 1 with fail
  rw [← HV.out]
  go_wp2
  refine bodyPost_ret (v := .bool true) (by simp [results, Try.results16, go_sem]) rfl ⟨rfl, ?_⟩
  exact ⟨Z1, A, l, cp, dl, dr, fl, HS.out, HKb.out, HRw.out, HOn.out, by have := HBd.out; omega⟩
end Go.Proofs.Ytneomdiabcpemaa
