import Derived.Test.YtneomdiabcpemaaPack24
import Derived.Test.YtneomdiabcpemaaPack0
namespace Go.Proofs.Ytneomdiabcpemaa
open Go.RowKit
set_option maxRecDepth 8000
set_option maxHeartbeats 8000000 in
theorem play_0 (kd : Int) (hk1 : kd ≠ 1) (hk2 : kd ≠ 2) (hk3 : kd ≠ 3) (hk4 : kd ≠ 4) (hk5 : kd ≠ 5) (hk6 : kd ≠ 6) (w : World) (Z Z1 Z2 : Nat → Prop) (xb b rb : Nat) (m : Int) (A : List FA) (N : Nat) (h : PrI w Z Z1 Z2 xb b rb m A A N) (hN : (N + 1) * 48 ≤ 140737488355328) (wh a1 b1 : Int) (y : BY) (_hy : Byts w Z y.p y.n y.c y.f) (_ha1 : a1 ≤ 9223372036854775807) (_hb1 : b1 ≤ 9223372036854775807) :
    Calls Try.prog 25 #[.pointer (some ⟨xb, 0, none⟩), .agg #[.int .i64 kd, .int .i64 wh, .int .i64 a1, .int .i64 b1, .slice y.p y.n y.c]] w fun e w' => PlQ w Z xb N e w' := by
  obtain ⟨V, hV⟩ : ∃ V, V = w.alloc (.cells #[.int .i64 kd, .int .i64 wh, .int .i64 a1, .int .i64 b1, .slice y.p y.n y.c] 48) := ⟨_, rfl⟩
  have hBV : Below w.heap.size w V := by rw [hV]; exact (Below.refl _ _).alloc (Nat.le_refl _) _
  have hX : Box V w.heap.size #[.int .i64 kd, .int .i64 wh, .int .i64 a1, .int .i64 b1, .slice y.p y.n y.c] 48 := by rw [hV]; exact Box.new _ _ _
  have hVs : V.heap.size = w.heap.size + 1 := by rw [hV]; simp
  have hlen := h.len
  have hZl : ∀ k, Z k → k < w.heap.size := fun k hk => h.l1 k (h.s1 k hk)
  have hp := h.more hBV
  have hZx : (Z w.heap.size ∨ Bt w.heap.size V.heap.size w.heap.size) := .inr ⟨Nat.le_refl _, by omega⟩
  have HQ : Hid (∀ (w' : World) (Z1 Z2 : Nat → Prop) (A : List FA), PrI w' (fun k => Z k ∨ Bt w.heap.size V.heap.size k) Z1 Z2 xb b rb m A A (N + 1) → Fr (fun k => Z k ∨ Bt w.heap.size V.heap.size k) V w' → Pr w' Z xb (N + 1) ∧ Fr Z w w') := fun w' Z1 Z2 A h1 h2 => PlQ.of hBV h1 h2
  have hyV : Byts V (fun k => Z k ∨ Bt w.heap.size V.heap.size k) y.p y.n y.c y.f := (_hy.kept hBV.size fun k _ hk => hBV.block k hk).mono fun k hk _ => .inl hk
  obtain ⟨Zv, hZv⟩ : ∃ Zv : Nat → Prop, Zv = fun k => Z k ∨ Bt w.heap.size V.heap.size k := ⟨_, rfl⟩
  have hZx1 : Zv w.heap.size := by rw [hZv]; exact hZx
  rw [← hZv] at hp HQ hyV
  obtain ⟨Y1, hY1⟩ : ∃ Y1 : Nat → Prop, Y1 = fun k => Z1 k ∨ Bt w.heap.size V.heap.size k := ⟨_, rfl⟩
  obtain ⟨Y2, hY2⟩ : ∃ Y2 : Nat → Prop, Y2 = fun k => Z2 k ∨ Bt w.heap.size V.heap.size k := ⟨_, rfl⟩
  rw [← hY1, ← hY2] at hp
  have HP := hid hp
  have HX := hid hX
  have HZx := hid hZx1
  have HV := hid hV
  have HN := hid hN
  have HL := hid hlen
  have HY := hid hyV
  have Ha1 := hid _ha1
  have Hb1 := hid _hb1
  have o0 := hX.cell 0
  have o2 := hX.cell 2
  have o3 := hX.cell 3
  have o4 := hX.cell 4
  simp at o0 o2 o3 o4
  have ol := hX.lt
  have k0 := hp.bx.cell 0
  have k1 := hp.bx.cell 1
  simp at k0 k1
  have kl := hp.bx.lt
  clear h hN hlen hZl hX hV hVs hp hZx hZx1 hZv hY1 hY2 hBV hyV _hy _ha1 _hb1
  go_enter Try.func25, Try.ntmps25
  go_upto_region 1 with fail
  rw [← HV.out]
  go_wp2
  refine bodyPost_ret (v := .bool true) (by simp [results, Try.results25, go_sem]) rfl ⟨rfl, ?_⟩
  exact HQ.out _ _ _ _ (HP.out.mono (Nat.le_succ _)) (Fr.refl _ _)
end Go.Proofs.Ytneomdiabcpemaa

namespace Go.Proofs.Ytneomdiabcpemaa
open Go.RowKit
set_option maxRecDepth 8000
theorem kindVs : ∃ i, Kind 75 94 i (.slice none 0 0) 1 24 := by
  obtain ⟨i0, hi, hz0, hz1, hz2⟩ := info_parts (show (Try.prog.info? 94).map (fun i => (i.zero, i.size, i.bytes)) = some (some (.slice none 0 0), 1, 24) by kernel_rfl)
  exact ⟨i0, Try.underlying75, hi, hz0, hz1, hz2, rfl, by decide⟩
end Go.Proofs.Ytneomdiabcpemaa
