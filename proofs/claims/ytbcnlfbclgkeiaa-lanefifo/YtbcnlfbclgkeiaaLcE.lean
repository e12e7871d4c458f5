import Derived.Test.YtbcnlfbclgkeiaaLcD
namespace Go.Proofs.Ytbcnlfbclgkeiaa
open Go.RowKit Go.Conc
set_option maxRecDepth 8000
set_option maxRecDepth 60000 in
set_option maxHeartbeats 4000000 in
theorem receive_next (w : World) (Z : Nat → Prop) (b : Nat) (L : Ln) (hI : LnI w Z b L) (n : Nat) (hnx : L.next = some n) : Calls Try.prog 35 #[.pointer (some ⟨b, 0, none⟩)] w fun e w' => ∃ x q', L.q = x :: q' ∧ e = .returned (.tuple #[x.val, .bool true]) ∧ RcvS w b L q' w' := by
  obtain ⟨x, q', hq, hbn⟩ := hI.nxt n hnx
  obtain ⟨W, hW⟩ : ∃ W, W = w.alloc (.cells #[.int .i64 0, .string ⟨#[]⟩, .int .i64 0, .int .i64 0, .string ⟨#[]⟩, .slice none 0 0, .slice none 0 0] 35) := ⟨_, rfl⟩
  have hB : Below w.heap.size w W := by rw [hW]; exact (Below.refl _ _).alloc (Nat.le_refl _) _
  have hX : Box W w.heap.size #[.int .i64 0, .string ⟨#[]⟩, .int .i64 0, .int .i64 0, .string ⟨#[]⟩, .slice none 0 0, .slice none 0 0] 35 := by rw [hW]; exact Box.new _ _ _
  have hI2 := hI.below hB
  have c2 : W.cell? ⟨b, 2, none⟩ = some (.pointer (some ⟨n, 0, none⟩)) := by rw [hI2.c2]; simp [Ln.nextV, hnx]
  have bl := hI2.b_lt
  have hbox := hI2.box
  have g2 := hbox.frozen 2
  simp only [Ln.nextV, hnx, Option.map_some] at hbox
  have hcl := hI.ch_lt
  have hbl := hI.b_lt
  have hbc := hI.b_ch
  have hnl := hI.n_lt hnx
  have hnb := hI.b_n hnx
  have hbn2 := hbn.below hB
  have n0 := hbn2.cell 0
  have n1 := hbn2.cell 1
  have n2 := hbn2.cell 2
  have n3 := hbn2.cell 3
  have n4 := hbn2.cell 4
  have n5 := hbn2.cell 5
  have n6 := hbn2.cell 6
  simp [IT.cells] at n0 n1 n2 n3 n4 n5 n6
  obtain ⟨s, r, hc⟩ := hI2.buf
  have hc2 : W.heap[L.ch]? = some (.chan L.cap (q'.map IT.val).toArray false s r false) := by rw [hc]; simp [Ln.inCh, hnx, hq]
  have HC := hid hc2
  have HB := hid hB
  have HW := hid hW
  have HX := hid hX
  have HI := hid hbox
  have HQ := hid hq
  have hnl2 := hbn2.lt
  have hne : w.heap.size ≠ b := by omega
  have hWs : W.heap.size = w.heap.size + 1 := by rw [hW]; simp
  have HWs := hid hWs
  have f0 := hX.frozen 0
  have f1 := hX.frozen 1
  have f2 := hX.frozen 2
  have f3 := hX.frozen 3
  have f4 := hX.frozen 4
  have f5 := hX.frozen 5
  have f6 := hX.frozen 6
  have z0 := hX.cell 0
  have z1 := hX.cell 1
  have z2 := hX.cell 2
  have z3 := hX.cell 3
  have z4 := hX.cell 4
  have z5 := hX.cell 5
  have z6 := hX.cell 6
  simp at z0 z1 z2 z3 z4 z5 z6
  have xl := hX.lt
  clear hI hI2 hnx hq hc hc2 hB hW hX hbox hWs hbn hbn2
  go_enter Try.func35, Try.ntmps35
  go_upto_region 1 with fail
  rw [← HW.out]
  go_wp2
  have hp := put7_but (W.setCell ⟨b, 2, none⟩ (.pointer none)) w.heap.size x
  have hs := (But.one W b).setAt 2 (.pointer none)
  have hbo := HI.out.set 2 (.pointer none)
  refine bodyPost_ret (v := .tuple #[x.val, .bool true]) (by simp [results, Try.results35, go_sem, z0, z1, z2, z3, z4, z5, z6, IT.val, xl]) rfl ⟨x, q', HQ.out, rfl, ?_⟩
  change RcvS w b L q' ((put7 (W.setCell ⟨b, 2, none⟩ (.pointer none)) w.heap.size x).alloc _)
  refine ⟨(Box.kept ?_ (hp.block _ (by have := hs.size; omega) (by omega))).below ((Below.refl _ _).alloc (Nat.le_refl _) _), ⟨s, r, ?_⟩, ?_⟩
  · simpa only [List.setIfInBounds_toArray, List.set_cons_zero, List.set_cons_succ] using hbo
  · have e1 := (Below.refl (put7 (W.setCell ⟨b, 2, none⟩ (.pointer none)) w.heap.size x).heap.size (put7 (W.setCell ⟨b, 2, none⟩ (.pointer none)) w.heap.size x)).alloc (Nat.le_refl _) (.cells #[.int .i64 x.mark, .string x.r.key, .int .i64 x.r.v.kind, .int .i64 x.r.v.int, .string x.r.v.text, .slice x.r.v.p x.r.v.n x.r.v.c, .slice x.r.p x.r.n x.r.c] 35)
    exact (e1.block _ (by have := hp.size; have := hs.size; omega)).trans ((hp.block _ (by have := hs.size; omega) (by omega)).trans ((hs.block _ (by omega) (by omega)).trans HC.out))
  · refine But.alloc ?_ _
    refine ⟨hp.os.trans (hs.os.trans HB.out.os), hp.tape.trans (hs.tape.trans HB.out.tape), hp.output.trans (hs.output.trans HB.out.output), by have := hp.size; have := hs.size; have := HWs.out; omega, fun k hk hn => ?_⟩
    exact (hp.block k (by have := hs.size; have := HWs.out; omega) (by omega)).trans ((hs.block k (by have := HWs.out; omega) (fun e => hn (.inl e))).trans (HB.out.block k hk))
/-- receive of a lane that holds something -/
theorem receive_some (w : World) (Z : Nat → Prop) (b : Nat) (L : Ln) (hI : LnI w Z b L) (x : IT) (q' : List IT) (hq : L.q = x :: q') : Calls Try.prog 35 #[.pointer (some ⟨b, 0, none⟩)] w fun e w' => e = .returned (.tuple #[x.val, .bool true]) ∧ RcvS w b L q' w' := by
  cases hn : L.next with
  | none => exact receive_chan w Z b L hI x q' hq hn
  | some n =>
    refine (receive_next w Z b L hI n hn).mono ?_
    rintro e w' ⟨x2, q2, e2, he, hr⟩
    rw [hq] at e2
    injection e2 with e3 e4
    subst e3 e4
    exact ⟨he, hr⟩
end Go.Proofs.Ytbcnlfbclgkeiaa
