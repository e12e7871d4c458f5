import Derived.Test.YtpldokahoamdpaaPack4
import Derived.Deep.Cut
namespace Go.Proofs.Ytpldokahoamdpaa
open Go.RowKit Go.Conc
set_option maxRecDepth 8000
def zI : Value := .agg #[.int .i64 0, .string ⟨#[]⟩, .int .i64 0, .int .i64 0, .string ⟨#[]⟩, .slice none 0 0, .slice none 0 0]
/-- an item's cells stored one by one -/
def put7 (w : World) (b : Nat) (x : IT) : World := ((((((w.setCell ⟨b, 0, none⟩ (.int .i64 x.mark)).setCell ⟨b, 1, none⟩ (.string x.r.key)).setCell ⟨b, 2, none⟩ (.int .i64 x.r.v.kind)).setCell ⟨b, 3, none⟩ (.int .i64 x.r.v.int)).setCell ⟨b, 4, none⟩ (.string x.r.v.text)).setCell ⟨b, 5, none⟩ (.slice x.r.v.p x.r.v.n x.r.v.c)).setCell ⟨b, 6, none⟩ (.slice x.r.p x.r.n x.r.c)
theorem put7_but (w : World) (b : Nat) (x : IT) : But (fun k => k = b) w (put7 w b x) :=
  (((((((But.one w b).setAt 0 _).setAt 1 _).setAt 2 _).setAt 3 _).setAt 4 _).setAt 5 _).setAt 6 _
theorem put7_box {w : World} {b : Nat} {v0 v1 v2 v3 v4 v5 v6 : Value} {t : TypeId} (h : Box w b #[v0, v1, v2, v3, v4, v5, v6] t) (x : IT) : Box (put7 w b x) b #[.int .i64 x.mark, .string x.r.key, .int .i64 x.r.v.kind, .int .i64 x.r.v.int, .string x.r.v.text, .slice x.r.v.p x.r.v.n x.r.v.c, .slice x.r.p x.r.n x.r.c] t := by
  have h7 := ((((((h.set 0 (.int .i64 x.mark)).set 1 (.string x.r.key)).set 2 (.int .i64 x.r.v.kind)).set 3 (.int .i64 x.r.v.int)).set 4 (.string x.r.v.text)).set 5 (.slice x.r.v.p x.r.v.n x.r.v.c)).set 6 (.slice x.r.p x.r.n x.r.c)
  unfold put7
  simpa only [List.setIfInBounds_toArray, List.set_cons_zero, List.set_cons_succ] using h7
/-- a lane behind a receive: its count of records is still the old one -/
structure RcvS (w : World) (b : Nat) (L : Ln) (q' : List IT) (w' : World) : Prop where
  box : Box w' b #[.int .i64 L.room, .int .i64 (nR L.q), .pointer none, .chan (some L.ch)] 74
  buf : ∃ s r, w'.heap[L.ch]? = some (.chan L.cap (q'.map IT.val).toArray false s r false)
  but : But (L.C b) w w'
set_option maxRecDepth 60000 in
set_option maxHeartbeats 4000000 in
theorem receive_none (w : World) (Z : Nat → Prop) (b : Nat) (L : Ln) (hI : LnI w Z b L) (hq : L.q = []) : Calls Try.prog 35 #[.pointer (some ⟨b, 0, none⟩)] w fun e w' => e = .returned (.tuple #[zI, .bool false]) ∧ Below w.heap.size w w' := by
  obtain ⟨W, hW⟩ : ∃ W, W = w.alloc (.cells #[.int .i64 0, .string ⟨#[]⟩, .int .i64 0, .int .i64 0, .string ⟨#[]⟩, .slice none 0 0, .slice none 0 0] 35) := ⟨_, rfl⟩
  have hB : Below w.heap.size w W := by rw [hW]; exact (Below.refl _ _).alloc (Nat.le_refl _) _
  have hX : Box W w.heap.size #[.int .i64 0, .string ⟨#[]⟩, .int .i64 0, .int .i64 0, .string ⟨#[]⟩, .slice none 0 0, .slice none 0 0] 35 := by rw [hW]; exact Box.new _ _ _
  have hnx : L.next = none := by
    cases hn : L.next with
    | none => rfl
    | some n => obtain ⟨x, q', e, _⟩ := hI.nxt n hn; rw [hq] at e; cases e
  have hI2 := hI.below hB
  have c2 : W.cell? ⟨b, 2, none⟩ = some (.pointer none) := by rw [hI2.c2]; simp [Ln.nextV, hnx]
  have c3 := hI2.c3
  have bl := hI2.b_lt
  obtain ⟨s, r, hc⟩ := hI2.buf
  have hc2 : W.heap[L.ch]? = some (.chan L.cap #[] false s r false) := by rw [hc]; simp [Ln.inCh, hnx, hq]
  have HC := hid hc2
  have HB := hid hB
  have HW := hid hW
  have HX := hid hX
  have f0 := hX.frozen 0
  have f1 := hX.frozen 1
  have f2 := hX.frozen 2
  have f3 := hX.frozen 3
  have f4 := hX.frozen 4
  have f5 := hX.frozen 5
  have f6 := hX.frozen 6
  have z0 := hX.cell 0
  have z1 := hX.cell 1
  have z2 := hX.cell 2
  have z3 := hX.cell 3
  have z4 := hX.cell 4
  have z5 := hX.cell 5
  have z6 := hX.cell 6
  simp at z0 z1 z2 z3 z4 z5 z6
  have xl := hX.lt
  clear hI hI2 hnx hq hc hc2 hB hW hX
  go_enter Try.func35, Try.ntmps35
  go_upto_region 1 with fail
  rw [← HW.out]
  go_upto_region 6 with fail
  refine wp_comm1 (cases := #[rcase L.ch zI]) (blocking := false) (shape := .select) (w1 := W) (v := .tuple #[goInt (-1), .bool false, zI]) (w2 := W) rfl (by simp [go_sem, execOp, rcase, Act.eval, zI]) (fun fr cs es h => step_lone_select_default h HC.out) ?_
  go_wp2
  have hbt := (((((((But.one W w.heap.size).setAt 0 (.int .i64 0)).setAt 1 (.string ⟨#[]⟩)).setAt 2 (.int .i64 0)).setAt 3 (.int .i64 0)).setAt 4 (.string ⟨#[]⟩)).setAt 5 (.slice none 0 0)).setAt 6 (.slice none 0 0)
  refine bodyPost_ret (v := .tuple #[zI, .bool false]) (by simp [results, Try.results35, go_sem, z0, z1, z2, z3, z4, z5, z6, zI]) rfl ⟨rfl, HB.out.trans (hbt.below HB.out.size (fun k hk e => by omega))⟩
set_option maxRecDepth 60000 in
set_option maxHeartbeats 4000000 in
theorem receive_chan (w : World) (Z : Nat → Prop) (b : Nat) (L : Ln) (hI : LnI w Z b L) (x : IT) (q' : List IT) (hq : L.q = x :: q') (hnx : L.next = none) : Calls Try.prog 35 #[.pointer (some ⟨b, 0, none⟩)] w fun e w' => e = .returned (.tuple #[x.val, .bool true]) ∧ RcvS w b L q' w' := by
  obtain ⟨W, hW⟩ : ∃ W, W = w.alloc (.cells #[.int .i64 0, .string ⟨#[]⟩, .int .i64 0, .int .i64 0, .string ⟨#[]⟩, .slice none 0 0, .slice none 0 0] 35) := ⟨_, rfl⟩
  have hB : Below w.heap.size w W := by rw [hW]; exact (Below.refl _ _).alloc (Nat.le_refl _) _
  have hX : Box W w.heap.size #[.int .i64 0, .string ⟨#[]⟩, .int .i64 0, .int .i64 0, .string ⟨#[]⟩, .slice none 0 0, .slice none 0 0] 35 := by rw [hW]; exact Box.new _ _ _
  have hI2 := hI.below hB
  have c2 : W.cell? ⟨b, 2, none⟩ = some (.pointer none) := by rw [hI2.c2]; simp [Ln.nextV, hnx]
  have c3 := hI2.c3
  have bl := hI2.b_lt
  have hbox := hI2.box
  simp only [Ln.nextV, hnx, Option.map_none] at hbox
  have hcl := hI.ch_lt
  have hbl := hI.b_lt
  have hbc := hI.b_ch
  obtain ⟨s, r, hc⟩ := hI2.buf
  have hc2 : W.heap[L.ch]? = some (.chan L.cap (x.val :: q'.map IT.val).toArray false s r false) := by rw [hc]; simp [Ln.inCh, hnx, hq]
  have HC := hid hc2
  have HB := hid hB
  have HW := hid hW
  have HX := hid hX
  have HI := hid hbox
  have hWs : W.heap.size = w.heap.size + 1 := by rw [hW]; simp
  have HWs := hid hWs
  clear hI hI2 hnx hq hc hc2 hB hW hX hbox hWs
  go_enter Try.func35, Try.ntmps35
  go_upto_region 1 with fail
  rw [← HW.out]
  go_upto_region 6 with fail
  refine wp_comm1 (cases := #[rcase L.ch zI]) (blocking := false) (shape := .select) (w1 := W) (v := .tuple #[goInt 0, .bool true, x.val]) (w2 := W.setChan L.ch L.cap (q'.map IT.val).toArray false s (r + 1) false) rfl (by simp [go_sem, execOp, rcase, Act.eval, zI]) (fun fr cs es h => sel_recv h HC.out) ?_
  have hW2b := But.setChan W L.ch L.cap (q'.map IT.val).toArray false s (r + 1) false
  have hW2c := heap_setChan W L.ch L.cap (q'.map IT.val).toArray false s (r + 1) false (Nat.lt_of_lt_of_le hcl HB.out.size)
  obtain ⟨W2, hW2⟩ : ∃ W2, W2 = W.setChan L.ch L.cap (q'.map IT.val).toArray false s (r + 1) false := ⟨_, rfl⟩
  rw [← hW2] at hW2b hW2c ⊢
  have hX := HX.out.kept (hW2b.block _ HX.out.lt (by omega))
  have hBo := HI.out.kept (hW2b.block _ (Nat.lt_of_lt_of_le hbl HB.out.size) hbc)
  have hs2 : w.heap.size + 1 ≤ W2.heap.size := by have := hW2b.size; have := HWs.out; omega
  have HBo := hid hBo
  have HX2 := hid hX
  have HWb := hid hW2b
  have HWc := hid hW2c
  have f0 := hX.frozen 0
  have f1 := hX.frozen 1
  have f2 := hX.frozen 2
  have f3 := hX.frozen 3
  have f4 := hX.frozen 4
  have f5 := hX.frozen 5
  have f6 := hX.frozen 6
  have z0 := hX.cell 0
  have z1 := hX.cell 1
  have z2 := hX.cell 2
  have z3 := hX.cell 3
  have z4 := hX.cell 4
  have z5 := hX.cell 5
  have z6 := hX.cell 6
  simp at z0 z1 z2 z3 z4 z5 z6
  have xl := hX.lt
  unfold IT.val
  clear hX hBo hW2 hW2b hW2c c2 c3
  go_wp2
  have hp := put7_but W2 w.heap.size x
  refine bodyPost_ret (v := .tuple #[x.val, .bool true]) (by simp [results, Try.results35, go_sem, z0, z1, z2, z3, z4, z5, z6, IT.val, xl]) rfl ⟨rfl, ?_⟩
  change RcvS w b L q' ((put7 W2 w.heap.size x).alloc _)
  refine ⟨(HBo.out.kept (hp.block _ (by omega) (by omega))).below ((Below.refl _ _).alloc (Nat.le_refl _) _), ⟨s, r + 1, ?_⟩, ?_⟩
  · have e1 := (Below.refl (put7 W2 w.heap.size x).heap.size (put7 W2 w.heap.size x)).alloc (Nat.le_refl _) (.cells #[.int .i64 x.mark, .string x.r.key, .int .i64 x.r.v.kind, .int .i64 x.r.v.int, .string x.r.v.text, .slice x.r.v.p x.r.v.n x.r.v.c, .slice x.r.p x.r.n x.r.c] 35)
    exact (e1.block _ (by have := hp.size; omega)).trans ((hp.block _ (by omega) (by omega)).trans HWc.out)
  · refine But.alloc ?_ _
    refine ⟨hp.os.trans (HWb.out.os.trans HB.out.os), hp.tape.trans (HWb.out.tape.trans HB.out.tape), hp.output.trans (HWb.out.output.trans HB.out.output), by have := hp.size; omega, fun k hk hn => ?_⟩
    exact (hp.block k (by omega) (by omega)).trans ((HWb.out.block k (by have := HB.out.size; omega) (fun e => hn (.inr (.inl e)))).trans (HB.out.block k hk))
end Go.Proofs.Ytpldokahoamdpaa

namespace Go.Proofs.Ytpldokahoamdpaa
open Go.RowKit Go.Conc
set_option maxRecDepth 8000
set_option maxRecDepth 60000 in
set_option maxHeartbeats 4000000 in
theorem receive_next (w : World) (Z : Nat → Prop) (b : Nat) (L : Ln) (hI : LnI w Z b L) (n : Nat) (hnx : L.next = some n) : Calls Try.prog 35 #[.pointer (some ⟨b, 0, none⟩)] w fun e w' => ∃ x q', L.q = x :: q' ∧ e = .returned (.tuple #[x.val, .bool true]) ∧ RcvS w b L q' w' := by
  obtain ⟨x, q', hq, hbn⟩ := hI.nxt n hnx
  obtain ⟨W, hW⟩ : ∃ W, W = w.alloc (.cells #[.int .i64 0, .string ⟨#[]⟩, .int .i64 0, .int .i64 0, .string ⟨#[]⟩, .slice none 0 0, .slice none 0 0] 35) := ⟨_, rfl⟩
  have hB : Below w.heap.size w W := by rw [hW]; exact (Below.refl _ _).alloc (Nat.le_refl _) _
  have hX : Box W w.heap.size #[.int .i64 0, .string ⟨#[]⟩, .int .i64 0, .int .i64 0, .string ⟨#[]⟩, .slice none 0 0, .slice none 0 0] 35 := by rw [hW]; exact Box.new _ _ _
  have hI2 := hI.below hB
  have c2 : W.cell? ⟨b, 2, none⟩ = some (.pointer (some ⟨n, 0, none⟩)) := by rw [hI2.c2]; simp [Ln.nextV, hnx]
  have bl := hI2.b_lt
  have hbox := hI2.box
  have g2 := hbox.frozen 2
  simp only [Ln.nextV, hnx, Option.map_some] at hbox
  have hcl := hI.ch_lt
  have hbl := hI.b_lt
  have hbc := hI.b_ch
  have hnl := hI.n_lt hnx
  have hnb := hI.b_n hnx
  have hbn2 := hbn.below hB
  have n0 := hbn2.cell 0
  have n1 := hbn2.cell 1
  have n2 := hbn2.cell 2
  have n3 := hbn2.cell 3
  have n4 := hbn2.cell 4
  have n5 := hbn2.cell 5
  have n6 := hbn2.cell 6
  simp [IT.cells] at n0 n1 n2 n3 n4 n5 n6
  obtain ⟨s, r, hc⟩ := hI2.buf
  have hc2 : W.heap[L.ch]? = some (.chan L.cap (q'.map IT.val).toArray false s r false) := by rw [hc]; simp [Ln.inCh, hnx, hq]
  have HC := hid hc2
  have HB := hid hB
  have HW := hid hW
  have HX := hid hX
  have HI := hid hbox
  have HQ := hid hq
  have hnl2 := hbn2.lt
  have hne : w.heap.size ≠ b := by omega
  have hWs : W.heap.size = w.heap.size + 1 := by rw [hW]; simp
  have HWs := hid hWs
  have f0 := hX.frozen 0
  have f1 := hX.frozen 1
  have f2 := hX.frozen 2
  have f3 := hX.frozen 3
  have f4 := hX.frozen 4
  have f5 := hX.frozen 5
  have f6 := hX.frozen 6
  have z0 := hX.cell 0
  have z1 := hX.cell 1
  have z2 := hX.cell 2
  have z3 := hX.cell 3
  have z4 := hX.cell 4
  have z5 := hX.cell 5
  have z6 := hX.cell 6
  simp at z0 z1 z2 z3 z4 z5 z6
  have xl := hX.lt
  clear hI hI2 hnx hq hc hc2 hB hW hX hbox hWs hbn hbn2
  go_enter Try.func35, Try.ntmps35
  go_upto_region 1 with fail
  rw [← HW.out]
  go_wp2
  have hp := put7_but (W.setCell ⟨b, 2, none⟩ (.pointer none)) w.heap.size x
  have hs := (But.one W b).setAt 2 (.pointer none)
  have hbo := HI.out.set 2 (.pointer none)
  refine bodyPost_ret (v := .tuple #[x.val, .bool true]) (by simp [results, Try.results35, go_sem, z0, z1, z2, z3, z4, z5, z6, IT.val, xl]) rfl ⟨x, q', HQ.out, rfl, ?_⟩
  change RcvS w b L q' ((put7 (W.setCell ⟨b, 2, none⟩ (.pointer none)) w.heap.size x).alloc _)
  refine ⟨(Box.kept ?_ (hp.block _ (by have := hs.size; omega) (by omega))).below ((Below.refl _ _).alloc (Nat.le_refl _) _), ⟨s, r, ?_⟩, ?_⟩
  · simpa only [List.setIfInBounds_toArray, List.set_cons_zero, List.set_cons_succ] using hbo
  · have e1 := (Below.refl (put7 (W.setCell ⟨b, 2, none⟩ (.pointer none)) w.heap.size x).heap.size (put7 (W.setCell ⟨b, 2, none⟩ (.pointer none)) w.heap.size x)).alloc (Nat.le_refl _) (.cells #[.int .i64 x.mark, .string x.r.key, .int .i64 x.r.v.kind, .int .i64 x.r.v.int, .string x.r.v.text, .slice x.r.v.p x.r.v.n x.r.v.c, .slice x.r.p x.r.n x.r.c] 35)
    exact (e1.block _ (by have := hp.size; have := hs.size; omega)).trans ((hp.block _ (by have := hs.size; omega) (by omega)).trans ((hs.block _ (by omega) (by omega)).trans HC.out))
  · refine But.alloc ?_ _
    refine ⟨hp.os.trans (hs.os.trans HB.out.os), hp.tape.trans (hs.tape.trans HB.out.tape), hp.output.trans (hs.output.trans HB.out.output), by have := hp.size; have := hs.size; have := HWs.out; omega, fun k hk hn => ?_⟩
    exact (hp.block k (by have := hs.size; have := HWs.out; omega) (by omega)).trans ((hs.block k (by have := HWs.out; omega) (fun e => hn (.inl e))).trans (HB.out.block k hk))
/-- receive of a lane that holds something -/
theorem receive_some (w : World) (Z : Nat → Prop) (b : Nat) (L : Ln) (hI : LnI w Z b L) (x : IT) (q' : List IT) (hq : L.q = x :: q') : Calls Try.prog 35 #[.pointer (some ⟨b, 0, none⟩)] w fun e w' => e = .returned (.tuple #[x.val, .bool true]) ∧ RcvS w b L q' w' := by
  cases hn : L.next with
  | none => exact receive_chan w Z b L hI x q' hq hn
  | some n =>
    refine (receive_next w Z b L hI n hn).mono ?_
    rintro e w' ⟨x2, q2, e2, he, hr⟩
    rw [hq] at e2
    injection e2 with e3 e4
    subst e3 e4
    exact ⟨he, hr⟩
end Go.Proofs.Ytpldokahoamdpaa
