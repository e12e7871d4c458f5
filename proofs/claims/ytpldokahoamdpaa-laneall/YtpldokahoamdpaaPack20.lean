import Derived.Test.YtpldokahoamdpaaPack19
namespace Go.Proofs.Ytpldokahoamdpaa
open Go.RowKit Go.Conc
set_option maxRecDepth 8000
set_option maxHeartbeats 1000000 in
theorem shut_yes (w : World) (b : Nat) (room : Int) (h : LnS w b room) : Calls Try.prog 38 #[.pointer (some ⟨b, 0, none⟩)] w fun e w' => e = .returned (.bool true) ∧ w' = w := by
  have c3 : w.cell? ⟨b, 3, none⟩ = some (.chan none) := by rw [Box.cell h]; rfl
  have bl := Box.lt h
  have hq := fun w => eqlChan w none
  clear h
  go_enter Try.func38, Try.ntmps38
  go_wp2
  refine bodyPost_ret (v := .bool true) (by simp [results, Try.results38, go_sem]) rfl ⟨rfl, rfl⟩
set_option maxHeartbeats 2000000 in
theorem refill_shut (w : World) (b : Nat) (room : Int) (h : LnS w b room) (p : Option Addr) (n c : Nat) : Calls Try.prog 17 #[.pointer (some ⟨b, 0, none⟩), .slice p n c] w fun e w' => e = .returned (.int .i64 53) ∧ w' = w := by
  have HS := hid (shut_yes w b room h)
  clear h
  go_enter Try.func17, Try.ntmps17
  go_wp2_with fail
  refine HS.out.mono ?_
  rintro e w0 ⟨rfl, hw0⟩
  subst w0
  go_wp2
  refine bodyPost_ret (v := .int .i64 53) (by simp [results, Try.results17, go_sem]) rfl ⟨rfl, rfl⟩
set_option maxRecDepth 60000 in
set_option maxHeartbeats 4000000 in
theorem refusal_shut (w : World) (b : Nat) (room : Int) (h : LnS w b room) (x : IT) : Calls Try.prog 29 #[.pointer (some ⟨b, 0, none⟩), .agg #[.int .i64 x.mark, .string x.r.key, .int .i64 x.r.v.kind, .int .i64 x.r.v.int, .string x.r.v.text, .slice x.r.v.p x.r.v.n x.r.v.c, .slice x.r.p x.r.n x.r.c]] w fun e w' => e = .returned (.int .i64 53) ∧ Below w.heap.size w w' := by
  obtain ⟨W, hW⟩ : ∃ W, W = w.alloc (.cells #[.int .i64 x.mark, .string x.r.key, .int .i64 x.r.v.kind, .int .i64 x.r.v.int, .string x.r.v.text, .slice x.r.v.p x.r.v.n x.r.v.c, .slice x.r.p x.r.n x.r.c] 35) := ⟨_, rfl⟩
  have hB : Below w.heap.size w W := by rw [hW]; exact (Below.refl _ _).alloc (Nat.le_refl _) _
  have HS := hid (shut_yes W b room (Box.below h hB))
  have HB := hid hB
  have HW := hid hW
  clear h hB hW
  go_enter Try.func29, Try.ntmps29
  go_upto_region 1 with fail
  rw [← HW.out]
  go_wp2_with fail
  refine HS.out.mono ?_
  rintro e w0 ⟨rfl, hw0⟩
  subst w0
  go_wp2
  refine bodyPost_ret (v := .int .i64 53) (by simp [results, Try.results29, go_sem]) rfl ⟨rfl, HB.out⟩
set_option maxRecDepth 60000 in
set_option maxHeartbeats 4000000 in
/-- Put into a lane that is shut -/
theorem put_shut (w : World) (b : Nat) (room : Int) (h : LnS w b room) (l : LT IT) (S : Nat → Prop) (hl : LT.In elItem w S l) : Calls Try.prog 9 #[.pointer (some ⟨b, 0, none⟩), .slice l.p l.n l.c] w fun e w' => e = .returned (.tuple #[.int .i64 0, .int .i64 (if l.n = 0 then 0 else 53)]) ∧ Below w.heap.size w w' := by
  have hnn := hl.nn
  by_cases h0 : l.n = 0
  · rw [h0]
    clear hnn hl h
    go_enter Try.func9, Try.ntmps9
    go_wp2_with fail
    go_loopw [11] (fun v wr => v = .int .i64 0 ∧ wr = w) (fun _ _ => 0)
    case atStart => exact ⟨rfl, rfl⟩
    case round =>
      obtain ⟨rfl, hw0⟩ := hrel
      subst wr
      go_wp2
      refine bodyPost_ret (v := .tuple #[.int .i64 0, .int .i64 0]) (by simp [results, Try.results9, go_sem]) rfl ⟨by simp, Below.refl _ _⟩
  · obtain ⟨bb, o, hp, hSb, hbb, hat⟩ := hl.at_ (by omega)
    rw [hp, if_neg h0]
    have hpos : (0 : Int) < (l.n : Int) := by omega
    obtain ⟨x, hx⟩ : ∃ x, x = l.item 0 := ⟨_, rfl⟩
    have hcell : ∀ r u, (elItem.cells x)[r]? = some u → w.cell? ⟨bb, o + r, none⟩ = some u := fun r u hu => by have := hat 0 (by omega) r u (by rw [← hx]; exact hu); simpa using this
    have c0 : w.cell? ⟨bb, o, none⟩ = some (.int .i64 x.mark) := hcell 0 _ rfl
    have c1 := hcell 1 _ rfl
    have c2 := hcell 2 _ rfl
    have c3 := hcell 3 _ rfl
    have c4 := hcell 4 _ rfl
    have c5 := hcell 5 _ rfl
    have c6 := hcell 6 _ rfl
    obtain ⟨W, hW⟩ : ∃ W, W = w.alloc (.cells #[.int .i64 x.mark, .string x.r.key, .int .i64 x.r.v.kind, .int .i64 x.r.v.int, .string x.r.v.text, .slice x.r.v.p x.r.v.n x.r.v.c, .slice x.r.p x.r.n x.r.c] 35) := ⟨_, rfl⟩
    have hB : Below w.heap.size w W := by rw [hW]; exact (Below.refl _ _).alloc (Nat.le_refl _) _
    have hX : Box W w.heap.size #[.int .i64 x.mark, .string x.r.key, .int .i64 x.r.v.kind, .int .i64 x.r.v.int, .string x.r.v.text, .slice x.r.v.p x.r.v.n x.r.v.c, .slice x.r.p x.r.n x.r.c] 35 := by rw [hW]; exact Box.new _ _ _
    have HRf := hid (refusal_shut W b room (Box.below h hB) x)
    have z0 := hX.cell 0
    have z1 := hX.cell 1
    have z2 := hX.cell 2
    have z3 := hX.cell 3
    have z4 := hX.cell 4
    have z5 := hX.cell 5
    have z6 := hX.cell 6
    simp at z0 z1 z2 z3 z4 z5 z6
    have HW := hid hW
    have HB := hid hB
    clear hat hcell hW hB hX hx hl h h0 hp
    go_enter Try.func9, Try.ntmps9
    go_wp2_with fail
    go_loopw [11] (fun v wr => v = .int .i64 0 ∧ wr = w) (fun _ _ => 0)
    case atStart => exact ⟨rfl, rfl⟩
    case round =>
      obtain ⟨rfl, hw0⟩ := hrel
      subst wr
      go_upto_region 4 with fail
      rw [← HW.out]
      go_wp2_with fail
      refine HRf.out.mono ?_
      rintro e w1 ⟨rfl, hB1⟩
      have HB1 := hid (HB.out.trans (hB1.mono HB.out.size))
      clear hB1
      go_wp2
      refine bodyPost_ret (v := .tuple #[.int .i64 0, .int .i64 53]) (by simp [results, Try.results9, go_sem]) rfl ⟨rfl, HB1.out⟩
end Go.Proofs.Ytpldokahoamdpaa

namespace Go.Proofs.Ytpldokahoamdpaa
open Go.RowKit Go.Conc
set_option maxRecDepth 8000
/-- the lane behind a Peek -/
theorem RcvS.peek {w w1 w2 : World} {Z : Nat → Prop} {b n : Nat} {L : Ln} {x : IT} {q' : List IT} (hI : LnI w Z b L) (hZ : ∀ k, Z k → k < w.heap.size) (hq : L.q = x :: q') (h : RcvS w b L q' w1) (hn : w.heap.size ≤ n)
    (hb : But (fun k => k = b ∨ w.heap.size ≤ k) w1 w2) (hx : Box w2 b #[.int .i64 L.room, .int .i64 (nR L.q), .pointer (some ⟨n, 0, none⟩), .chan (some L.ch)] 74) (hnx : Box w2 n x.cells.toArray 35) : LSet w Z b L w2 ⟨L.room, some n, L.ch, L.cap, L.q⟩ := by
  have hcl := hI.ch_lt
  have hC : ∀ k, Ln.C ⟨L.room, some n, L.ch, L.cap, L.q⟩ b k → L.C b k ∨ k = n := by
    rintro k (e | e | e)
    · exact .inl (.inl e)
    · exact .inl (.inr (.inl e))
    · injection e with e; exact .inr e.symm
  have hws := h.but.size
  have hbt : But (L.C b) w w2 := by
    refine ⟨hb.os.trans h.but.os, hb.tape.trans h.but.tape, hb.output.trans h.but.output, Nat.le_trans h.but.size hb.size, fun k hk hn => (hb.block k (by omega) ?_).trans (h.but.block k hk hn)⟩
    rintro (e | e)
    · exact hn (.inl e)
    · omega
  have hfit : q'.length ≤ L.cap := by
    have h1 := hI.fit
    have h2 := hI.inCh_len
    rw [hq, List.length_cons] at h2
    split at h2 <;> omega
  obtain ⟨s, r, hc⟩ := h.buf
  refine ⟨⟨hx, ⟨s, r, ?_⟩, (fun n2 hn2 => ⟨x, q', hq, by injection hn2 with e; rw [← e]; exact hnx⟩), hI.r0, hI.r1, hI.cp, hI.len, fun y hy => ?_, fun k hk hz => ?_, by simpa [Ln.inCh, hq] using hfit⟩, hbt, fun k hk => (hC k hk).imp id (fun e => by omega), rfl⟩
  · refine (hb.block L.ch (by omega) ?_).trans (by simpa [Ln.inCh, hq] using hc)
    rintro (e | e)
    · exact hI.b_ch e.symm
    · have e' : w.heap.size ≤ L.ch := e
      omega
  · have hy2 := hI.it y hy
    exact ⟨((hy2.1.mono (S' := fun k => (¬ L.C b k ∧ ¬ Z k) ∧ k < w.heap.size) fun k hk hl => ⟨hk, hl⟩).kept hbt.size fun k hk hl => hbt.block k hl hk.1.1).mono fun k hk _ => ⟨fun e => (hC k e).elim hk.1.1 (fun e2 => by omega), hk.1.2⟩, hy2.2⟩
  · rcases hC k hk with e | e
    · exact hI.cz k e hz
    · have := hZ k hz; omega
def PkQ (w : World) (Z : Nat → Prop) (b : Nat) (L : Ln) (x : IT) (e : Ending) (w' : World) : Prop := ∃ (u : IT) (n : Nat), e = .returned (.tuple #[u.val, .bool true]) ∧ CopyI x u ∧ IT.In w' (fun k => w.heap.size ≤ k ∧ k ≠ n) u ∧ w.heap.size ≤ n ∧ LSet w Z b L w' ⟨L.room, some n, L.ch, L.cap, L.q⟩
set_option maxRecDepth 60000 in
set_option maxHeartbeats 4000000 in
/-- Peek of a lane that holds something -/
theorem peek_some (w : World) (Z : Nat → Prop) (b : Nat) (L : Ln) (hI : LnI w Z b L) (hZ : ∀ k, Z k → k < w.heap.size) (x : IT) (q' : List IT) (hq : L.q = x :: q') : Calls Try.prog 48 #[.pointer (some ⟨b, 0, none⟩)] w fun e w' => PkQ w Z b L x e w' := by
  obtain ⟨W, hW⟩ : ∃ W, W = w.alloc (.cells #[.int .i64 0, .string ⟨#[]⟩, .int .i64 0, .int .i64 0, .string ⟨#[]⟩, .slice none 0 0, .slice none 0 0] 35) := ⟨_, rfl⟩
  have hB : Below w.heap.size w W := by rw [hW]; exact (Below.refl _ _).alloc (Nat.le_refl _) _
  have hX : Box W w.heap.size #[.int .i64 0, .string ⟨#[]⟩, .int .i64 0, .int .i64 0, .string ⟨#[]⟩, .slice none 0 0, .slice none 0 0] 35 := by rw [hW]; exact Box.new _ _ _
  have hWs : W.heap.size = w.heap.size + 1 := by rw [hW]; simp
  have hbl := hI.b_lt
  have hcl := hI.ch_lt
  have hnb : ∀ k, L.C b k → k < w.heap.size := fun k hk => hI.c_lt hk
  have HRc := hid (receive_some W Z b L (hI.below hB) x q' hq)
  have HTk := hid (fun w1 w2 n (h : RcvS w b L q' w1) hn hb hx hnx => RcvS.peek (w2 := w2) (n := n) hI hZ hq h hn hb hx hnx)
  have HIt := hid (hI.it x (by rw [hq]; exact List.mem_cons_self))
  have HB := hid hB
  have HW := hid hW
  have HX := hid hX
  have HWs := hid hWs
  have HNB := hid hnb
  clear hI hq hB hX hW hWs hnb hZ
  go_enter Try.func48, Try.ntmps48
  go_upto_region 1 with fail
  rw [← HW.out]
  go_wp2_with fail
  refine HRc.out.mono ?_
  rintro e w1 ⟨rfl, hR⟩
  have HR0 : Hid (RcvS w b L q' w1) := ⟨hR.box, hR.buf, ⟨hR.but.os.trans HB.out.os, hR.but.tape.trans HB.out.tape, hR.but.output.trans HB.out.output, Nat.le_trans HB.out.size hR.but.size, fun k hk hn => (hR.but.block k (Nat.lt_of_lt_of_le hk HB.out.size) hn).trans (HB.out.block k hk)⟩⟩
  have hX1 := HX.out.kept (hR.but.block _ HX.out.lt fun e => Nat.lt_irrefl _ (HNB.out _ e))
  have HX1 := hid hX1
  have hxl := hX1.lt
  obtain ⟨W2, hW2⟩ : ∃ W2, W2 = w1.alloc (.cells #[.int .i64 x.mark, .string x.r.key, .int .i64 x.r.v.kind, .int .i64 x.r.v.int, .string x.r.v.text, .slice x.r.v.p x.r.v.n x.r.v.c, .slice x.r.p x.r.n x.r.c] 35) := ⟨_, rfl⟩
  have hB2 : Below w1.heap.size w1 W2 := by rw [hW2]; exact (Below.refl _ _).alloc (Nat.le_refl _) _
  have hY2 : Box W2 w1.heap.size #[.int .i64 x.mark, .string x.r.key, .int .i64 x.r.v.kind, .int .i64 x.r.v.int, .string x.r.v.text, .slice x.r.v.p x.r.v.n x.r.v.c, .slice x.r.p x.r.n x.r.c] 35 := by rw [hW2]; exact Box.new _ _ _
  have hL2 := hR.box.below hB2
  have hW2s : W2.heap.size = w1.heap.size + 1 := by rw [hW2]; simp
  have hs1 := HR0.out.but.size
  have g2 := hL2.frozen 2
  have gl := hL2.lt
  have c2 : W2.cell? ⟨b, 2, none⟩ = some (.pointer none) := by rw [hL2.cell]; rfl
  -- the lane with what was looked at
  obtain ⟨W3, hW3⟩ : ∃ W3, W3 = W2.setCell ⟨b, 2, none⟩ (.pointer (some ⟨w1.heap.size, 0, none⟩)) := ⟨_, rfl⟩
  have hb3 : But (fun k => k = b) W2 W3 := by rw [hW3]; exact (But.one W2 b).setAt 2 _
  have hL3 : Box W3 b #[.int .i64 L.room, .int .i64 (nR L.q), .pointer (some ⟨w1.heap.size, 0, none⟩), .chan (some L.ch)] 74 := by
    have h5 := hL2.set 2 (.pointer (some ⟨w1.heap.size, 0, none⟩))
    rw [hW3]
    simpa only [List.setIfInBounds_toArray, List.set_cons_zero, List.set_cons_succ] using h5
  have hY3 := hY2.kept (hb3.block _ hY2.lt (by omega))
  have hX3 := (hX1.below hB2).kept (hb3.block _ (by omega) (by omega))
  have hs3 := hb3.size
  have hIt3 : IT.In W3 (fun k => k < w.heap.size) x := by
    refine (((HIt.out.1.mono (S' := fun k => ¬ L.C b k ∧ k < w.heap.size) fun k hk hl => ⟨hk.1, hl⟩).kept (w' := W3) (by omega) fun k hk hl => ?_)).mono fun k hk _ => hk.2
    exact (hb3.block k (by omega) (fun e => hk.1 (.inl e))).trans ((hB2.block k (by omega)).trans (HR0.out.but.block k hl hk.1))
  have HCp := hid (copied_any x W3 _ hIt3 HIt.out.2.sz)
  have HW2 := hid hW2
  have HW3 := hid hW3
  have HB3 : Hid (But (fun k => k = b ∨ w.heap.size ≤ k) w1 W3) := ⟨hb3.os.trans hB2.os, hb3.tape.trans hB2.tape, hb3.output.trans hB2.output, by omega, fun k hk hn => (hb3.block k (by omega) fun e => hn (.inl e)).trans (hB2.block k hk)⟩
  have HL3 := hid hL3
  have HX3 := hid hX3
  have HY3 := hid hY3
  have y0 := hY3.cell 0
  have y1 := hY3.cell 1
  have y2 := hY3.cell 2
  have y3 := hY3.cell 3
  have y4 := hY3.cell 4
  have y5 := hY3.cell 5
  have y6 := hY3.cell 6
  simp at y0 y1 y2 y3 y4 y5 y6
  clear hR hX1 hB2 hY2 hL2 hW2 hW3 hb3 hL3 hY3 hX3 hIt3
  unfold IT.val
  go_upto_region 2 with fail
  rw [← HW2.out]
  go_upto_region 5 with fail
  rw [← HW3.out]
  go_wp2_with fail
  refine HCp.out.mono ?_
  rintro e w4 ⟨u, rfl, hcp, hin, hB4⟩
  have hX4 := HX3.out.below hB4
  have hY4 := HY3.out.below hB4
  have hL4 := HL3.out.below hB4
  clear y0 y1 y2 y3 y4 y5 y6
  have z0 := hX4.cell 0
  have z1 := hX4.cell 1
  have z2 := hX4.cell 2
  have z3 := hX4.cell 3
  have z4 := hX4.cell 4
  have z5 := hX4.cell 5
  have z6 := hX4.cell 6
  simp at z0 z1 z2 z3 z4 z5 z6
  have f0 := hX4.frozen 0
  have f1 := hX4.frozen 1
  have f2 := hX4.frozen 2
  have f3 := hX4.frozen 3
  have f4 := hX4.frozen 4
  have f5 := hX4.frozen 5
  have f6 := hX4.frozen 6
  have zl := hX4.lt
  have hs4 := hB4.size
  have HL4 := hid hL4
  have HY4 := hid hY4
  have HU := hid (And.intro hcp hin)
  have HB4 := hid hB4
  clear hX4 hY4 hL4 hcp hin hB4
  go_wp2
  have hp := put7_but w4 w.heap.size u
  refine bodyPost_ret (v := .tuple #[u.val, .bool true]) (by simp [results, Try.results48, go_sem, z0, z1, z2, z3, z4, z5, z6, IT.val]) rfl ⟨u, w1.heap.size, rfl, HU.out.1, ?_, by omega, ?_⟩
  · change IT.In (put7 w4 w.heap.size u) _ _
    exact (HU.out.2.kept hp.size fun k hk hl => hp.block k hl (by omega)).mono fun k hk _ => ⟨by omega, by omega⟩
  · change LSet w Z b L (put7 w4 w.heap.size u) _
    refine HTk.out w1 _ w1.heap.size HR0.out (by omega) ⟨hp.os.trans (HB4.out.os.trans HB3.out.os), hp.tape.trans (HB4.out.tape.trans HB3.out.tape), hp.output.trans (HB4.out.output.trans HB3.out.output), by have := hp.size; omega, fun k hk hn => ?_⟩ (HL4.out.kept (hp.block b (by omega) (by omega))) (HY4.out.kept (hp.block _ (by omega) (by omega)))
    have h2 : k ≠ w.heap.size := fun e => hn (.inr (by omega))
    exact (hp.block k (by omega) h2).trans ((HB4.out.block k (by omega)).trans (HB3.out.block k hk hn))
set_option maxRecDepth 60000 in
set_option maxHeartbeats 4000000 in
theorem peek_none' (w : World) (b : Nat) (hR : ∀ W, Below w.heap.size w W → Calls Try.prog 35 #[.pointer (some ⟨b, 0, none⟩)] W fun e w' => e = .returned (.tuple #[zI, .bool false]) ∧ Below W.heap.size W w') : Calls Try.prog 48 #[.pointer (some ⟨b, 0, none⟩)] w fun e w' => e = .returned (.tuple #[zI, .bool false]) ∧ Below w.heap.size w w' := by
  obtain ⟨W, hW⟩ : ∃ W, W = w.alloc (.cells #[.int .i64 0, .string ⟨#[]⟩, .int .i64 0, .int .i64 0, .string ⟨#[]⟩, .slice none 0 0, .slice none 0 0] 35) := ⟨_, rfl⟩
  have hB : Below w.heap.size w W := by rw [hW]; exact (Below.refl _ _).alloc (Nat.le_refl _) _
  have hX : Box W w.heap.size #[.int .i64 0, .string ⟨#[]⟩, .int .i64 0, .int .i64 0, .string ⟨#[]⟩, .slice none 0 0, .slice none 0 0] 35 := by rw [hW]; exact Box.new _ _ _
  have HRc := hid (hR W hB)
  have HB := hid hB
  have HW := hid hW
  have HX := hid hX
  clear hR hB hX hW
  go_enter Try.func48, Try.ntmps48
  go_upto_region 1 with fail
  rw [← HW.out]
  go_wp2_with fail
  refine HRc.out.mono ?_
  rintro e w1 ⟨rfl, hB1⟩
  obtain ⟨W2, hW2⟩ : ∃ W2, W2 = w1.alloc (.cells #[.int .i64 0, .string ⟨#[]⟩, .int .i64 0, .int .i64 0, .string ⟨#[]⟩, .slice none 0 0, .slice none 0 0] 35) := ⟨_, rfl⟩
  have hB2 : Below w1.heap.size w1 W2 := by rw [hW2]; exact (Below.refl _ _).alloc (Nat.le_refl _) _
  have hX1 := (HX.out.below hB1).below hB2
  have HB1 := hid ((HB.out.trans (hB1.mono HB.out.size)).trans (hB2.mono (Nat.le_trans HB.out.size hB1.size)))
  have HW2 := hid hW2
  have z0 := hX1.cell 0
  have z1 := hX1.cell 1
  have z2 := hX1.cell 2
  have z3 := hX1.cell 3
  have z4 := hX1.cell 4
  have z5 := hX1.cell 5
  have z6 := hX1.cell 6
  simp at z0 z1 z2 z3 z4 z5 z6
  have f0 := hX1.frozen 0
  have f1 := hX1.frozen 1
  have f2 := hX1.frozen 2
  have f3 := hX1.frozen 3
  have f4 := hX1.frozen 4
  have f5 := hX1.frozen 5
  have f6 := hX1.frozen 6
  have zl := hX1.lt
  clear hB1 hX1 hB2 hW2
  unfold zI
  go_upto_region 2 with fail
  rw [← HW2.out]
  go_wp2
  have hp := put7_but W2 w.heap.size ⟨0, rz⟩
  refine bodyPost_ret (v := .tuple #[zI, .bool false]) (by simp [results, Try.results48, go_sem, z0, z1, z2, z3, z4, z5, z6, zI]) rfl ⟨rfl, ?_⟩
  change Below w.heap.size w (put7 W2 w.heap.size ⟨0, rz⟩)
  exact HB1.out.trans (hp.below HB1.out.size (fun k hk e => by omega))
theorem peek_none (w : World) (Z : Nat → Prop) (b : Nat) (L : Ln) (hI : LnI w Z b L) (hq : L.q = []) : Calls Try.prog 48 #[.pointer (some ⟨b, 0, none⟩)] w fun e w' => e = .returned (.tuple #[zI, .bool false]) ∧ Below w.heap.size w w' :=
  peek_none' w b fun W hB => receive_none W Z b L (hI.below hB) hq
end Go.Proofs.Ytpldokahoamdpaa
