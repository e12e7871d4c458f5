import Derived.Test.YtpldokahoamdpaaPack5
namespace Go.Proofs.Ytpldokahoamdpaa
open Go.RowKit Go.Conc
set_option maxRecDepth 8000
theorem mkCh (w : World) (T : Nat) (hT : T ≤ 60001) : (Instr.makeChan 71 (.int .i64 (T : Int))).run Try.prog w = .ok (.chan (some w.heap.size)) (w.alloc (.chan T #[] false 0 0 false)) := by
  obtain ⟨i0, hi, hz⟩ : ∃ i, Try.prog.info? 35 = some i ∧ i.bytes = 104 := by
    have h : (Try.prog.info? 35).map (fun i => i.bytes) = some 104 := by kernel_rfl
    cases hq : Try.prog.info? 35 with
    | none => rw [hq] at h; cases h
    | some i => rw [hq] at h; exact ⟨i, rfl, by simpa using h⟩
  exact run_makeChan Try.underlying71 hi .i64 T (by omega) (by rw [hz]; omega)
def bufN (w : World) (c : Nat) : Nat := match w.heap[c]? with | some (.chan _ buf _ _ _ _) => buf.size | _ => 0
theorem bufN_of {w : World} {c cap : Nat} {buf : Array Value} {cl : Bool} {s r : Nat} {tm : Bool} (h : w.heap[c]? = some (.chan cap buf cl s r tm)) : bufN w c = buf.size := by
  unfold bufN; rw [h]
structure LgQ (w : World) (c cap : Nat) (q : List IT) (w' : World) : Prop where
  new : ∃ s r, w'.heap[w.heap.size]? = some (.chan (2 * cap + 1) (q.map IT.val).toArray false s r false)
  but : But (fun k => k = c) w w'
structure LgR (w : World) (c cap : Nat) (q : List IT) (k : Nat) (wr : World) : Prop where
  kl : k ≤ q.length
  old : ∃ s r, wr.heap[c]? = some (.chan cap ((q.drop k).map IT.val).toArray true s r false)
  new : ∃ s r, wr.heap[w.heap.size]? = some (.chan (2 * cap + 1) ((q.take k).map IT.val).toArray false s r false)
  but : But (fun k => k = c) w wr
set_option maxRecDepth 60000 in
set_option maxHeartbeats 4000000 in
theorem longer_any (w : World) (c cap : Nat) (q : List IT) (s r : Nat) (hc : w.heap[c]? = some (.chan cap (q.map IT.val).toArray false s r false)) (hcap : cap ≤ 30000) (hq : q.length ≤ cap) : Calls Try.prog 57 #[.chan (some c)] w fun e w' => e = .returned (.chan (some w.heap.size)) ∧ LgQ w c cap q w' := by
  have hcl : c < w.heap.size := by
    rcases Nat.lt_or_ge c w.heap.size with h | h
    · exact h
    · rw [Array.getElem?_eq_none h] at hc; cases hc
  have hcc := run_cap_chan (P := Try.prog) 71 3 Try.underlying71 hc
  have hmk : (Instr.makeChan 71 (.int .i64 (2 * (cap : Int) + 1))).run Try.prog w = .ok (.chan (some w.heap.size)) (w.alloc (.chan (2 * cap + 1) #[] false 0 0 false)) := by
    have := mkCh w (2 * cap + 1) (by omega)
    simpa using this
  obtain ⟨W, hW⟩ : ∃ W, W = w.alloc (.chan (2 * cap + 1) #[] false 0 0 false) := ⟨_, rfl⟩
  have hB : Below w.heap.size w W := by rw [hW]; exact (Below.refl _ _).alloc (Nat.le_refl _) _
  have hnew : W.heap[w.heap.size]? = some (.chan (2 * cap + 1) #[] false 0 0 false) := by rw [hW]; show (w.heap.push _)[w.heap.size]? = _; simp
  have hWc : W.heap[c]? = some (.chan cap (q.map IT.val).toArray false s r false) := (hB.block _ hcl).trans hc
  have hcls := run_close_open (P := Try.prog) #[71] 0 hWc
  have hcb := But.setChan W c cap (q.map IT.val).toArray true s r false
  have hcn := heap_setChan W c cap (q.map IT.val).toArray true s r false (Nat.lt_of_lt_of_le hcl hB.size)
  have hxl : w.heap.size < W.heap.size := by rw [hW]; simp
  rw [← hW] at hmk
  obtain ⟨W1, hW1⟩ : ∃ W1, W1 = W.setChan c cap (q.map IT.val).toArray true s r false := ⟨_, rfl⟩
  rw [← hW1] at hcb hcn
  change _ = Result.ok _ (W.setChan c cap (q.map IT.val).toArray true s r false) at hcls
  rw [← hW1] at hcls
  have H0 : Hid (LgR w c cap q 0 W1) := by
    refine ⟨Nat.zero_le _, ⟨s, r, by rw [hcn]; simp⟩, ⟨0, 0, ?_⟩, ⟨hcb.os.trans hB.os, hcb.tape.trans hB.tape, hcb.output.trans hB.output, Nat.le_trans hB.size hcb.size, fun k hk hn => (hcb.block k (Nat.lt_of_lt_of_le hk hB.size) hn).trans (hB.block k hk)⟩⟩
    rw [hcb.block _ hxl (by omega), hnew]; simp
  clear hc hnew hWc hcb hcn hW hW1 hB hxl
  go_enter Try.func57, Try.ntmps57
  go_wp2_with fail
  go_loopw [12] (fun _ wr => ∃ k, LgR w c cap q k wr) (fun _ wr => bufN wr c)
  case atStart => exact ⟨0, H0.out⟩
  case round =>
    obtain ⟨k, hR⟩ := hrel
    clear hmk hcc hcls
    obtain ⟨s1, r1, ho⟩ := hR.old
    obtain ⟨s2, r2, hn⟩ := hR.new
    have HR := hid hR
    have HO := hid ho
    have HN := hid hn
    have hk := hR.kl
    have hb0 := bufN_of ho
    cases hd : q.drop k with
    | nil =>
      have hkl : k = q.length := by have := congrArg List.length hd; simp at this; omega
      have HS : Hid (wr.heap[c]? = some (.chan cap #[] true s1 r1 false)) := by rw [HO.out, hd]; rfl
      have HK := hid hkl
      clear hR ho hn hd hkl hb0 hk
      go_upto_region 4 with fail
      refine wp_comm1 (cases := #[rcase c zI]) (blocking := true) (shape := .recv true) (w1 := wr) (v := .tuple #[zI, .bool false]) (w2 := wr) rfl (by simp [go_sem, execOp, rcase, Act.eval, zI]) (fun fr cs es h => one_shut h HS.out) ?_
      go_wp2
      refine bodyPost_ret (v := .chan (some w.heap.size)) (by simp [results, Try.results57, go_sem]) rfl ⟨rfl, ⟨?_, HR.out.but⟩⟩
      have := HN.out
      rw [HK.out, List.take_length] at this
      exact ⟨s2, r2, this⟩
    | cons x rest =>
      have hkl : k < q.length := by have := congrArg List.length hd; simp at this; omega
      have HS : Hid (wr.heap[c]? = some (.chan cap (x.val :: rest.map IT.val).toArray true s1 r1 false)) := by rw [HO.out, hd]; rfl
      have hx : q[k]? = some x := by have := congrArg (fun l : List IT => l[0]?) hd; simpa using this
      have htk : (q.take (k + 1)).map IT.val = (q.take k).map IT.val ++ [x.val] := by rw [List.take_add_one, hx]; simp
      have hdk : q.drop (k + 1) = rest := by have h2 := congrArg List.tail hd; simpa using h2
      have hls : wr.heap.size ≥ w.heap.size := hR.but.size
      have hnl : w.heap.size < wr.heap.size := by
        rcases Nat.lt_or_ge w.heap.size wr.heap.size with h | h
        · exact h
        · rw [Array.getElem?_eq_none h] at hn; cases hn
      have HT := hid (And.intro htk (And.intro hdk hb0))
      have htl : ((q.take k).map IT.val).length < 2 * cap + 1 := by simp; omega
      have HTL := hid htl
      clear hR ho hn htk hdk hx hb0 htl
      go_upto_region 4 with fail
      refine wp_comm1 (cases := #[rcase c zI]) (blocking := true) (shape := .recv true) (w1 := wr) (v := .tuple #[x.val, .bool true]) (w2 := wr.setChan c cap (rest.map IT.val).toArray true s1 (r1 + 1) false) rfl (by simp [go_sem, execOp, rcase, Act.eval, zI]) (fun fr cs es h => one_recv h HS.out) ?_
      have hb2 := But.setChan wr c cap (rest.map IT.val).toArray true s1 (r1 + 1) false
      have hc2 := heap_setChan wr c cap (rest.map IT.val).toArray true s1 (r1 + 1) false (by omega)
      have hn2 := (hb2.block _ hnl (by omega)).trans HN.out
      obtain ⟨W2, hW2⟩ : ∃ W2, W2 = wr.setChan c cap (rest.map IT.val).toArray true s1 (r1 + 1) false := ⟨_, rfl⟩
      rw [← hW2] at hb2 hc2 hn2 ⊢
      clear hW2
      have hnl2 : w.heap.size < W2.heap.size := Nat.lt_of_lt_of_le hnl hb2.size
      obtain ⟨W3, hW3⟩ : ∃ W3, W3 = W2.alloc (.cells #[.int .i64 x.mark, .string x.r.key, .int .i64 x.r.v.kind, .int .i64 x.r.v.int, .string x.r.v.text, .slice x.r.v.p x.r.v.n x.r.v.c, .slice x.r.p x.r.n x.r.c] 35) := ⟨_, rfl⟩
      have hX : Box W3 W2.heap.size #[.int .i64 x.mark, .string x.r.key, .int .i64 x.r.v.kind, .int .i64 x.r.v.int, .string x.r.v.text, .slice x.r.v.p x.r.v.n x.r.v.c, .slice x.r.p x.r.n x.r.c] 35 := by rw [hW3]; exact Box.new _ _ _
      have hB3 : Below W2.heap.size W2 W3 := by rw [hW3]; exact (Below.refl _ _).alloc (Nat.le_refl _) _
      have hn3 := (hB3.block _ hnl2).trans hn2
      have hc3 := (hB3.block _ (by omega)).trans hc2
      have z0 := hX.cell 0
      have z1 := hX.cell 1
      have z2 := hX.cell 2
      have z3 := hX.cell 3
      have z4 := hX.cell 4
      have z5 := hX.cell 5
      have z6 := hX.cell 6
      simp at z0 z1 z2 z3 z4 z5 z6
      have HN3 := hid hn3
      have HC3 := hid hc3
      have HB2 := hid hb2
      have HB3 := hid hB3
      have HW3 := hid hW3
      have xl := hX.lt
      clear hn3 hc3 hb2 hB3 hW3 hX hn2 hc2
      unfold IT.val
      go_upto_region 6 with fail
      rw [← HW3.out]
      refine wp_comm3 (cases := #[scase w.heap.size x.val (.tuple #[])]) (blocking := true) (shape := .send) (v0 := .chan (some w.heap.size)) (v1 := x.val) (w1 := W3) (v := undef) (w2 := W3.setChan w.heap.size (2 * cap + 1) ((q.take k).map IT.val ++ [x.val]).toArray false (s2 + 1) r2 false) rfl rfl rfl (by go_simp) (by simp only [IT.val]; go_simp) ?_ (fun fr cs es h => one_send h HN3.out HTL.out) ?_
      · simp [go_sem, execOp, scase, Act.eval, Act.put]
      have hb4 := But.setChan W3 w.heap.size (2 * cap + 1) ((q.take k).map IT.val ++ [x.val]).toArray false (s2 + 1) r2 false
      have hc4 := heap_setChan W3 w.heap.size (2 * cap + 1) ((q.take k).map IT.val ++ [x.val]).toArray false (s2 + 1) r2 false (by omega)
      simp only [Act.put, List.setIfInBounds_toArray, List.set_cons_succ, List.set_cons_zero]
      obtain ⟨W4, hW4⟩ : ∃ W4, W4 = W3.setChan w.heap.size (2 * cap + 1) ((q.take k).map IT.val ++ [x.val]).toArray false (s2 + 1) r2 false := ⟨_, rfl⟩
      rw [← hW4] at hb4 hc4 ⊢
      have ho4 := (hb4.block c (by omega) (by omega)).trans HC3.out
      have H4 : Hid (LgR w c cap q (k + 1) W4) := by
        refine ⟨hkl, ⟨_, _, by rw [ho4, HT.out.2.1]⟩, ⟨_, _, by rw [hc4, HT.out.1]⟩, ⟨hb4.os.trans (HB3.out.os.trans (HB2.out.os.trans HR.out.but.os)), hb4.tape.trans (HB3.out.tape.trans (HB2.out.tape.trans HR.out.but.tape)), hb4.output.trans (HB3.out.output.trans (HB2.out.output.trans HR.out.but.output)), ?_, fun j hj hn => ?_⟩⟩
        · have := hb4.size; have := HB3.out.size; have := HB2.out.size; omega
        · exact (hb4.block j (by omega) (by omega)).trans ((HB3.out.block j (by omega)).trans ((HB2.out.block j (by omega) hn).trans (HR.out.but.block j hj hn)))
      have hm := bufN_of ho4
      clear hb4 hc4 ho4 hW4
      go_wp2_with fail
      go_roundw
      case rel => exact ⟨k + 1, H4.out⟩
      case measure =>
        have e := HT.out.2.2
        rw [hd] at e
        simp at e hm
        omega
end Go.Proofs.Ytpldokahoamdpaa

namespace Go.Proofs.Ytpldokahoamdpaa
open Go.RowKit Go.Conc
set_option maxRecDepth 8000
def noRoom (w : World) (b : Nat) : Nat := match w.cell? ⟨b, 3, none⟩ with
  | some (.chan (some c)) => (match w.heap[c]? with | some (.chan cap buf _ _ _ _) => if buf.size < cap then 0 else 1 | _ => 0)
  | _ => 0
theorem noRoom_of {w : World} {b c cap : Nat} {buf : Array Value} {cl : Bool} {s r : Nat} {tm : Bool} (h0 : w.cell? ⟨b, 3, none⟩ = some (.chan (some c))) (h : w.heap[c]? = some (.chan cap buf cl s r tm)) : noRoom w b = if buf.size < cap then 0 else 1 := by
  unfold noRoom; rw [h0]; simp only []; rw [h]
structure LayR (w : World) (b : Nat) (L : Ln) (x : IT) (ch cap : Nat) (wr : World) : Prop where
  box : Box wr b #[.int .i64 L.room, .int .i64 (nR (L.q ++ [x]) : Nat), L.nextV, .chan (some ch)] 74
  buf : ∃ s r, wr.heap[ch]? = some (.chan cap (L.inCh.map IT.val).toArray false s r false)
  x : Box wr w.heap.size #[.int .i64 x.mark, .string x.r.key, .int .i64 x.r.v.kind, .int .i64 x.r.v.int, .string x.r.v.text, .slice x.r.v.p x.r.v.n x.r.v.c, .slice x.r.p x.r.n x.r.c] 35
  but : But (L.C b) w wr
  ch : ch = L.ch ∨ w.heap.size < ch
  nxt : ∀ n, L.next = some n → wr.heap[n]? = w.heap[n]?
  cp : cap ≤ 60001
  fit : L.inCh.length ≤ cap
theorem LayR.done {w wr w2 : World} {Z : Nat → Prop} {b : Nat} {L : Ln} {x : IT} {ch cap : Nat} (hI : LnI w Z b L) (hZ : ∀ k, Z k → k < w.heap.size) (hx : IT.In w (fun k => ¬ L.C b k ∧ ¬ Z k) x) (hf : IT.Fine x) (hlen : L.q.length < 30000) (h : LayR w b L x ch cap wr)
    (hb : But (fun k => k = ch) wr w2) {s r : Nat} (hc : w2.heap[ch]? = some (.chan cap ((L.inCh ++ [x]).map IT.val).toArray false s r false)) (hr : L.inCh.length < cap) :
    LSet w Z b L w2 ⟨L.room, L.next, ch, cap, L.q ++ [x]⟩ := by
  have hbl := hI.b_lt
  have hws := h.but.size
  have hbc : b ≠ ch := by
    rcases h.ch with e | e
    · rw [e]; exact hI.b_ch
    · omega
  have hin : Ln.inCh ⟨L.room, L.next, ch, cap, L.q ++ [x]⟩ = L.inCh ++ [x] := by
    unfold Ln.inCh
    cases hn : L.next with
    | none => simp
    | some n =>
      obtain ⟨y, q', e, _⟩ := hI.nxt n hn
      simp [e]
  have hC : ∀ k, Ln.C ⟨L.room, L.next, ch, cap, L.q ++ [x]⟩ b k → L.C b k ∨ w.heap.size < k := by
    rintro k (e | e | e)
    · exact .inl (.inl e)
    · rcases h.ch with e2 | e2
      · exact .inl (.inr (.inl (e.trans e2)))
      · exact .inr (by rw [show k = ch from e]; exact e2)
    · exact .inl (.inr (.inr e))
  have hbt : But (L.C b) w w2 := by
    refine ⟨hb.os.trans h.but.os, hb.tape.trans h.but.tape, hb.output.trans h.but.output, Nat.le_trans h.but.size hb.size, fun k hk hn => ?_⟩
    refine (hb.block k (by omega) fun e => ?_).trans (h.but.block k hk hn)
    rcases h.ch with e2 | e2
    · exact hn (.inr (.inl (e.trans e2)))
    · omega
  refine ⟨⟨h.box.kept (hb.block _ (by omega) hbc), ⟨s, r, by rw [hin]; exact hc⟩, fun n hn => ?_, hI.r0, hI.r1, h.cp, by simp; omega, fun y hy => ?_, fun k hk => ?_, by rw [hin]; simp; omega⟩, hbt, fun k hk => ?_, rfl⟩
  · obtain ⟨y, q', e, hbx⟩ := hI.nxt n hn
    have hnl := hI.n_lt hn
    have hnc := hI.n_ch hn
    refine ⟨y, q' ++ [x], by rw [show (Ln.mk L.room L.next ch cap (L.q ++ [x])).q = L.q ++ [x] from rfl, e]; rfl, ?_⟩
    have hne : n ≠ ch := by
      rcases h.ch with e2 | e2
      · rw [e2]; exact hnc
      · omega
    exact hbx.kept ((hb.block n (by omega) hne).trans (h.nxt n hn))
  · have hy2 : IT.In w (fun k => ¬ L.C b k ∧ ¬ Z k) y ∧ IT.Fine y := by
      rcases List.mem_append.1 hy with hy | hy
      · exact hI.it y hy
      · rw [List.mem_singleton.1 hy]; exact ⟨hx, hf⟩
    refine ⟨(hy2.1.mono (S' := fun k => (¬ L.C b k ∧ ¬ Z k) ∧ k < w.heap.size) fun k hk hl => ⟨hk, hl⟩).kept hbt.size (fun k hk _ => hbt.block k hk.2 hk.1.1) |>.mono fun k hk _ => ⟨fun e => ?_, hk.1.2⟩, hy2.2⟩
    rcases hC k e with e | e
    · exact hk.1.1 e
    · omega
  · rcases hC k hk with e | e
    · exact hI.cz k e
    · intro hz; have := hZ k hz; omega
  · rcases hC k hk with e | e
    · exact .inl e
    · exact .inr (by omega)
def LayQ (w : World) (Z : Nat → Prop) (b : Nat) (L : Ln) (x : IT) (w' : World) : Prop := ∃ ch cap, LSet w Z b L w' ⟨L.room, L.next, ch, cap, L.q ++ [x]⟩
set_option maxRecDepth 60000 in
set_option maxHeartbeats 4000000 in
/-- lay -/
theorem lay_any (w : World) (Z : Nat → Prop) (b : Nat) (L : Ln) (x : IT) (hI : LnI w Z b L) (hZ : ∀ k, Z k → k < w.heap.size) (hx : IT.In w (fun k => ¬ L.C b k ∧ ¬ Z k) x) (hf : IT.Fine x) (hlen : L.q.length < 30000) :
    Calls Try.prog 30 #[.pointer (some ⟨b, 0, none⟩), .agg #[.int .i64 x.mark, .string x.r.key, .int .i64 x.r.v.kind, .int .i64 x.r.v.int, .string x.r.v.text, .slice x.r.v.p x.r.v.n x.r.v.c, .slice x.r.p x.r.n x.r.c]] w fun e w' => e = .returned (.tuple #[]) ∧ LayQ w Z b L x w' := by
  obtain ⟨W, hW⟩ : ∃ W, W = w.alloc (.cells #[.int .i64 x.mark, .string x.r.key, .int .i64 x.r.v.kind, .int .i64 x.r.v.int, .string x.r.v.text, .slice x.r.v.p x.r.v.n x.r.v.c, .slice x.r.p x.r.n x.r.c] 35) := ⟨_, rfl⟩
  have hB : Below w.heap.size w W := by rw [hW]; exact (Below.refl _ _).alloc (Nat.le_refl _) _
  have hX : Box W w.heap.size #[.int .i64 x.mark, .string x.r.key, .int .i64 x.r.v.kind, .int .i64 x.r.v.int, .string x.r.v.text, .slice x.r.v.p x.r.v.n x.r.v.c, .slice x.r.p x.r.n x.r.c] 35 := by rw [hW]; exact Box.new _ _ _
  have HD := hid (fun ch cap wr w2 (h : LayR w b L x ch cap wr) => LayR.done (w2 := w2) hI hZ hx hf hlen h)
  have HI := hid hI
  have HB := hid hB
  have HX := hid hX
  have HW := hid hW
  have HR := hid (isRec_any x W)
  have hbl := hI.b_lt
  have hcl := hI.ch_lt
  have hbc := hI.b_ch
  have hq1 : nR L.q ≤ 30000 := Nat.le_trans (nR_le _) hI.len
  have hil : L.inCh.length ≤ 30000 := by have := hI.inCh_len; have := hI.len; omega
  have z0 := hX.cell 0
  have z1 := hX.cell 1
  have z2 := hX.cell 2
  have z3 := hX.cell 3
  have z4 := hX.cell 4
  have z5 := hX.cell 5
  have z6 := hX.cell 6
  simp at z0 z1 z2 z3 z4 z5 z6
  clear hI hZ hx hf hB hX hW hlen
  go_enter Try.func30, Try.ntmps30
  go_upto_region 1 with fail
  rw [← HW.out]
  go_wp2_with fail
  refine HR.out.mono ?_
  rintro e w1 ⟨rfl, hB1⟩
  have hI1 := (HI.out.below HB.out).below hB1
  have c1 := hI1.c1
  have g1 := hI1.box.frozen 1
  have H1 := hid (And.intro hI1 (And.intro (HX.out.below hB1) (HB.out.trans (hB1.mono HB.out.size))))
  clear hB1 hI1 z0 z1 z2 z3 z4 z5 z6 HR
  by_cases hm : x.mark = 0
  · have hm' : (x.mark == 0) = true := by simp [hm]
    rw [hm']
    have H0 : Hid (LayR w b L x L.ch L.cap (w1.setCell ⟨b, 1, none⟩ (.int .i64 ((nR L.q : Int) + 1)))) := by
      have hs := (But.one w1 b).setAt 1 (.int .i64 ((nR L.q : Int) + 1))
      have hbw := H1.out.2.2
      have hws := hbw.size
      obtain ⟨s, r, hc⟩ := H1.out.1.buf
      refine ⟨?_, ⟨s, r, (hs.block _ (by omega) (by omega)).trans hc⟩, H1.out.2.1.but hs (by omega), ?_, .inl rfl, fun n hn => ?_, HI.out.cp, HI.out.fit⟩
      · have h5 := H1.out.1.box.set 1 (.int .i64 ((nR L.q : Int) + 1))
        rw [nR_append, nR_cons0 [] hm]
        simpa [nR] using h5
      · exact ⟨hs.os.trans hbw.os, hs.tape.trans hbw.tape, hs.output.trans hbw.output, by have := hs.size; omega, fun k hk hn => (hs.block k (by omega) fun e => hn (.inl e)).trans (hbw.block k hk)⟩
      · have hnl := HI.out.n_lt hn
        exact (hs.block n (by omega) (Ne.symm (HI.out.b_n hn))).trans (hbw.block n hnl)
    have hbl1 : b < w1.heap.size := by have := H1.out.2.2.size; omega
    clear hm' hm
    go_wp2_with fail
    go_loopw [13] (fun _ wr => ∃ ch cap, LayR w b L x ch cap wr) (fun _ wr => noRoom wr b)
    case atStart => exact ⟨_, _, H0.out⟩
    case round =>
      obtain ⟨ch, cap, hR⟩ := hrel
      obtain ⟨s, r, hc⟩ := hR.buf
      have HLR := hid hR
      have HC := hid hc
      have hX := hR.x
      have z0 := hX.cell 0
      have z1 := hX.cell 1
      have z2 := hX.cell 2
      have z3 := hX.cell 3
      have z4 := hX.cell 4
      have z5 := hX.cell 5
      have z6 := hX.cell 6
      simp at z0 z1 z2 z3 z4 z5 z6
      have xl := hX.lt
      have c3 : wr.cell? ⟨b, 3, none⟩ = some (.chan (some ch)) := by rw [hR.box.cell]; rfl
      have g3 := hR.box.frozen 3
      have bl := hR.box.lt
      have hnr := hid (noRoom_of c3 hc)
      have hfit := hR.fit
      clear hR hc hX H0
      go_upto_region 5 with fail
      by_cases hr : L.inCh.length < cap
      · refine wp_comm1 (cases := #[scase ch x.val zI]) (blocking := false) (shape := .select) (w1 := wr) (v := .tuple #[goInt 0, .bool false]) (w2 := wr.setChan ch cap (L.inCh.map IT.val ++ [x.val]).toArray false (s + 1) r false) rfl (by simp [go_sem, execOp, scase, Act.eval, zI, IT.val]) (fun fr cs es h => sel_send h HC.out (by simpa using hr)) ?_
        have hcl2 : ch < wr.heap.size := by
          have := HC.out
          rcases Nat.lt_or_ge ch wr.heap.size with h | h
          · exact h
          · rw [Array.getElem?_eq_none h] at this; cases this
        have hb2 := But.setChan wr ch cap (L.inCh.map IT.val ++ [x.val]).toArray false (s + 1) r false
        have hc2 := heap_setChan wr ch cap (L.inCh.map IT.val ++ [x.val]).toArray false (s + 1) r false hcl2
        have HE := hid (HD.out ch cap wr _ HLR.out hb2 (s := s + 1) (r := r) (by rw [hc2]; simp) hr)
        clear hb2 hc2
        go_wp2
        exact bodyPost_ret (v := .tuple #[]) (by simp [results, Try.results30, go_sem]) rfl ⟨rfl, ch, cap, HE.out⟩
      · have hr2 : cap ≤ L.inCh.length := by omega
        refine wp_comm1 (cases := #[scase ch x.val zI]) (blocking := false) (shape := .select) (w1 := wr) (v := .tuple #[goInt (-1), .bool false]) (w2 := wr) rfl (by simp [go_sem, execOp, scase, Act.eval, zI, IT.val]) (fun fr cs es h => sel_full h HC.out (by simpa using hr2)) ?_
        have HLg := hid (longer_any wr ch cap L.inCh s r HC.out (by omega) (by omega))
        go_wp2_with fail
        refine HLg.out.mono ?_
        rintro e w3 ⟨rfl, hL3⟩
        have hne : b ≠ ch := by
          rcases HLR.out.ch with e2 | e2
          · rw [e2]; exact hbc
          · omega
        have hbx3 := HLR.out.box.but hL3.but hne
        have hxx3 : Box w3 w.heap.size _ _ := HLR.out.x.but hL3.but (by rcases HLR.out.ch with e2 | e2 <;> omega)
        have bl3 := hbx3.lt
        have g33 := hbx3.frozen 3
        have c33 : w3.cell? ⟨b, 3, none⟩ = some (.chan (some ch)) := by rw [hbx3.cell]; rfl
        have HB3 := hid hbx3
        have HX3 := hid hxx3
        have HL3 := hid hL3
        clear hbx3 hxx3 hL3
        have HS : Hid (LayR w b L x wr.heap.size (2 * cap + 1) (w3.setCell ⟨b, 3, none⟩ (.chan (some wr.heap.size)))) := by
          have hs := (But.one w3 b).setAt 3 (.chan (some wr.heap.size))
          have hsz := HL3.out.but.size
          have hwz := HLR.out.but.size
          obtain ⟨s4, r4, hc4⟩ := HL3.out.new
          have hlt : wr.heap.size < w3.heap.size := by
            rcases Nat.lt_or_ge wr.heap.size w3.heap.size with h | h
            · exact h
            · rw [Array.getElem?_eq_none h] at hc4; cases hc4
          refine ⟨?_, ⟨s4, r4, (hs.block _ hlt (by omega)).trans hc4⟩, HX3.out.but hs (by omega), ?_, .inr (by have := HLR.out.x.lt; omega), fun n hn => ?_, by omega, by omega⟩
          · have := HB3.out.set 3 (.chan (some wr.heap.size))
            simpa only [List.setIfInBounds_toArray, List.set_cons_zero, List.set_cons_succ] using this
          · refine ⟨hs.os.trans (HL3.out.but.os.trans HLR.out.but.os), hs.tape.trans (HL3.out.but.tape.trans HLR.out.but.tape), hs.output.trans (HL3.out.but.output.trans HLR.out.but.output), by have := hs.size; omega, fun k hk hn => ?_⟩
            refine (hs.block k (by omega) fun e => hn (.inl e)).trans ((HL3.out.but.block k (by omega) fun e => ?_).trans (HLR.out.but.block k hk hn))
            rcases HLR.out.ch with e2 | e2
            · exact hn (.inr (.inl (e.trans e2)))
            · omega
          · have hnl := HI.out.n_lt hn
            refine (hs.block n (by omega) (Ne.symm (HI.out.b_n hn))).trans ((HL3.out.but.block n (by omega) ?_).trans (HLR.out.nxt n hn))
            rcases HLR.out.ch with e2 | e2
            · rw [e2]; exact HI.out.n_ch hn
            · omega
        have hm2 : Hid (noRoom (w3.setCell ⟨b, 3, none⟩ (.chan (some wr.heap.size))) b < noRoom wr b) := by
          obtain ⟨s4, r4, hc4⟩ := HS.out.buf
          have e3 : (w3.setCell ⟨b, 3, none⟩ (.chan (some wr.heap.size))).cell? ⟨b, 3, none⟩ = some (.chan (some wr.heap.size)) := by rw [HS.out.box.cell]; rfl
          show _ < _
          rw [noRoom_of e3 hc4, hnr.out, if_pos (by simp; omega), if_neg (by simp; omega)]
          omega
        go_wp2_with fail
        go_roundw
        case rel => exact ⟨_, _, HS.out⟩
        case measure => exact hm2.out
  · have hm' : (x.mark == 0) = false := by simp [hm]
    rw [hm']
    have H0 : Hid (LayR w b L x L.ch L.cap w1) := by
      have hbw := H1.out.2.2
      obtain ⟨s, r, hc⟩ := H1.out.1.buf
      refine ⟨?_, ⟨s, r, hc⟩, H1.out.2.1, But.ofBelow hbw, .inl rfl, fun n hn => hbw.block n (HI.out.n_lt hn), HI.out.cp, HI.out.fit⟩
      have h5 := H1.out.1.box
      rw [nR_append, nR_cons1 [] hm]
      simpa [nR] using h5
    clear hm' hm
    go_wp2_with fail
    go_loopw [13] (fun _ wr => ∃ ch cap, LayR w b L x ch cap wr) (fun _ wr => noRoom wr b)
    case atStart => exact ⟨_, _, H0.out⟩
    case round =>
      obtain ⟨ch, cap, hR⟩ := hrel
      obtain ⟨s, r, hc⟩ := hR.buf
      have HLR := hid hR
      have HC := hid hc
      have hX := hR.x
      have z0 := hX.cell 0
      have z1 := hX.cell 1
      have z2 := hX.cell 2
      have z3 := hX.cell 3
      have z4 := hX.cell 4
      have z5 := hX.cell 5
      have z6 := hX.cell 6
      simp at z0 z1 z2 z3 z4 z5 z6
      have xl := hX.lt
      have c3 : wr.cell? ⟨b, 3, none⟩ = some (.chan (some ch)) := by rw [hR.box.cell]; rfl
      have g3 := hR.box.frozen 3
      have bl := hR.box.lt
      have hnr := hid (noRoom_of c3 hc)
      have hfit := hR.fit
      clear hR hc hX H0
      go_upto_region 5 with fail
      by_cases hr : L.inCh.length < cap
      · refine wp_comm1 (cases := #[scase ch x.val zI]) (blocking := false) (shape := .select) (w1 := wr) (v := .tuple #[goInt 0, .bool false]) (w2 := wr.setChan ch cap (L.inCh.map IT.val ++ [x.val]).toArray false (s + 1) r false) rfl (by simp [go_sem, execOp, scase, Act.eval, zI, IT.val]) (fun fr cs es h => sel_send h HC.out (by simpa using hr)) ?_
        have hcl2 : ch < wr.heap.size := by
          have := HC.out
          rcases Nat.lt_or_ge ch wr.heap.size with h | h
          · exact h
          · rw [Array.getElem?_eq_none h] at this; cases this
        have hb2 := But.setChan wr ch cap (L.inCh.map IT.val ++ [x.val]).toArray false (s + 1) r false
        have hc2 := heap_setChan wr ch cap (L.inCh.map IT.val ++ [x.val]).toArray false (s + 1) r false hcl2
        have HE := hid (HD.out ch cap wr _ HLR.out hb2 (s := s + 1) (r := r) (by rw [hc2]; simp) hr)
        clear hb2 hc2
        go_wp2
        exact bodyPost_ret (v := .tuple #[]) (by simp [results, Try.results30, go_sem]) rfl ⟨rfl, ch, cap, HE.out⟩
      · have hr2 : cap ≤ L.inCh.length := by omega
        refine wp_comm1 (cases := #[scase ch x.val zI]) (blocking := false) (shape := .select) (w1 := wr) (v := .tuple #[goInt (-1), .bool false]) (w2 := wr) rfl (by simp [go_sem, execOp, scase, Act.eval, zI, IT.val]) (fun fr cs es h => sel_full h HC.out (by simpa using hr2)) ?_
        have HLg := hid (longer_any wr ch cap L.inCh s r HC.out (by omega) (by omega))
        go_wp2_with fail
        refine HLg.out.mono ?_
        rintro e w3 ⟨rfl, hL3⟩
        have hne : b ≠ ch := by
          rcases HLR.out.ch with e2 | e2
          · rw [e2]; exact hbc
          · omega
        have hbx3 := HLR.out.box.but hL3.but hne
        have hxx3 : Box w3 w.heap.size _ _ := HLR.out.x.but hL3.but (by rcases HLR.out.ch with e2 | e2 <;> omega)
        have bl3 := hbx3.lt
        have g33 := hbx3.frozen 3
        have c33 : w3.cell? ⟨b, 3, none⟩ = some (.chan (some ch)) := by rw [hbx3.cell]; rfl
        have HB3 := hid hbx3
        have HX3 := hid hxx3
        have HL3 := hid hL3
        clear hbx3 hxx3 hL3
        have HS : Hid (LayR w b L x wr.heap.size (2 * cap + 1) (w3.setCell ⟨b, 3, none⟩ (.chan (some wr.heap.size)))) := by
          have hs := (But.one w3 b).setAt 3 (.chan (some wr.heap.size))
          have hsz := HL3.out.but.size
          have hwz := HLR.out.but.size
          obtain ⟨s4, r4, hc4⟩ := HL3.out.new
          have hlt : wr.heap.size < w3.heap.size := by
            rcases Nat.lt_or_ge wr.heap.size w3.heap.size with h | h
            · exact h
            · rw [Array.getElem?_eq_none h] at hc4; cases hc4
          refine ⟨?_, ⟨s4, r4, (hs.block _ hlt (by omega)).trans hc4⟩, HX3.out.but hs (by omega), ?_, .inr (by have := HLR.out.x.lt; omega), fun n hn => ?_, by omega, by omega⟩
          · have := HB3.out.set 3 (.chan (some wr.heap.size))
            simpa only [List.setIfInBounds_toArray, List.set_cons_zero, List.set_cons_succ] using this
          · refine ⟨hs.os.trans (HL3.out.but.os.trans HLR.out.but.os), hs.tape.trans (HL3.out.but.tape.trans HLR.out.but.tape), hs.output.trans (HL3.out.but.output.trans HLR.out.but.output), by have := hs.size; omega, fun k hk hn => ?_⟩
            refine (hs.block k (by omega) fun e => hn (.inl e)).trans ((HL3.out.but.block k (by omega) fun e => ?_).trans (HLR.out.but.block k hk hn))
            rcases HLR.out.ch with e2 | e2
            · exact hn (.inr (.inl (e.trans e2)))
            · omega
          · have hnl := HI.out.n_lt hn
            refine (hs.block n (by omega) (Ne.symm (HI.out.b_n hn))).trans ((HL3.out.but.block n (by omega) ?_).trans (HLR.out.nxt n hn))
            rcases HLR.out.ch with e2 | e2
            · rw [e2]; exact HI.out.n_ch hn
            · omega
        have hm2 : Hid (noRoom (w3.setCell ⟨b, 3, none⟩ (.chan (some wr.heap.size))) b < noRoom wr b) := by
          obtain ⟨s4, r4, hc4⟩ := HS.out.buf
          have e3 : (w3.setCell ⟨b, 3, none⟩ (.chan (some wr.heap.size))).cell? ⟨b, 3, none⟩ = some (.chan (some wr.heap.size)) := by rw [HS.out.box.cell]; rfl
          show _ < _
          rw [noRoom_of e3 hc4, hnr.out, if_pos (by simp; omega), if_neg (by simp; omega)]
          omega
        go_wp2_with fail
        go_roundw
        case rel => exact ⟨_, _, HS.out⟩
        case measure => exact hm2.out
end Go.Proofs.Ytpldokahoamdpaa
