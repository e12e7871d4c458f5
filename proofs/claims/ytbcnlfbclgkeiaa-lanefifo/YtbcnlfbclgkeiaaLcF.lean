import Derived.Test.YtbcnlfbclgkeiaaLcE
namespace Go.Proofs.Ytbcnlfbclgkeiaa
open Go.RowKit Go.Conc
set_option maxRecDepth 8000
theorem mkCh (w : World) (T : Nat) (hT : T ≤ 60001) : (Instr.makeChan 71 (.int .i64 (T : Int))).run Try.prog w = .ok (.chan (some w.heap.size)) (w.alloc (.chan T #[] false 0 0 false)) := by
  obtain ⟨i0, hi, hz⟩ : ∃ i, Try.prog.info? 35 = some i ∧ i.bytes = 104 := by
    have h : (Try.prog.info? 35).map (fun i => i.bytes) = some 104 := by kernel_rfl
    cases hq : Try.prog.info? 35 with
    | none => rw [hq] at h; cases h
    | some i => rw [hq] at h; exact ⟨i, rfl, by simpa using h⟩
  exact run_makeChan Try.underlying71 hi .i64 T (by omega) (by rw [hz]; omega)
def bufN (w : World) (c : Nat) : Nat := match w.heap[c]? with | some (.chan _ buf _ _ _ _) => buf.size | _ => 0
theorem bufN_of {w : World} {c cap : Nat} {buf : Array Value} {cl : Bool} {s r : Nat} {tm : Bool} (h : w.heap[c]? = some (.chan cap buf cl s r tm)) : bufN w c = buf.size := by
  unfold bufN; rw [h]
structure LgQ (w : World) (c cap : Nat) (q : List IT) (w' : World) : Prop where
  new : ∃ s r, w'.heap[w.heap.size]? = some (.chan (2 * cap + 1) (q.map IT.val).toArray false s r false)
  but : But (fun k => k = c) w w'
structure LgR (w : World) (c cap : Nat) (q : List IT) (k : Nat) (wr : World) : Prop where
  kl : k ≤ q.length
  old : ∃ s r, wr.heap[c]? = some (.chan cap ((q.drop k).map IT.val).toArray true s r false)
  new : ∃ s r, wr.heap[w.heap.size]? = some (.chan (2 * cap + 1) ((q.take k).map IT.val).toArray false s r false)
  but : But (fun k => k = c) w wr
set_option maxRecDepth 60000 in
set_option maxHeartbeats 4000000 in
theorem longer_any (w : World) (c cap : Nat) (q : List IT) (s r : Nat) (hc : w.heap[c]? = some (.chan cap (q.map IT.val).toArray false s r false)) (hcap : cap ≤ 30000) (hq : q.length ≤ cap) : Calls Try.prog 57 #[.chan (some c)] w fun e w' => e = .returned (.chan (some w.heap.size)) ∧ LgQ w c cap q w' := by
  have hcl : c < w.heap.size := by
    rcases Nat.lt_or_ge c w.heap.size with h | h
    · exact h
    · rw [Array.getElem?_eq_none h] at hc; cases hc
  have hcc := run_cap_chan (P := Try.prog) 71 3 Try.underlying71 hc
  have hmk : (Instr.makeChan 71 (.int .i64 (2 * (cap : Int) + 1))).run Try.prog w = .ok (.chan (some w.heap.size)) (w.alloc (.chan (2 * cap + 1) #[] false 0 0 false)) := by
    have := mkCh w (2 * cap + 1) (by omega)
    simpa using this
  obtain ⟨W, hW⟩ : ∃ W, W = w.alloc (.chan (2 * cap + 1) #[] false 0 0 false) := ⟨_, rfl⟩
  have hB : Below w.heap.size w W := by rw [hW]; exact (Below.refl _ _).alloc (Nat.le_refl _) _
  have hnew : W.heap[w.heap.size]? = some (.chan (2 * cap + 1) #[] false 0 0 false) := by rw [hW]; show (w.heap.push _)[w.heap.size]? = _; simp
  have hWc : W.heap[c]? = some (.chan cap (q.map IT.val).toArray false s r false) := (hB.block _ hcl).trans hc
  have hcls := run_close_open (P := Try.prog) #[71] 0 hWc
  have hcb := But.setChan W c cap (q.map IT.val).toArray true s r false
  have hcn := heap_setChan W c cap (q.map IT.val).toArray true s r false (Nat.lt_of_lt_of_le hcl hB.size)
  have hxl : w.heap.size < W.heap.size := by rw [hW]; simp
  rw [← hW] at hmk
  obtain ⟨W1, hW1⟩ : ∃ W1, W1 = W.setChan c cap (q.map IT.val).toArray true s r false := ⟨_, rfl⟩
  rw [← hW1] at hcb hcn
  change _ = Result.ok _ (W.setChan c cap (q.map IT.val).toArray true s r false) at hcls
  rw [← hW1] at hcls
  have H0 : Hid (LgR w c cap q 0 W1) := by
    refine ⟨Nat.zero_le _, ⟨s, r, by rw [hcn]; simp⟩, ⟨0, 0, ?_⟩, ⟨hcb.os.trans hB.os, hcb.tape.trans hB.tape, hcb.output.trans hB.output, Nat.le_trans hB.size hcb.size, fun k hk hn => (hcb.block k (Nat.lt_of_lt_of_le hk hB.size) hn).trans (hB.block k hk)⟩⟩
    rw [hcb.block _ hxl (by omega), hnew]; simp
  clear hc hnew hWc hcb hcn hW hW1 hB hxl
  go_enter Try.func57, Try.ntmps57
  go_wp2_with fail
  go_loopw [12] (fun _ wr => ∃ k, LgR w c cap q k wr) (fun _ wr => bufN wr c)
  case atStart => exact ⟨0, H0.out⟩
  case round =>
    obtain ⟨k, hR⟩ := hrel
    clear hmk hcc hcls
    obtain ⟨s1, r1, ho⟩ := hR.old
    obtain ⟨s2, r2, hn⟩ := hR.new
    have HR := hid hR
    have HO := hid ho
    have HN := hid hn
    have hk := hR.kl
    have hb0 := bufN_of ho
    cases hd : q.drop k with
    | nil =>
      have hkl : k = q.length := by have := congrArg List.length hd; simp at this; omega
      have HS : Hid (wr.heap[c]? = some (.chan cap #[] true s1 r1 false)) := by rw [HO.out, hd]; rfl
      have HK := hid hkl
      clear hR ho hn hd hkl hb0 hk
      go_upto_region 4 with fail
      refine wp_comm1 (cases := #[rcase c zI]) (blocking := true) (shape := .recv true) (w1 := wr) (v := .tuple #[zI, .bool false]) (w2 := wr) rfl (by simp [go_sem, execOp, rcase, Act.eval, zI]) (fun fr cs es h => one_shut h HS.out) ?_
      go_wp2
      refine bodyPost_ret (v := .chan (some w.heap.size)) (by simp [results, Try.results57, go_sem]) rfl ⟨rfl, ⟨?_, HR.out.but⟩⟩
      have := HN.out
      rw [HK.out, List.take_length] at this
      exact ⟨s2, r2, this⟩
    | cons x rest =>
      have hkl : k < q.length := by have := congrArg List.length hd; simp at this; omega
      have HS : Hid (wr.heap[c]? = some (.chan cap (x.val :: rest.map IT.val).toArray true s1 r1 false)) := by rw [HO.out, hd]; rfl
      have hx : q[k]? = some x := by have := congrArg (fun l : List IT => l[0]?) hd; simpa using this
      have htk : (q.take (k + 1)).map IT.val = (q.take k).map IT.val ++ [x.val] := by rw [List.take_add_one, hx]; simp
      have hdk : q.drop (k + 1) = rest := by have h2 := congrArg List.tail hd; simpa using h2
      have hls : wr.heap.size ≥ w.heap.size := hR.but.size
      have hnl : w.heap.size < wr.heap.size := by
        rcases Nat.lt_or_ge w.heap.size wr.heap.size with h | h
        · exact h
        · rw [Array.getElem?_eq_none h] at hn; cases hn
      have HT := hid (And.intro htk (And.intro hdk hb0))
      have htl : ((q.take k).map IT.val).length < 2 * cap + 1 := by simp; omega
      have HTL := hid htl
      clear hR ho hn htk hdk hx hb0 htl
      go_upto_region 4 with fail
      refine wp_comm1 (cases := #[rcase c zI]) (blocking := true) (shape := .recv true) (w1 := wr) (v := .tuple #[x.val, .bool true]) (w2 := wr.setChan c cap (rest.map IT.val).toArray true s1 (r1 + 1) false) rfl (by simp [go_sem, execOp, rcase, Act.eval, zI]) (fun fr cs es h => one_recv h HS.out) ?_
      have hb2 := But.setChan wr c cap (rest.map IT.val).toArray true s1 (r1 + 1) false
      have hc2 := heap_setChan wr c cap (rest.map IT.val).toArray true s1 (r1 + 1) false (by omega)
      have hn2 := (hb2.block _ hnl (by omega)).trans HN.out
      obtain ⟨W2, hW2⟩ : ∃ W2, W2 = wr.setChan c cap (rest.map IT.val).toArray true s1 (r1 + 1) false := ⟨_, rfl⟩
      rw [← hW2] at hb2 hc2 hn2 ⊢
      clear hW2
      have hnl2 : w.heap.size < W2.heap.size := Nat.lt_of_lt_of_le hnl hb2.size
      obtain ⟨W3, hW3⟩ : ∃ W3, W3 = W2.alloc (.cells #[.int .i64 x.mark, .string x.r.key, .int .i64 x.r.v.kind, .int .i64 x.r.v.int, .string x.r.v.text, .slice x.r.v.p x.r.v.n x.r.v.c, .slice x.r.p x.r.n x.r.c] 35) := ⟨_, rfl⟩
      have hX : Box W3 W2.heap.size #[.int .i64 x.mark, .string x.r.key, .int .i64 x.r.v.kind, .int .i64 x.r.v.int, .string x.r.v.text, .slice x.r.v.p x.r.v.n x.r.v.c, .slice x.r.p x.r.n x.r.c] 35 := by rw [hW3]; exact Box.new _ _ _
      have hB3 : Below W2.heap.size W2 W3 := by rw [hW3]; exact (Below.refl _ _).alloc (Nat.le_refl _) _
      have hn3 := (hB3.block _ hnl2).trans hn2
      have hc3 := (hB3.block _ (by omega)).trans hc2
      have z0 := hX.cell 0
      have z1 := hX.cell 1
      have z2 := hX.cell 2
      have z3 := hX.cell 3
      have z4 := hX.cell 4
      have z5 := hX.cell 5
      have z6 := hX.cell 6
      simp at z0 z1 z2 z3 z4 z5 z6
      have HN3 := hid hn3
      have HC3 := hid hc3
      have HB2 := hid hb2
      have HB3 := hid hB3
      have HW3 := hid hW3
      have xl := hX.lt
      clear hn3 hc3 hb2 hB3 hW3 hX hn2 hc2
      unfold IT.val
      go_upto_region 6 with fail
      rw [← HW3.out]
      refine wp_comm3 (cases := #[scase w.heap.size x.val (.tuple #[])]) (blocking := true) (shape := .send) (v0 := .chan (some w.heap.size)) (v1 := x.val) (w1 := W3) (v := undef) (w2 := W3.setChan w.heap.size (2 * cap + 1) ((q.take k).map IT.val ++ [x.val]).toArray false (s2 + 1) r2 false) rfl rfl rfl (by go_simp) (by simp only [IT.val]; go_simp) ?_ (fun fr cs es h => one_send h HN3.out HTL.out) ?_
      · simp [go_sem, execOp, scase, Act.eval, Act.put]
      have hb4 := But.setChan W3 w.heap.size (2 * cap + 1) ((q.take k).map IT.val ++ [x.val]).toArray false (s2 + 1) r2 false
      have hc4 := heap_setChan W3 w.heap.size (2 * cap + 1) ((q.take k).map IT.val ++ [x.val]).toArray false (s2 + 1) r2 false (by omega)
      simp only [Act.put, List.setIfInBounds_toArray, List.set_cons_succ, List.set_cons_zero]
      obtain ⟨W4, hW4⟩ : ∃ W4, W4 = W3.setChan w.heap.size (2 * cap + 1) ((q.take k).map IT.val ++ [x.val]).toArray false (s2 + 1) r2 false := ⟨_, rfl⟩
      rw [← hW4] at hb4 hc4 ⊢
      have ho4 := (hb4.block c (by omega) (by omega)).trans HC3.out
      have H4 : Hid (LgR w c cap q (k + 1) W4) := by
        refine ⟨hkl, ⟨_, _, by rw [ho4, HT.out.2.1]⟩, ⟨_, _, by rw [hc4, HT.out.1]⟩, ⟨hb4.os.trans (HB3.out.os.trans (HB2.out.os.trans HR.out.but.os)), hb4.tape.trans (HB3.out.tape.trans (HB2.out.tape.trans HR.out.but.tape)), hb4.output.trans (HB3.out.output.trans (HB2.out.output.trans HR.out.but.output)), ?_, fun j hj hn => ?_⟩⟩
        · have := hb4.size; have := HB3.out.size; have := HB2.out.size; omega
        · exact (hb4.block j (by omega) (by omega)).trans ((HB3.out.block j (by omega)).trans ((HB2.out.block j (by omega) hn).trans (HR.out.but.block j hj hn)))
      have hm := bufN_of ho4
      clear hb4 hc4 ho4 hW4
      go_wp2_with fail
      go_roundw
      case rel => exact ⟨k + 1, H4.out⟩
      case measure =>
        have e := HT.out.2.2
        rw [hd] at e
        simp at e hm
        omega
end Go.Proofs.Ytbcnlfbclgkeiaa
