import Derived.Test.YtbcnlfbclgkeiaaLcS
namespace Go.Proofs.Ytbcnlfbclgkeiaa
open Go.RowKit Go.Conc
set_option maxRecDepth 8000
def gq (q : List IT) (i : Nat) : IT := (q[i]?).getD ⟨0, rz⟩
theorem gq_range (q : List IT) : (List.range q.length).map (gq q) = q := by
  refine List.ext_getElem? fun i => ?_
  rw [List.getElem?_map]
  rcases Nat.lt_or_ge i q.length with h | h
  · rw [List.getElem?_range h, Option.map_some]
    unfold gq
    rw [List.getElem?_eq_getElem h]
    rfl
  · rw [List.getElem?_eq_none (by simpa using h), List.getElem?_eq_none h]; rfl
theorem LnI.inCh_get {w : World} {Z : Nat → Prop} {b : Nat} {L : Ln} (h : LnI w Z b L) {j : Nat} {x : IT} (hx : L.inCh[j]? = some x) : L.q[j + (L.q.length - L.inCh.length)]? = some x := by
  have h1 := h.inCh_len
  unfold Ln.inCh at hx h1 ⊢
  cases hn : L.next with
  | none => simp only [hn] at hx h1 ⊢; simpa using hx
  | some n =>
    obtain ⟨y, q', e, _⟩ := h.nxt n hn
    simp only [hn, e] at hx ⊢
    simpa using hx
theorem LnI.inCh_le {w : World} {Z : Nat → Prop} {b : Nat} {L : Ln} (h : LnI w Z b L) : L.inCh.length ≤ L.q.length := by have := h.inCh_len; omega
theorem range_flat_succ {α : Type} (E : El α) (g : Nat → α) (n : Nat) : ((List.range (n + 1)).flatMap fun j => E.cells (g j)) = ((List.range n).flatMap fun j => E.cells (g j)) ++ E.cells (g n) := by
  rw [List.range_succ, List.flatMap_append]; simp
structure ClR (w : World) (b : Nat) (L : Ln) (j : Nat) (v : Value) (n : Nat) (wr : World) : Prop where
  box : Box wr b #[.int .i64 L.room, .int .i64 (nR L.q), L.nextV, .chan (some L.ch)] 74
  buf : ∃ s r, wr.heap[L.ch]? = some (.chan L.cap ((L.inCh.drop j).map IT.val).toArray true s r false)
  own : wr.ownsRow w.heap.size 35 7 v n ((List.range n).flatMap fun i => elItem.cells (gq L.q i))
  but : But (L.C b) w wr
  jl : j ≤ L.inCh.length
  n : n + L.inCh.length = L.q.length + j
theorem ClR.in_ {w : World} {Z : Nat → Prop} {b : Nat} {L : Ln} {j : Nat} {v : Value} {n : Nat} {wr : World} (hI : LnI w Z b L) (hZ : ∀ k, Z k → k < w.heap.size) (h : ClR w b L j v n wr) : ∃ p c, v = .slice p n c ∧ LT.In elItem wr (fun k => ¬ L.C b k ∧ ¬ Z k) ⟨p, n, c, gq L.q⟩ := by
  have hnq : n ≤ L.q.length := by have := h.n; have := h.jl; omega
  have hlen := hI.len
  have hit : ∀ i, i < n → IT.In wr (fun k => ¬ L.C b k ∧ ¬ Z k) (gq L.q i) := fun i hi => by
    have hil : i < L.q.length := by omega
    have e : gq L.q i = L.q[i] := by unfold gq; rw [List.getElem?_eq_getElem hil]; rfl
    rw [e]
    have h1 := (hI.it _ (List.getElem_mem hil)).1
    exact h1.kept h.but.size fun k hk hl => h.but.block k hl hk.1
  have hlt := h.own.lt
  have hce := @World.ownsRow.cells _ _ _ _ _ _ _ h.own
  obtain ⟨_, ⟨hv, h0⟩ | ⟨gb, cap, cur, hv, hbg, hh, hnc, hcm, hcs, htake⟩⟩ := id h.own
  · subst h0
    exact ⟨none, 0, hv, LT.In.none_ elItem wr _ none 0 _ (Nat.zero_le _) (fun _ => rfl)⟩
  · refine ⟨_, cap, hv, fun hn => ⟨gb, 0, rfl, ⟨fun e => by have := hI.c_lt e; omega, fun e => by have := hZ gb e; omega⟩, (hlt gb (by rw [hv]; rfl)).2, fun j hj r u hu => ?_⟩, hit, hnc, by show n ≤ _; omega, hcm, fun h => by cases h⟩
    have hr : r < elItem.size := by
      rcases Nat.lt_or_ge r elItem.size with h1 | h1
      · exact h1
      · rw [List.getElem?_eq_none (by rw [elItem.len]; exact h1)] at hu; cases hu
    have := hce (g := gb) (by rw [hv]; rfl) (j * elItem.size + r) u (by rw [range_flat_get elItem (gq L.q) n j r hj hr]; exact hu)
    rw [Go.WideShapes.add_plain] at this
    rw [show (0 : Nat) + j * elItem.size + r = 0 + (j * elItem.size + r) by omega]
    exact this
/-- a lane that is shut -/
def LnS (w : World) (b : Nat) (room : Int) : Prop := Box w b #[.int .i64 room, .int .i64 0, .pointer none, .chan none] 74
def ClQ (w : World) (Z : Nat → Prop) (b : Nat) (L : Ln) (e : Ending) (w' : World) : Prop := ∃ u : LT IT, e = .returned (.slice u.p u.n u.c) ∧ u.toL = L.q ∧ LT.In elItem w' (fun k => ¬ L.C b k ∧ ¬ Z k) u ∧ LnS w' b L.room ∧ But (L.C b) w w'
set_option maxRecDepth 60000 in
set_option maxHeartbeats 8000000 in
/-- Close -/
theorem close_any (w : World) (Z : Nat → Prop) (b : Nat) (L : Ln) (hI : LnI w Z b L) (hZ : ∀ k, Z k → k < w.heap.size) : Calls Try.prog 20 #[.pointer (some ⟨b, 0, none⟩)] w fun e w' => ClQ w Z b L e w' := by
  obtain ⟨i0, Kd⟩ := kindIt
  have HKd := hid Kd
  have HSh := hid (shut_no w Z b L hI)
  have HC := hid (count_any w Z b L hI)
  have hlen := hI.len
  obtain ⟨W, hmk, r1, r2⟩ := run_make_own (P := Try.prog) w w.heap.size 22 35 i0 _ 7 Kd.ht Kd.hi Kd.hz Kd.hsize .i64 .i64 L.q.length (by rw [Kd.hby]; omega) (by unfold maxLen; omega) (Nat.le_refl _)
  have hB : Below w.heap.size w W := (Below.refl _ _).grown r2 (Nat.le_refl _) fun k hk => by cases hk
  have hWs : w.heap.size < W.heap.size := (r1.lt w.heap.size rfl).2
  have hIW := hI.below hB
  have hbl := hI.b_lt
  have hcl := hI.ch_lt
  have hbc := hI.b_ch
  have hil := hI.inCh_len
  have HI := hid hI
  have HZ := hid hZ
  have HR1 := hid r1
  have HB := hid hB
  have HIW := hid hIW
  have c2 := hIW.c2
  have c3 := hIW.c3
  have bl := hIW.b_lt
  obtain ⟨s0, r0, hc0⟩ := hI.buf
  have HC0 := hid hc0
  clear hI hZ r1 r2 hB hIW Kd hc0
  cases hn : L.next with
  | none =>
    have c2' : W.cell? ⟨b, 2, none⟩ = some (.pointer none) := by rw [c2]; simp [Ln.nextV, hn]
    rw [if_pos hn, Nat.add_zero] at hil
    have HIl := hid hil
    have HN := hid hn
    have hcW : W.heap[L.ch]? = some (.chan L.cap (L.inCh.map IT.val).toArray false s0 r0 false) := (HB.out.block _ hcl).trans HC0.out
    have hcls := run_close_open (P := Try.prog) #[71] 0 hcW
    have hcb := But.setChan W L.ch L.cap (L.inCh.map IT.val).toArray true s0 r0 false
    have hcn := heap_setChan W L.ch L.cap (L.inCh.map IT.val).toArray true s0 r0 false (by omega)
    obtain ⟨W1, hW1⟩ : ∃ W1, W1 = W.setChan L.ch L.cap (L.inCh.map IT.val).toArray true s0 r0 false := ⟨_, rfl⟩
    rw [← hW1] at hcb hcn
    change _ = Result.ok _ (W.setChan L.ch L.cap (L.inCh.map IT.val).toArray true s0 r0 false) at hcls
    rw [← hW1] at hcls
    have d3 : W1.cell? ⟨b, 3, none⟩ = some (.chan (some L.ch)) := by rw [(HIW.out.box.but hcb hbc).cell]; rfl
    have bl1 : b < W1.heap.size := Nat.lt_of_lt_of_le bl hcb.size
    have H0 : Hid (ClR w b L 0 (.slice (some ⟨w.heap.size, 0, none⟩) 0 L.q.length) 0 W1) := by
      refine ⟨HIW.out.box.but hcb hbc, ⟨s0, r0, by rw [hcn]; simp⟩, ?_, ⟨hcb.os.trans HB.out.os, hcb.tape.trans HB.out.tape, hcb.output.trans HB.out.output, Nat.le_trans HB.out.size hcb.size, fun k hk hn => (hcb.block k (by omega) fun e => hn (.inr (.inl e))).trans (HB.out.block k hk)⟩, Nat.zero_le _, by omega⟩
      exact ownsRow_keep HR1.out fun k hk hl => hcb.block k hl (by simp [Value.ownBlock] at hk; omega)
    clear c2 hn hcW hW1 hcb hcn hil
    go_enter Try.func20, Try.ntmps20
    go_wp2_with fail
    refine HSh.out.mono ?_
    rintro e w0 ⟨rfl, hw0⟩
    subst w0
    go_wp2_with fail
    refine HC.out.mono ?_
    rintro e w0 ⟨rfl, hw0⟩
    subst w0
    go_wp2_with fail
    clear hmk hcls c2' c3 d3
    go_loopw [3] (fun v wr => ∃ j n, ClR w b L j v n wr) (fun _ wr => bufN wr L.ch)
    case atStart => exact ⟨_, _, H0.out⟩
    case round =>
      obtain ⟨j, n, hR⟩ := hrel
      obtain ⟨v, hv⟩ : ∃ v, v = u3 := ⟨_, rfl⟩
      rw [← hv] at hR ⊢
      clear hv H0
      obtain ⟨s, r, hc⟩ := hR.buf
      have HR := hid hR
      have HCh := hid hc
      have hb0 := hid (bufN_of hc)
      have hjl := hR.jl
      have hn := hR.n
      have hws := hR.but.size
      have hvl : ∀ k, v.ownBlock = some k → w.heap.size ≤ k ∧ k < wr.heap.size := fun k hk => hR.own.lt k hk
      have HVl := hid hvl
      clear hR hc hvl
      go_upto_region 8 with fail
      cases hd : L.inCh.drop j with
      | nil =>
        have hje : j = L.inCh.length := by have := congrArg List.length hd; simp at this; omega
        have HS : Hid (wr.heap[L.ch]? = some (.chan L.cap #[] true s r false)) := by rw [HCh.out, hd]; rfl
        have HJe := hid hje
        have hbx := HR.out.box
        have c0 : wr.cell? ⟨b, 0, none⟩ = some (.int .i64 L.room) := by rw [hbx.cell]; rfl
        have c1 : wr.cell? ⟨b, 1, none⟩ = some (.int .i64 (nR L.q)) := by rw [hbx.cell]; rfl
        have c2 : wr.cell? ⟨b, 2, none⟩ = some L.nextV := by rw [hbx.cell]; rfl
        have c3 : wr.cell? ⟨b, 3, none⟩ = some (.chan (some L.ch)) := by rw [hbx.cell]; rfl
        have g0 := hbx.frozen 0
        have g1 := hbx.frozen 1
        have g2 := hbx.frozen 2
        have g3 := hbx.frozen 3
        have bl := hbx.lt
        clear hd hje hbx
        refine wp_comm1 (cases := #[rcase L.ch zI]) (blocking := true) (shape := .recv true) (w1 := wr) (v := .tuple #[zI, .bool false]) (w2 := wr) rfl (by simp [go_sem, execOp, rcase, Act.eval, zI]) (fun fr cs es h => one_shut h HS.out) ?_
        go_wp2
        have hnq : n = L.q.length := by have := HJe.out; omega
        have hbt := ((((But.one wr b).setAt 0 (.int .i64 L.room)).setAt 1 (.int .i64 0)).setAt 2 (.pointer none)).setAt 3 (.chan none)
        have hbs := (((HR.out.box.set 0 (.int .i64 L.room)).set 1 (.int .i64 0)).set 2 (.pointer none)).set 3 (.chan none)
        obtain ⟨p, c, hv, hin⟩ := ClR.in_ HI.out HZ.out HR.out
        subst hv
        refine bodyPost_ret (v := .slice p n c) (by simp [results, Try.results20, go_sem]) rfl ⟨⟨p, n, c, gq L.q⟩, rfl, ?_, ?_, ?_, ?_⟩
        · show (List.range n).map (gq L.q) = L.q
          rw [hnq]; exact gq_range L.q
        · exact hin.kept hbt.size fun k hk hl => hbt.block k hl fun e => hk.1 (.inl e)
        · show Box _ b _ _
          simpa only [List.setIfInBounds_toArray, List.set_cons_zero, List.set_cons_succ] using hbs
        · exact ⟨hbt.os.trans HR.out.but.os, hbt.tape.trans HR.out.but.tape, hbt.output.trans HR.out.but.output, Nat.le_trans HR.out.but.size hbt.size, fun k hk hn => (hbt.block k (by omega) fun e => hn (.inl e)).trans (HR.out.but.block k hk hn)⟩
      | cons x rest =>
        have hje : j < L.inCh.length := by have := congrArg List.length hd; simp at this; omega
        have HS : Hid (wr.heap[L.ch]? = some (.chan L.cap (x.val :: rest.map IT.val).toArray true s r false)) := by rw [HCh.out, hd]; rfl
        have hdk : L.inCh.drop (j + 1) = rest := by have h2 := congrArg List.tail hd; simpa using h2
        have hxj : L.inCh[j]? = some x := by have := congrArg (fun l : List IT => l[0]?) hd; simpa using this
        have hxq : gq L.q n = x := by
          have := LnI.inCh_get HI.out hxj
          have hile := LnI.inCh_le HI.out
          unfold gq
          rw [show n = j + (L.q.length - L.inCh.length) by omega, this]
          rfl
        have HT := hid (And.intro hdk (And.intro hxq hje))
        have HDl := hid (congrArg List.length hd)
        refine wp_comm1 (cases := #[rcase L.ch zI]) (blocking := true) (shape := .recv true) (w1 := wr) (v := .tuple #[x.val, .bool true]) (w2 := wr.setChan L.ch L.cap (rest.map IT.val).toArray true s (r + 1) false) rfl (by simp [go_sem, execOp, rcase, Act.eval, zI]) (fun fr cs es h => one_recv h HS.out) ?_
        have hb2 := But.setChan wr L.ch L.cap (rest.map IT.val).toArray true s (r + 1) false
        have hc2 := heap_setChan wr L.ch L.cap (rest.map IT.val).toArray true s (r + 1) false (by omega)
        obtain ⟨W2, hW2⟩ : ∃ W2, W2 = wr.setChan L.ch L.cap (rest.map IT.val).toArray true s (r + 1) false := ⟨_, rfl⟩
        rw [← hW2] at hb2 hc2 ⊢
        clear hW2 hdk hxj hxq hd
        obtain ⟨W, hW⟩ : ∃ W, W = W2.alloc (.cells #[.int .i64 x.mark, .string x.r.key, .int .i64 x.r.v.kind, .int .i64 x.r.v.int, .string x.r.v.text, .slice x.r.v.p x.r.v.n x.r.v.c, .slice x.r.p x.r.n x.r.c] 35) := ⟨_, rfl⟩
        have hB : Below W2.heap.size W2 W := by rw [hW]; exact (Below.refl _ _).alloc (Nat.le_refl _) _
        have hX : Box W W2.heap.size #[.int .i64 x.mark, .string x.r.key, .int .i64 x.r.v.kind, .int .i64 x.r.v.int, .string x.r.v.text, .slice x.r.v.p x.r.v.n x.r.v.c, .slice x.r.p x.r.n x.r.c] 35 := by rw [hW]; exact Box.new _ _ _
        have z0 := hX.cell 0
        have z1 := hX.cell 1
        have z2 := hX.cell 2
        have z3 := hX.cell 3
        have z4 := hX.cell 4
        have z5 := hX.cell 5
        have z6 := hX.cell 6
        simp at z0 z1 z2 z3 z4 z5 z6
        have xl := hX.lt
        have hown : W.ownsRow w.heap.size 35 7 v n ((List.range n).flatMap fun i => elItem.cells (gq L.q i)) := ownsRow_keep HR.out.own fun k hk hl => (hB.block k (Nat.lt_of_lt_of_le hl hb2.size)).trans (hb2.block k hl (by have := (HVl.out k hk).1; omega))
        have HOw := hid hown
        have HW := hid hW
        have HB2 := hid hb2
        have HC2 := hid hc2
        have HB := hid hB
        have hsW : wr.heap.size ≤ W.heap.size := Nat.le_trans hb2.size hB.size
        have HNw : Hid (∀ j u', (elItem.cells x)[j]? = some u' → (W.alloc (.cells #[.int .i64 x.mark, .string x.r.key, .int .i64 x.r.v.kind, .int .i64 x.r.v.int, .string x.r.v.text, .slice x.r.v.p x.r.v.n x.r.v.c, .slice x.r.p x.r.n x.r.c] 35)).cell? ((⟨W.heap.size, 0, none⟩ : Addr).add j) = some u') := by
          intro j u' hu
          rw [Go.WideShapes.add_plain, (Box.new W #[.int .i64 x.mark, .string x.r.key, .int .i64 x.r.v.kind, .int .i64 x.r.v.int, .string x.r.v.text, .slice x.r.v.p x.r.v.n x.r.v.c, .slice x.r.p x.r.n x.r.c] 35).cell]
          rw [show 0 + j = j by omega]
          simpa [elItem, IT.cells] using hu
        have ha : Below W.heap.size W (W.alloc (.cells #[.int .i64 x.mark, .string x.r.key, .int .i64 x.r.v.kind, .int .i64 x.r.v.int, .string x.r.v.text, .slice x.r.v.p x.r.v.n x.r.v.c, .slice x.r.p x.r.n x.r.c] 35)) := (Below.refl _ _).alloc (Nat.le_refl _) _
        have HAa := hid ha
        unfold IT.val
        clear hown hW hb2 hc2 hB hX ha
        go_upto_region 10 with fail
        rw [← HW.out]
        go_wp2_with (at_builtin; refine wpList_app rfl (.tmp 35) (.tmp 37) 22 35 i0 _ 7 104 HKd.out rfl w.heap.size v n _ rfl (HOw.out.alloc _) ⟨W.heap.size, 0, none⟩ 1 1 (elItem.cells x) rfl rfl HNw.out (elItem.one x) (by omega) (by omega) (by simp; omega) ?_)
        intro v4 w4 ho4 hg4 hn4
        have hbt4 : But (fun k => v.ownBlock = some k) W w4 := (But.ofBelow HAa.out).trans ((But.refl _ _).grown hg4 fun k hk _ => hk)
        have HR4 : Hid (ClR w b L (j + 1) v4 (n + 1) w4) := by
          have hk4 : ∀ k, k < w.heap.size → w4.heap[k]? = W2.heap[k]? := fun k hk => (hbt4.block k (by omega) fun e => by have := (HVl.out k e).1; omega).trans (HB.out.block k (by have := HB2.out.size; omega))
          refine ⟨HR.out.box.kept ((hk4 b (by omega)).trans (HB2.out.block b (by omega) hbc)), ⟨s, r + 1, by rw [hk4 _ hcl, HC2.out, HT.out.1]⟩, ?_, ⟨hbt4.os.trans (HB.out.os.trans (HB2.out.os.trans HR.out.but.os)), hbt4.tape.trans (HB.out.tape.trans (HB2.out.tape.trans HR.out.but.tape)), hbt4.output.trans (HB.out.output.trans (HB2.out.output.trans HR.out.but.output)), by have := hbt4.size; omega, fun k hk hn => ?_⟩, HT.out.2.2, by omega⟩
          · rw [range_flat_succ, HT.out.2.1]
            exact ho4
          · exact (hk4 k hk).trans ((HB2.out.block k (by omega) fun e => hn (.inr (.inl e))).trans (HR.out.but.block k hk hn))
        have hm : Hid (bufN w4 L.ch < bufN wr L.ch) := by
          obtain ⟨s4, r4, hc4⟩ := HR4.out.buf
          show _ < _
          rw [bufN_of hc4, hb0.out]
          have := HT.out.2.2
          simp
          omega
        clear ho4 hg4 hn4 hbt4 HNw HAa z0 z1 z2 z3 z4 z5 z6
        go_wp2_with fail
        go_roundw
        case rel => exact ⟨j + 1, n + 1, HR4.out⟩
        case measure => exact hm.out
  | some nb =>
    have c2' : W.cell? ⟨b, 2, none⟩ = some (.pointer (some ⟨nb, 0, none⟩)) := by rw [c2]; simp [Ln.nextV, hn]
    rw [if_neg (by rw [hn]; simp)] at hil
    obtain ⟨x0, q0, hq0, hbx⟩ := HI.out.nxt nb hn
    have hbW := hbx.below HB.out
    have hnl := hbx.lt
    have m0 := hbW.cell 0
    have m1 := hbW.cell 1
    have m2 := hbW.cell 2
    have m3 := hbW.cell 3
    have m4 := hbW.cell 4
    have m5 := hbW.cell 5
    have m6 := hbW.cell 6
    simp [IT.cells] at m0 m1 m2 m3 m4 m5 m6
    have hnl2 := hbW.lt
    have hgx : gq L.q 0 = x0 := by rw [hq0]; rfl
    have HGx := hid hgx
    have hnbc := HI.out.n_ch hn
    have HNw : Hid (∀ j u', (elItem.cells x0)[j]? = some u' → (W.alloc (.cells #[.int .i64 x0.mark, .string x0.r.key, .int .i64 x0.r.v.kind, .int .i64 x0.r.v.int, .string x0.r.v.text, .slice x0.r.v.p x0.r.v.n x0.r.v.c, .slice x0.r.p x0.r.n x0.r.c] 35)).cell? ((⟨W.heap.size, 0, none⟩ : Addr).add j) = some u') := by
      intro j u' hu
      rw [Go.WideShapes.add_plain, (Box.new W #[.int .i64 x0.mark, .string x0.r.key, .int .i64 x0.r.v.kind, .int .i64 x0.r.v.int, .string x0.r.v.text, .slice x0.r.v.p x0.r.v.n x0.r.v.c, .slice x0.r.p x0.r.n x0.r.c] 35).cell]
      rw [show 0 + j = j by omega]
      simpa [elItem, IT.cells] using hu
    have ha : Below W.heap.size W (W.alloc (.cells #[.int .i64 x0.mark, .string x0.r.key, .int .i64 x0.r.v.kind, .int .i64 x0.r.v.int, .string x0.r.v.text, .slice x0.r.v.p x0.r.v.n x0.r.v.c, .slice x0.r.p x0.r.n x0.r.c] 35)) := (Below.refl _ _).alloc (Nat.le_refl _) _
    have HAa := hid ha
    have HIl := hid hil
    clear c2 hn hil hq0 hbx hbW hgx ha
    go_enter Try.func20, Try.ntmps20
    go_wp2_with fail
    refine HSh.out.mono ?_
    rintro e w0 ⟨rfl, hw0⟩
    subst w0
    go_wp2_with fail
    refine HC.out.mono ?_
    rintro e w0 ⟨rfl, hw0⟩
    subst w0
    go_wp2_with (at_builtin; refine wpList_app rfl (.tmp 15) (.tmp 22) 22 35 i0 _ 7 104 HKd.out rfl w.heap.size (.slice (some ⟨w.heap.size, 0, none⟩) 0 L.q.length) 0 _ rfl (HR1.out.alloc _) ⟨W.heap.size, 0, none⟩ 1 1 (elItem.cells x0) rfl rfl HNw.out (elItem.one x0) (by omega) (by omega) (by simp; omega) ?_)
    intro v4 w4 ho4 hg4 hn4
    have hbt4 : But (fun k => w.heap.size = k) W w4 := (But.ofBelow HAa.out).trans ((But.refl _ _).grown hg4 fun k hk _ => by simpa [Value.ownBlock] using hk)
    have hcW : w4.heap[L.ch]? = some (.chan L.cap (L.inCh.map IT.val).toArray false s0 r0 false) := (hbt4.block _ (by omega) (by omega)).trans ((HB.out.block _ hcl).trans HC0.out)
    have hcls := run_close_open (P := Try.prog) #[71] 0 hcW
    have hcb := But.setChan w4 L.ch L.cap (L.inCh.map IT.val).toArray true s0 r0 false
    have hcn := heap_setChan w4 L.ch L.cap (L.inCh.map IT.val).toArray true s0 r0 false (by have := hbt4.size; omega)
    obtain ⟨W1, hW1⟩ : ∃ W1, W1 = w4.setChan L.ch L.cap (L.inCh.map IT.val).toArray true s0 r0 false := ⟨_, rfl⟩
    rw [← hW1] at hcb hcn
    change _ = Result.ok _ (w4.setChan L.ch L.cap (L.inCh.map IT.val).toArray true s0 r0 false) at hcls
    rw [← hW1] at hcls
    have hbx4 := HIW.out.box.but hbt4 (by omega)
    have e3 : w4.cell? ⟨b, 3, none⟩ = some (.chan (some L.ch)) := by rw [hbx4.cell]; rfl
    have bl4 := hbx4.lt
    have hbx1 := hbx4.but hcb hbc
    have d3 : W1.cell? ⟨b, 3, none⟩ = some (.chan (some L.ch)) := by rw [hbx1.cell]; rfl
    have bl1 := hbx1.lt
    have H0 : Hid (ClR w b L 0 v4 1 W1) := by
      have hs4 := hbt4.size
      refine ⟨hbx1, ⟨s0, r0, by rw [hcn]; simp⟩, ?_, ⟨hcb.os.trans (hbt4.os.trans HB.out.os), hcb.tape.trans (hbt4.tape.trans HB.out.tape), hcb.output.trans (hbt4.output.trans HB.out.output), by have := hcb.size; omega, fun k hk hn => (hcb.block k (by omega) fun e => hn (.inr (.inl e))).trans ((hbt4.block k (by omega) (by omega)).trans (HB.out.block k hk))⟩, Nat.zero_le _, by have := HIl.out; omega⟩
      have ho5 : w4.ownsRow w.heap.size 35 7 v4 1 ((List.range 1).flatMap fun i => elItem.cells (gq L.q i)) := by
        rw [range_flat_succ, HGx.out]
        exact ho4
      refine ownsRow_keep ho5 fun k hk hl => hcb.block k hl fun e => ?_
      have h7 := (ho5.lt k hk).1
      have e' : k = L.ch := e
      omega
    clear hcW hW1 hcb hcn ho4 hg4 hn4 hbt4 hbx4 hbx1 m0 m1 m2 m3 m4 m5 m6 c2' c3
    go_wp2_with fail
    clear hmk hcls d3 e3
    go_loopw [3] (fun v wr => ∃ j n, ClR w b L j v n wr) (fun _ wr => bufN wr L.ch)
    case atStart => exact ⟨_, _, H0.out⟩
    case round =>
      obtain ⟨j, n, hR⟩ := hrel
      obtain ⟨v, hv⟩ : ∃ v, v = u3 := ⟨_, rfl⟩
      rw [← hv] at hR ⊢
      clear hv H0
      obtain ⟨s, r, hc⟩ := hR.buf
      have HR := hid hR
      have HCh := hid hc
      have hb0 := hid (bufN_of hc)
      have hjl := hR.jl
      have hn := hR.n
      have hws := hR.but.size
      have hvl : ∀ k, v.ownBlock = some k → w.heap.size ≤ k ∧ k < wr.heap.size := fun k hk => hR.own.lt k hk
      have HVl := hid hvl
      clear hR hc hvl
      go_upto_region 8 with fail
      cases hd : L.inCh.drop j with
      | nil =>
        have hje : j = L.inCh.length := by have := congrArg List.length hd; simp at this; omega
        have HS : Hid (wr.heap[L.ch]? = some (.chan L.cap #[] true s r false)) := by rw [HCh.out, hd]; rfl
        have HJe := hid hje
        have hbx := HR.out.box
        have c0 : wr.cell? ⟨b, 0, none⟩ = some (.int .i64 L.room) := by rw [hbx.cell]; rfl
        have c1 : wr.cell? ⟨b, 1, none⟩ = some (.int .i64 (nR L.q)) := by rw [hbx.cell]; rfl
        have c2 : wr.cell? ⟨b, 2, none⟩ = some L.nextV := by rw [hbx.cell]; rfl
        have c3 : wr.cell? ⟨b, 3, none⟩ = some (.chan (some L.ch)) := by rw [hbx.cell]; rfl
        have g0 := hbx.frozen 0
        have g1 := hbx.frozen 1
        have g2 := hbx.frozen 2
        have g3 := hbx.frozen 3
        have bl := hbx.lt
        clear hd hje hbx
        refine wp_comm1 (cases := #[rcase L.ch zI]) (blocking := true) (shape := .recv true) (w1 := wr) (v := .tuple #[zI, .bool false]) (w2 := wr) rfl (by simp [go_sem, execOp, rcase, Act.eval, zI]) (fun fr cs es h => one_shut h HS.out) ?_
        go_wp2
        have hnq : n = L.q.length := by have := HJe.out; omega
        have hbt := ((((But.one wr b).setAt 0 (.int .i64 L.room)).setAt 1 (.int .i64 0)).setAt 2 (.pointer none)).setAt 3 (.chan none)
        have hbs := (((HR.out.box.set 0 (.int .i64 L.room)).set 1 (.int .i64 0)).set 2 (.pointer none)).set 3 (.chan none)
        obtain ⟨p, c, hv, hin⟩ := ClR.in_ HI.out HZ.out HR.out
        subst hv
        refine bodyPost_ret (v := .slice p n c) (by simp [results, Try.results20, go_sem]) rfl ⟨⟨p, n, c, gq L.q⟩, rfl, ?_, ?_, ?_, ?_⟩
        · show (List.range n).map (gq L.q) = L.q
          rw [hnq]; exact gq_range L.q
        · exact hin.kept hbt.size fun k hk hl => hbt.block k hl fun e => hk.1 (.inl e)
        · show Box _ b _ _
          simpa only [List.setIfInBounds_toArray, List.set_cons_zero, List.set_cons_succ] using hbs
        · exact ⟨hbt.os.trans HR.out.but.os, hbt.tape.trans HR.out.but.tape, hbt.output.trans HR.out.but.output, Nat.le_trans HR.out.but.size hbt.size, fun k hk hn => (hbt.block k (by omega) fun e => hn (.inl e)).trans (HR.out.but.block k hk hn)⟩
      | cons x rest =>
        have hje : j < L.inCh.length := by have := congrArg List.length hd; simp at this; omega
        have HS : Hid (wr.heap[L.ch]? = some (.chan L.cap (x.val :: rest.map IT.val).toArray true s r false)) := by rw [HCh.out, hd]; rfl
        have hdk : L.inCh.drop (j + 1) = rest := by have h2 := congrArg List.tail hd; simpa using h2
        have hxj : L.inCh[j]? = some x := by have := congrArg (fun l : List IT => l[0]?) hd; simpa using this
        have hxq : gq L.q n = x := by
          have := LnI.inCh_get HI.out hxj
          have hile := LnI.inCh_le HI.out
          unfold gq
          rw [show n = j + (L.q.length - L.inCh.length) by omega, this]
          rfl
        have HT := hid (And.intro hdk (And.intro hxq hje))
        have HDl := hid (congrArg List.length hd)
        refine wp_comm1 (cases := #[rcase L.ch zI]) (blocking := true) (shape := .recv true) (w1 := wr) (v := .tuple #[x.val, .bool true]) (w2 := wr.setChan L.ch L.cap (rest.map IT.val).toArray true s (r + 1) false) rfl (by simp [go_sem, execOp, rcase, Act.eval, zI]) (fun fr cs es h => one_recv h HS.out) ?_
        have hb2 := But.setChan wr L.ch L.cap (rest.map IT.val).toArray true s (r + 1) false
        have hc2 := heap_setChan wr L.ch L.cap (rest.map IT.val).toArray true s (r + 1) false (by omega)
        obtain ⟨W2, hW2⟩ : ∃ W2, W2 = wr.setChan L.ch L.cap (rest.map IT.val).toArray true s (r + 1) false := ⟨_, rfl⟩
        rw [← hW2] at hb2 hc2 ⊢
        clear hW2 hdk hxj hxq hd
        obtain ⟨W, hW⟩ : ∃ W, W = W2.alloc (.cells #[.int .i64 x.mark, .string x.r.key, .int .i64 x.r.v.kind, .int .i64 x.r.v.int, .string x.r.v.text, .slice x.r.v.p x.r.v.n x.r.v.c, .slice x.r.p x.r.n x.r.c] 35) := ⟨_, rfl⟩
        have hB : Below W2.heap.size W2 W := by rw [hW]; exact (Below.refl _ _).alloc (Nat.le_refl _) _
        have hX : Box W W2.heap.size #[.int .i64 x.mark, .string x.r.key, .int .i64 x.r.v.kind, .int .i64 x.r.v.int, .string x.r.v.text, .slice x.r.v.p x.r.v.n x.r.v.c, .slice x.r.p x.r.n x.r.c] 35 := by rw [hW]; exact Box.new _ _ _
        have z0 := hX.cell 0
        have z1 := hX.cell 1
        have z2 := hX.cell 2
        have z3 := hX.cell 3
        have z4 := hX.cell 4
        have z5 := hX.cell 5
        have z6 := hX.cell 6
        simp at z0 z1 z2 z3 z4 z5 z6
        have xl := hX.lt
        have hown : W.ownsRow w.heap.size 35 7 v n ((List.range n).flatMap fun i => elItem.cells (gq L.q i)) := ownsRow_keep HR.out.own fun k hk hl => (hB.block k (Nat.lt_of_lt_of_le hl hb2.size)).trans (hb2.block k hl (by have := (HVl.out k hk).1; omega))
        have HOw := hid hown
        have HW := hid hW
        have HB2 := hid hb2
        have HC2 := hid hc2
        have HB := hid hB
        have hsW : wr.heap.size ≤ W.heap.size := Nat.le_trans hb2.size hB.size
        have HNw : Hid (∀ j u', (elItem.cells x)[j]? = some u' → (W.alloc (.cells #[.int .i64 x.mark, .string x.r.key, .int .i64 x.r.v.kind, .int .i64 x.r.v.int, .string x.r.v.text, .slice x.r.v.p x.r.v.n x.r.v.c, .slice x.r.p x.r.n x.r.c] 35)).cell? ((⟨W.heap.size, 0, none⟩ : Addr).add j) = some u') := by
          intro j u' hu
          rw [Go.WideShapes.add_plain, (Box.new W #[.int .i64 x.mark, .string x.r.key, .int .i64 x.r.v.kind, .int .i64 x.r.v.int, .string x.r.v.text, .slice x.r.v.p x.r.v.n x.r.v.c, .slice x.r.p x.r.n x.r.c] 35).cell]
          rw [show 0 + j = j by omega]
          simpa [elItem, IT.cells] using hu
        have ha : Below W.heap.size W (W.alloc (.cells #[.int .i64 x.mark, .string x.r.key, .int .i64 x.r.v.kind, .int .i64 x.r.v.int, .string x.r.v.text, .slice x.r.v.p x.r.v.n x.r.v.c, .slice x.r.p x.r.n x.r.c] 35)) := (Below.refl _ _).alloc (Nat.le_refl _) _
        have HAa := hid ha
        unfold IT.val
        clear hown hW hb2 hc2 hB hX ha
        go_upto_region 10 with fail
        rw [← HW.out]
        go_wp2_with (at_builtin; refine wpList_app rfl (.tmp 35) (.tmp 37) 22 35 i0 _ 7 104 HKd.out rfl w.heap.size v n _ rfl (HOw.out.alloc _) ⟨W.heap.size, 0, none⟩ 1 1 (elItem.cells x) rfl rfl HNw.out (elItem.one x) (by omega) (by omega) (by simp; omega) ?_)
        intro v4 w4 ho4 hg4 hn4
        have hbt4 : But (fun k => v.ownBlock = some k) W w4 := (But.ofBelow HAa.out).trans ((But.refl _ _).grown hg4 fun k hk _ => hk)
        have HR4 : Hid (ClR w b L (j + 1) v4 (n + 1) w4) := by
          have hk4 : ∀ k, k < w.heap.size → w4.heap[k]? = W2.heap[k]? := fun k hk => (hbt4.block k (by omega) fun e => by have := (HVl.out k e).1; omega).trans (HB.out.block k (by have := HB2.out.size; omega))
          refine ⟨HR.out.box.kept ((hk4 b (by omega)).trans (HB2.out.block b (by omega) hbc)), ⟨s, r + 1, by rw [hk4 _ hcl, HC2.out, HT.out.1]⟩, ?_, ⟨hbt4.os.trans (HB.out.os.trans (HB2.out.os.trans HR.out.but.os)), hbt4.tape.trans (HB.out.tape.trans (HB2.out.tape.trans HR.out.but.tape)), hbt4.output.trans (HB.out.output.trans (HB2.out.output.trans HR.out.but.output)), by have := hbt4.size; omega, fun k hk hn => ?_⟩, HT.out.2.2, by omega⟩
          · rw [range_flat_succ, HT.out.2.1]
            exact ho4
          · exact (hk4 k hk).trans ((HB2.out.block k (by omega) fun e => hn (.inr (.inl e))).trans (HR.out.but.block k hk hn))
        have hm : Hid (bufN w4 L.ch < bufN wr L.ch) := by
          obtain ⟨s4, r4, hc4⟩ := HR4.out.buf
          show _ < _
          rw [bufN_of hc4, hb0.out]
          have := HT.out.2.2
          simp
          omega
        clear ho4 hg4 hn4 hbt4 HNw HAa z0 z1 z2 z3 z4 z5 z6
        go_wp2_with fail
        go_roundw
        case rel => exact ⟨j + 1, n + 1, HR4.out⟩
        case measure => exact hm.out
end Go.Proofs.Ytbcnlfbclgkeiaa
