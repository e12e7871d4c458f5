import Derived.Test.YtdncnnjhfipokaaKtQ
import Derived.Test.YtdncnnjhfipokaaPack14
namespace Go.Proofs.Ytdncnnjhfipokaa
open Go.RowKit
set_option maxRecDepth 8000
theorem OpT.at_ {w : World} {S : Nat → Prop} {s : LT OpT} (h : LT.In elOp w S s) {k : Nat} (hk : k < s.n) : OpT.In w S (s.item k) := h.each k hk
theorem PJ.frame {A X : Nat → Prop} {w0 W W' : World} {b rb N m : Nat} {K : Bk} {R : Rb} (h : PJ A w0 W b rb N m K R) (g : But X W W') (hX : ∀ k, X k → ¬ K.C b k ∧ ¬ R.C rb k ∧ ¬ A k ∧ w0.heap.size ≤ k) : PJ A w0 W' b rb N m K R := by
  refine ⟨⟨⟨h.pb.bok.i.kept (fun k hk hl => g.block k hl (fun e => (hX k e).1 hk)), h.pb.bok.bel.trans (g.below h.pb.bok.bel.size (fun k hk e => by have := (hX k e).2.2.2; omega)), h.pb.bok.c⟩, h.pb.r.kept (fun k hk hl => g.block k hl (fun e => (hX k e).2.1 hk)), h.pb.dis, h.pb.rc⟩, ⟨⟨fun p hp j hj => (h.pm.k.kl p hp j hj).kept g.size (fun k hk hl => g.block k hl (fun e => (hX k e).2.2.1 hk.1)), h.pm.k.kc.kept g.size (fun k hk hl => g.block k hl (fun e => (hX k e).2.2.1 hk.1)), h.pm.k.kp.kept g.size (fun k hk hl => g.block k hl (fun e => (hX k e).2.2.1 hk.1))⟩, fun j hj => elTd.kept (h.pm.td j hj) g.size (fun k hk hl => g.block k hl (fun e => (hX k e).2.2.1 hk.1))⟩, h.ep, h.n4, h.po, h.lg, h.rn, h.sz, h.pt⟩
/-- a pair that plays -/
structure PAct (A : Nat → Prop) (w0 W : World) (pb k b rb N : Nat) (K : Bk) (R : Rb) : Prop where
  x : Box W pb #[.pointer (some ⟨b, 0, none⟩), .pointer (some ⟨rb, 0, none⟩)] 67
  j : PJ A w0 W b rb N k K R
  nk : ¬ K.C b pb
  nr : ¬ R.C rb pb
  ak : ∀ i, K.C b i → A i
  ar : ∀ i, R.C rb i → A i
def PSt (A : Nat → Prop) (w0 W : World) (pb k : Nat) : Prop := Box W pb #[.pointer none, .pointer none] 67 ∨ ∃ b rb N K R, PAct A w0 W pb k b rb N K R
theorem PSt.frame {A X : Nat → Prop} {w0 W W' : World} {pb k : Nat} (h : PSt A w0 W pb k) (g : But X W W') (hX : ∀ i, X i → ¬ A i ∧ i ≠ pb ∧ w0.heap.size ≤ i) : PSt A w0 W' pb k := by
  rcases h with h | ⟨b, rb, N, K, R, h⟩
  · exact .inl (h.kept (g.block pb h.lt (fun e => (hX pb e).2.1 rfl)))
  · exact .inr ⟨b, rb, N, K, R, h.x.kept (g.block pb h.x.lt (fun e => (hX pb e).2.1 rfl)), h.j.frame g (fun i e => ⟨fun h1 => (hX i e).1 (h.ak i h1), fun h1 => (hX i e).1 (h.ar i h1), (hX i e).1, (hX i e).2.2⟩), h.nk, h.nr, h.ak, h.ar⟩
theorem PSt.more {A : Nat → Prop} {w0 W : World} {pb k m : Nat} (h : PSt A w0 W pb k) (hm : k ≤ m) : PSt A w0 W pb m := by
  rcases h with h | ⟨b, rb, N, K, R, h⟩
  · exact .inl h
  · exact .inr ⟨b, rb, N, K, R, h.x, h.j.more hm, h.nk, h.nr, h.ak, h.ar⟩
structure Two (w W : World) (pb qb k : Nat) (A B : Nat → Prop) : Prop where
  p : PSt A w W pb k
  q : PSt B w W qb k
  lp : ∀ j, A j → j < W.heap.size
  lq : ∀ j, B j → j < W.heap.size
  d : ∀ j, A j → ¬ B j
  np : ∀ j, A j → j ≠ pb ∧ j ≠ qb ∧ w.heap.size ≤ j
  nq : ∀ j, B j → j ≠ pb ∧ j ≠ qb ∧ w.heap.size ≤ j
  bel : Below w.heap.size w W
  hp : w.heap.size ≤ pb ∧ pb < W.heap.size
  hq : w.heap.size ≤ qb ∧ qb < W.heap.size
theorem Two.swap {w W : World} {pb qb k : Nat} {A B : Nat → Prop} (h : Two w W pb qb k A B) : Two w W qb pb k B A :=
  ⟨h.q, h.p, h.lq, h.lp, fun j h1 h2 => h.d j h2 h1, fun j h1 => ⟨(h.nq j h1).2.1, (h.nq j h1).1, (h.nq j h1).2.2⟩, fun j h1 => ⟨(h.np j h1).2.1, (h.np j h1).1, (h.np j h1).2.2⟩, h.bel, h.hq, h.hp⟩
theorem Two.more {w W : World} {pb qb k : Nat} {A B : Nat → Prop} (h : Two w W pb qb k A B) : Two w W pb qb (k + 1) A B :=
  ⟨h.p.more (by omega), h.q.more (by omega), h.lp, h.lq, h.d, h.np, h.nq, h.bel, h.hp, h.hq⟩
theorem Two.step {w W W' : World} {pb qb k b rb N : Nat} {A B : Nat → Prop} {K : Bk} {R : Rb} {e : Ending} (h : Two w W pb qb k A B) (a : PAct A w W pb k b rb N K R) (g : PlaysP A w W b rb N k K R e W') : ∃ A', Two w W' pb qb (k + 1) A' B := by
  obtain ⟨_, K', R', hS, hJ⟩ := g
  have hX : ∀ i, (K.C b i ∨ R.C rb i) → A i := fun i e => by rcases e with e | e; exact a.ak i e; exact a.ar i e
  have hsz := hS.but.size
  refine ⟨fun j => A j ∨ (W.heap.size ≤ j ∧ j < W'.heap.size), .inr ⟨b, rb, N, K', R', a.x.kept (hS.but.block pb a.x.lt (fun e => (h.np pb (hX pb e)).1 rfl)), hJ.wide (fun i hl e => by rcases e with e | e; exact .inl e; exact .inr ⟨e, hl⟩), fun e => ?_, fun e => ?_, fun i e => ?_, fun i e => ?_⟩, (h.q.frame hS.but (fun i e => ⟨h.d i (hX i e), (h.np i (hX i e)).2.1, (h.np i (hX i e)).2.2⟩)).more (by omega), fun j e => ?_, fun j e => Nat.lt_of_lt_of_le (h.lq j e) hsz, fun j e e2 => ?_, fun j e => ?_, h.nq, hJ.pb.bok.bel, ⟨h.hp.1, Nat.lt_of_lt_of_le h.hp.2 hsz⟩, ⟨h.hq.1, Nat.lt_of_lt_of_le h.hq.2 hsz⟩⟩
  · rcases hS.ck pb e with h1 | h1
    · exact a.nk h1
    · have := h.hp.2; omega
  · rcases hS.cr pb e with h1 | h1
    · exact a.nr h1
    · have := h.hp.2; omega
  · rcases hS.ck i e with h1 | h1
    · exact .inl (a.ak i h1)
    · exact .inr ⟨h1, hJ.pb.bok.i.lt e⟩
  · rcases hS.cr i e with h1 | h1
    · exact .inl (a.ar i h1)
    · exact .inr ⟨h1, hJ.pb.r.lt e⟩
  · rcases e with e | e
    · exact Nat.lt_of_lt_of_le (h.lp j e) hsz
    · exact e.2
  · rcases e with e | e
    · exact h.d j e e2
    · have := h.lq j e2; omega
  · rcases e with e | e
    · exact h.np j e
    · have := h.hp.2; have := h.hq.2; have := h.bel.size; exact ⟨by omega, by omega, by omega⟩
set_option maxHeartbeats 16000000 in
theorem two_walk (mode ports other width : Int) (s : LT OpT) (w : World) (hin : LT.In elOp w (fun b => b < w.heap.size) s) : Calls Try.prog 7 #[.int .i64 mode, .int .i64 ports, .int .i64 other, .int .i64 width, .slice s.p s.n s.c] w fun e w' => e = .returned (.bool true) ∧ Below w.heap.size w w' := by
  have HI := hid hin
  have hnn := hin.nn
  clear hin
  obtain ⟨W, hW⟩ : ∃ W, W = (w.alloc (.cells #[.pointer none, .pointer none] 67)).alloc (.cells #[.pointer none, .pointer none] 67) := ⟨_, rfl⟩
  have hT0 : TwoK w W #[.pointer none, .pointer none] #[.pointer none, .pointer none] 67 := by rw [hW]; exact TwoK.start w #[.pointer none, .pointer none] #[.pointer none, .pointer none] 67
  have HT0 := hid hT0
  have HG := hid (begin_pair mode ports (-1) w W w.heap.size hT0.bel (Nat.le_refl _) hT0.ba)
  obtain ⟨pb, hpb⟩ : ∃ x, x = w.heap.size := ⟨_, rfl⟩
  obtain ⟨qb, hqb⟩ : ∃ x, x = w.heap.size + 1 := ⟨_, rfl⟩
  have HW := hid hW
  have HPb := hid (And.intro hpb hqb)
  have hl0 := hT0.ba.lt
  have hl1 := hT0.bb.lt
  clear hT0 hW
  go_enter Try.func7, Try.ntmps7
  go_wp2_with fail
  rw [← HW.out]
  rw [← hpb] at HG hl0 ⊢
  refine HG.out.mono ?_
  rintro e w2 hQ
  rw [hQ.e_]
  have HQ := hid hQ
  have HB2 : Hid (Below w.heap.size w w2) := HT0.out.bel.trans (hQ.but.below HT0.out.bel.size (fun k hk e => by omega))
  have hXq : Box w2 qb #[.pointer none, .pointer none] 67 := by rw [hqb]; exact HT0.out.bb.kept (hQ.but.block _ HT0.out.bb.lt (by omega))
  have HXq := hid hXq
  have HG2 := hid (begin_pair other width 1 w w2 qb HB2.out (by omega) hXq)
  have HQb : Hid (pb + 1 = qb) := by unfold Hid; omega
  clear hQ HG hXq hpb hqb
  go_wp2_with (first | (rw [HQb.out]; clear HQb) | (go_at_call 25; refine HG2.out.mono ?_; rintro e w3 hQ3; rw [hQ3.e_]))
  obtain ⟨hpb, hqb⟩ := HPb.out
  have HB3 : Hid (Below w.heap.size w w3) := HB2.out.trans (hQ3.but.below HB2.out.size (fun k hk e => by omega))
  have HTw : Hid (∃ A B, Two w w3 pb qb 0 A B) := by
    have hs2 := HQ.out.but.size
    have hs3 := hQ3.but.size
    have hp2 : ∃ A, PSt A w w2 pb 0 ∧ (∀ j, A j → W.heap.size ≤ j ∧ j < w2.heap.size) := by
      rcases hlg : legalB mode ports (-1) with _ | _
      · exact ⟨fun _ => False, .inl (HQ.out.n hlg), fun _ h => h.elim⟩
      · obtain ⟨N, b, rb, _, hb1, hrb1, hb2, hrb2, hX2, hJ2⟩ := HQ.out.y hlg
        have hKC : ∀ k, (Bk.fresh mode ports (-1)).C b k → k = b := fun k hk => by
          rcases hk with e | ⟨j, _, e⟩
          · exact e
          · cases e
        have hRC : ∀ k, (Rb.fresh mode ports (-1)).C rb k → k = rb := fun k hk => by
          rcases hk with e | e
          · exact e
          · cases e
        exact ⟨fun j => W.heap.size ≤ j ∧ j < w2.heap.size, .inr ⟨b, rb, N, _, _, hX2, hJ2.wide (fun i hl e => ⟨e, hl⟩), fun e => (by have := hKC _ e; omega), fun e => (by have := hRC _ e; omega), fun i e => (by have := hKC _ e; omega), fun i e => (by have := hRC _ e; omega)⟩, fun _ h => h⟩
    have hq3 : ∃ B, PSt B w w3 qb 0 ∧ (∀ j, B j → w2.heap.size ≤ j ∧ j < w3.heap.size) := by
      rcases hlg : legalB other width 1 with _ | _
      · exact ⟨fun _ => False, .inl (hQ3.n hlg), fun _ h => h.elim⟩
      · obtain ⟨N, b, rb, _, hb1, hrb1, hb2, hrb2, hX2, hJ2⟩ := hQ3.y hlg
        have hKC : ∀ k, (Bk.fresh other width 1).C b k → k = b := fun k hk => by
          rcases hk with e | ⟨j, _, e⟩
          · exact e
          · cases e
        have hRC : ∀ k, (Rb.fresh other width 1).C rb k → k = rb := fun k hk => by
          rcases hk with e | e
          · exact e
          · cases e
        exact ⟨fun j => w2.heap.size ≤ j ∧ j < w3.heap.size, .inr ⟨b, rb, N, _, _, hX2, hJ2.wide (fun i hl e => ⟨e, hl⟩), fun e => (by have := hKC _ e; omega), fun e => (by have := hRC _ e; omega), fun i e => (by have := hKC _ e; omega), fun i e => (by have := hRC _ e; omega)⟩, fun _ h => h⟩
    obtain ⟨A, hA, hAl⟩ := hp2
    obtain ⟨B, hBB, hBl⟩ := hq3
    refine ⟨A, B, hA.frame hQ3.but (fun i e => ⟨fun h => (by have := hAl i h; omega), by omega, by omega⟩), hBB, fun j h => (by have := hAl j h; omega), fun j h => (hBl j h).2, fun j h h2 => (by have := hAl j h; have := hBl j h2; omega), fun j h => (by have := hAl j h; omega), fun j h => (by have := hBl j h; omega), HB3.out, by omega, by omega⟩
  clear hQ3 HQ HG2 HB2 HXq hpb hqb
  have HIs := hid (inside_any s w3 ((HI.out.kept HB3.out.size (fun b hb _ => HB3.out.block b hb)).mono (fun b _ hl => hl)))
  go_wp2_with fail
  refine HIs.out.mono ?_
  rintro e w5 ⟨hb5, r5, rfl, hsz⟩
  have HB5 := hid (HB3.out.trans (hb5.mono HB3.out.size))
  have HT5 : Hid (∃ A B, Two w w5 pb qb 0 A B) := by
    obtain ⟨A, B, h⟩ := HTw.out
    have hn : But (fun _ => False) w3 w5 := But.ofBelow hb5
    exact ⟨A, B, h.p.frame hn (fun i e => e.elim), h.q.frame hn (fun i e => e.elim), fun j e => Nat.lt_of_lt_of_le (h.lp j e) hb5.size, fun j e => Nat.lt_of_lt_of_le (h.lq j e) hb5.size, h.d, h.np, h.nq, HB5.out, ⟨h.hp.1, Nat.lt_of_lt_of_le h.hp.2 hb5.size⟩, ⟨h.hq.1, Nat.lt_of_lt_of_le h.hq.2 hb5.size⟩⟩
  have HSz := hid hsz
  clear hb5 hsz HIs HTw
  rcases r5 with _ | _
  · go_wp2
    exact bodyPost_ret (v := .bool true) (by simp [results, Try.results7, go_sem]) rfl ⟨rfl, HB5.out⟩
  have HSz2 := hid (HSz.out rfl)
  clear HSz hl0 hl1
  go_wp2_with fail
  go_loopw [13] (fun xi wr => ∃ (k : Nat) (A B : Nat → Prop), k ≤ s.n ∧ k ≤ 600 ∧ xi = .int .i64 (k : Int) ∧ Two w wr pb qb k A B) (fun x _ => s.n - (intOf x).toNat)
  case atStart =>
    obtain ⟨A, B, h⟩ := HT5.out
    exact ⟨0, A, B, Nat.zero_le _, by omega, rfl, h⟩
  case round =>
    obtain ⟨k, A, B, hk, hk6, rfl, hT⟩ := hrel
    have HT := hid hT
    have HTs := hid hT.swap
    clear hT HT5
    by_cases hlt : k < s.n
    rotate_left
    · have hlt' : ¬ (k : Int) < (s.n : Int) := by omega
      go_wp2
      exact bodyPost_ret (v := .bool true) (by simp [results, Try.results7, go_sem]) rfl ⟨rfl, HT.out.bel⟩
    have hlt' : (k : Int) < (s.n : Int) := by omega
    by_cases hlt6 : k < 600
    rotate_left
    · have hlt6' : ¬ (k : Int) < 600 := by omega
      go_wp2
      exact bodyPost_ret (v := .bool true) (by simp [results, Try.results7, go_sem]) rfl ⟨rfl, HT.out.bel⟩
    have hlt6' : (k : Int) < 600 := by omega
    obtain ⟨bb, o, hp, hSb, hbb, hat⟩ := HI.out.at_ (by omega)
    rw [hp]
    have hcell : ∀ r u, (elOp.cells (s.item k))[r]? = some u → wr.cell? ⟨bb, o + k * 14 + r, none⟩ = some u := fun r u hu => (World.cell?_of_block (a := ⟨bb, o + k * 14 + r, none⟩) (HT.out.bel.block bb hbb)).trans (hat k hlt r u hu)
    have c0 : wr.cell? ⟨bb, o + k * 14, none⟩ = some (.int .i64 (s.item k).kind) := hcell 0 _ rfl
    have c1 : wr.cell? ⟨bb, o + k * 14 + 1, none⟩ = some (.int .i64 (s.item k).which) := hcell 1 _ rfl
    have c2 : wr.cell? ⟨bb, o + k * 14 + 2, none⟩ = some (.int .i64 (s.item k).port) := hcell 2 _ rfl
    have c3 : wr.cell? ⟨bb, o + k * 14 + 3, none⟩ = some (.int .i64 (s.item k).id) := hcell 3 _ rfl
    have c4 : wr.cell? ⟨bb, o + k * 14 + 4, none⟩ = some (.string (s.item k).r.key) := hcell 4 _ rfl
    have c5 : wr.cell? ⟨bb, o + k * 14 + 5, none⟩ = some (.int .i64 (s.item k).r.v.kind) := hcell 5 _ rfl
    have c6 : wr.cell? ⟨bb, o + k * 14 + 6, none⟩ = some (.int .i64 (s.item k).r.v.int) := hcell 6 _ rfl
    have c7 : wr.cell? ⟨bb, o + k * 14 + 7, none⟩ = some (.string (s.item k).r.v.text) := hcell 7 _ rfl
    have c8 : wr.cell? ⟨bb, o + k * 14 + 8, none⟩ = some (.slice (s.item k).r.v.p (s.item k).r.v.n (s.item k).r.v.c) := hcell 8 _ rfl
    have c9 : wr.cell? ⟨bb, o + k * 14 + 9, none⟩ = some (.slice (s.item k).r.p (s.item k).r.n (s.item k).r.c) := hcell 9 _ rfl
    have c10 : wr.cell? ⟨bb, o + k * 14 + 10, none⟩ = some (.slice (s.item k).a.p (s.item k).a.n (s.item k).a.c) := hcell 10 _ rfl
    have c11 : wr.cell? ⟨bb, o + k * 14 + 11, none⟩ = some (.slice (s.item k).q.p (s.item k).q.n (s.item k).q.c) := hcell 11 _ rfl
    have c12 : wr.cell? ⟨bb, o + k * 14 + 12, none⟩ = some (.int .i64 (s.item k).num) := hcell 12 _ rfl
    have c13 : wr.cell? ⟨bb, o + k * 14 + 13, none⟩ = some (.slice (s.item k).l.p (s.item k).l.n (s.item k).l.c) := hcell 13 _ rfl
    clear hcell hat hp
    by_cases hwh : (s.item k).which = 1
    · have hwh' : ((s.item k).which == 1) = true := by simp [hwh]
      clear hwh
      rcases HTs.out.p with hz | ⟨b, rb, N, K, R, ha⟩
      · have x0 := hz.cell 0
        have xl := hz.lt
        simp at x0
        clear hz
        go_wp2
        go_roundw
        case rel => exact ⟨k + 1, A, B, by omega, by omega, by go_num, HT.out.more⟩
        case measure => simp [intOf]; omega
      · have x0 := ha.x.cell 0
        have xl := ha.x.lt
        simp at x0
        have HA := hid ha
        have HPl := hid (plays_any B (s.item k) w wr qb b rb N k K R ha.x ha.j (by omega) ha.nk ha.nr ((OpT.at_ HI.out hlt).kept HTs.out.bel.size (fun b hb _ => HTs.out.bel.block b hb)) (HSz2.out k hlt))
        clear ha
        go_wp2_with (go_at_call 26; refine HPl.out.mono ?_; rintro e w6 hP6; rw [hP6.1])
        have HT6 := hid (HTs.out.step HA.out hP6)
        clear hP6 HPl x0 c0 c1 c2 c3 c4 c5 c6 c7 c8 c9 c10 c11 c12 c13
        go_roundw
        case rel =>
          obtain ⟨A6, hT6⟩ := HT6.out
          exact ⟨k + 1, A, A6, by omega, by omega, by go_num, hT6.swap⟩
        case measure => simp [intOf]; omega
    have hwh' : ((s.item k).which == 1) = false := by simp [hwh]
    clear hwh
    rcases HT.out.p with hz | ⟨b, rb, N, K, R, ha⟩
    · have x0 := hz.cell 0
      have xl := hz.lt
      simp at x0
      clear hz
      go_wp2
      go_roundw
      case rel => exact ⟨k + 1, A, B, by omega, by omega, by go_num, HT.out.more⟩
      case measure => simp [intOf]; omega
    · have x0 := ha.x.cell 0
      have xl := ha.x.lt
      simp at x0
      have HA := hid ha
      have HPl := hid (plays_any A (s.item k) w wr pb b rb N k K R ha.x ha.j (by omega) ha.nk ha.nr ((OpT.at_ HI.out hlt).kept HT.out.bel.size (fun b hb _ => HT.out.bel.block b hb)) (HSz2.out k hlt))
      clear ha
      go_wp2_with (go_at_call 26; refine HPl.out.mono ?_; rintro e w6 hP6; rw [hP6.1])
      have HT6 := hid (HT.out.step HA.out hP6)
      clear hP6 HPl x0 c0 c1 c2 c3 c4 c5 c6 c7 c8 c9 c10 c11 c12 c13
      go_roundw
      case rel =>
        obtain ⟨A6, hT6⟩ := HT6.out
        exact ⟨k + 1, A6, B, by omega, by omega, by go_num, hT6⟩
      case measure => simp [intOf]; omega
end Go.Proofs.Ytdncnnjhfipokaa
