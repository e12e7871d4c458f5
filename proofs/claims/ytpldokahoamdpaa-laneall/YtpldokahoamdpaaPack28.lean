import Derived.Test.YtpldokahoamdpaaPack27
namespace Go.Proofs.Ytpldokahoamdpaa
open Go.RowKit Go.Conc
set_option maxRecDepth 8000
theorem RT.Alike.size {a b : RT} (h : RT.Alike a b) : b.size = a.size := by unfold RT.size; rw [h.n, h.v.total]
section
variable {w : World} {Z : Nat → Prop} {b d : Nat}
/-- what lies outside of the two lanes stays -/
theorem out_keep {α : Type} {E : El α} {S : Nat → Prop} {w1 W1 w2 : World} {L L' : Ln} {R R' : Rf} {Z1 Z2 : Nat → Prop} {l : LT α} (hl : LT.In E w S l) (hS : ∀ k, k < w.heap.size → S k → ¬ (L.C b k ∨ R.C d k)) (ht : LSet w Z1 b L w1 L') (hW : Below w1.heap.size w1 W1) (hset : RSet W1 Z2 d R w2 R') : LT.In E w2 (fun _ => True) l := by
  have h0 := LT.In.mono (S' := fun k => S k ∧ k < w.heap.size) hl fun k hk hl => ⟨hk, hl⟩
  have h1 := h0.kept ht.but.size fun k hk hl => ht.but.block k hl fun e => hS k hk.2 hk.1 (.inl e)
  have h2 := (h1.below hW).kept hset.but.size fun k hk hl => hset.but.block k hl fun e => hS k hk.2 hk.1 (.inr e)
  exact LT.In.mono h2 fun _ _ _ => trivial
/-- Refill -/
theorem duo_refill {s : Pq} (h : s.I w Z b d) (hZ : ∀ k, Z k → k < w.heap.size) (r u : LT RT) (S : Nat → Prop) (hr : LT.In elRec w S r) (hu : LT.In elRec w S u) (hS : ∀ k, k < w.heap.size → S k → ¬ s.C b d k) (hn : u.n = r.n) (ha : ∀ j, j < r.n → RT.Alike (r.item j) (u.item j)) (hsz : ∀ j, j < r.n → (r.item j).size ≤ 10000) (hlen : s.len + r.n ≤ 30000) :
    Calls Try.prog 17 #[.pointer (some ⟨b, 0, none⟩), .slice r.p r.n r.c] w fun e w1 => ∃ v, e = .returned (.int .i64 v) ∧ But (fun k => k < w.heap.size) w w1 ∧ ∀ W1, Below w1.heap.size w1 W1 → Calls Try.prog 52 #[.pointer (some ⟨d, 0, none⟩), .slice u.p u.n u.c] W1 fun e' w2 => e' = .returned (.int .i64 v) ∧ Two2 elRec RT.Alike w2 r u ∧ DuoQ w Z b d s r.n W1 w2 := by
  cases s with
  | sh room R =>
    refine (refill_shut w b room h.1.1 r.p r.n r.c).mono ?_
    rintro e w1 ⟨rfl, hw1⟩
    subst hw1
    refine ⟨53, rfl, But.refl _ _, fun W1 hW1 => ?_⟩
    refine (rrefill_shut W1 _ d R (h.2.1.below hW1) h.2.2.1 u.p u.n u.c).mono ?_
    rintro e' w2 ⟨rfl, hw2⟩
    subst hw2
    obtain ⟨s', h1, h2, h3⟩ := PqS.still h (Below.refl _ _) hW1 (Below.refl w2.heap.size w2)
    exact ⟨rfl, ⟨hn, ha, LT.In.mono (hr.below hW1) fun _ _ _ => trivial, LT.In.mono (hu.below hW1) fun _ _ _ => trivial⟩, s', h1, by omega, h3⟩
  | op L R =>
    have hlt : ∀ k, R.C d k → k < w.heap.size := fun k e => h.2.1.c_lt e
    have hle := h.2.2.2.2.len
    rw [LT.toL_len] at hle
    have hlen' : L.q.length + r.n ≤ 30000 := hlen
    refine (refill_any w _ b L h.1 (fun k hk => hk.elim (hZ k) (hlt k)) r S hr (fun k hk hs e => hS k hk hs (.inl e)) hsz hlen').mono ?_
    rintro e w1 ⟨rfl, us, L', hq⟩
    have ht := hq.set
    have hr1 := h.2.1.lane ht
    refine ⟨0, rfl, but_lt ht.but fun k e => h.1.c_lt e, fun W1 hW1 => ?_⟩
    have hu1 : LT.In elRec W1 (fun k => S k ∧ k < w.heap.size) u := by
      have h0 := LT.In.mono (S' := fun k => S k ∧ k < w.heap.size) hu fun k hk hl => ⟨hk, hl⟩
      exact (h0.kept ht.but.size fun k hk hl => ht.but.block k hl fun e => hS k hk.2 hk.1 (.inl e)).below hW1
    refine (rrefill W1 _ d R (hr1.below hW1) (fun k hk => ?_) h.2.2.1 u _ hu1 (fun j hj => ?_) (by omega)).mono ?_
    · have := ht.but.size; have := hW1.size
      rcases hk with e | e
      · have := hZ k e; omega
      · have := ht.ln.c_lt e; omega
    · rw [(ha j (by omega)).size]; exact hsz j (by omega)
    rintro e' w2 ⟨rfl, vs, R', hvl, hve, hR', hsh, hset⟩
    have hset1 := RSet.trans (RSet.below hr1 hW1) hset
    refine ⟨rfl, ⟨hn, ha, out_keep hr hS ht hW1 hset, out_keep hu hS ht hW1 hset⟩, .op L' R', PqS.both h ht hset1 hsh ?_, ?_, but_lt hset.but hlt⟩
    · rw [hR', hq.q]
      refine Als.append (Als.of_get (by rw [hvl, hq.len, hn]) fun j x y hx hy => ?_) h.2.2.2.2
      have h1 := hq.each j x hx
      have h2 := hve j y hy
      have hj : j < r.n := by
        rcases Nat.lt_or_ge j us.length with h3 | h3
        · rw [hq.len] at h3; exact h3
        · rw [List.getElem?_eq_none h3] at hx; cases hx
      have hin : IT.In w1 _ x := (ht.ln.it x (by rw [hq.q]; exact List.mem_append_left _ (List.mem_of_getElem? hx))).1
      exact ⟨by rw [h1.1, h2.1], (h1.2.sy hin.r).tr ((ha j hj).tr h2.2)⟩
    · show L'.q.length ≤ L.q.length + r.n
      rw [hq.q, List.length_append, hq.len]; omega
theorem refI_als {L : Ln} {R : Rf} {p q : List IT} {m : Int} (hs : R.shut = false) (hr : R.room = L.room) (h : Als p q) : R.whyq q m = refI L.room (nR p) m := by
  unfold Rf.whyq
  rw [if_neg (by rw [hs]; simp), hr, h.nR]
/-- Put -/
theorem duo_put {s : Pq} (h : s.I w Z b d) (hZ : ∀ k, Z k → k < w.heap.size) (l u : LT IT) (S : Nat → Prop) (hl : LT.In elItem w S l) (hu : LT.In elItem w S u) (hS : ∀ k, k < w.heap.size → S k → ¬ s.C b d k) (hn : u.n = l.n) (ha : ∀ j, j < l.n → IT.Alike (l.item j) (u.item j)) (hsz : ∀ j, j < l.n → (l.item j).r.size ≤ 10000) (hlen : s.len + l.n ≤ 30000) :
    Calls Try.prog 9 #[.pointer (some ⟨b, 0, none⟩), .slice l.p l.n l.c] w fun e w1 => ∃ m er, e = .returned (.tuple #[.int .i64 m, .int .i64 er]) ∧ But (s.C b d) w w1 ∧ ∀ W1, Below w1.heap.size w1 W1 → Calls Try.prog 46 #[.pointer (some ⟨d, 0, none⟩), .slice u.p u.n u.c] W1 fun e' w2 => e' = .returned (.tuple #[.int .i64 m, .int .i64 er]) ∧ DuoQ w Z b d s l.n W1 w2 := by
  cases s with
  | sh room R =>
    have hlt : ∀ k, R.C d k → k < w.heap.size := fun k e => h.2.1.c_lt e
    refine (put_shut w b room h.1.1 l S hl).mono ?_
    rintro e w1 ⟨rfl, hB1⟩
    refine ⟨_, _, rfl, But.ofBelow hB1, fun W1 hW1 => ?_⟩
    have hr1 := (h.2.1.below hB1).below hW1
    refine (rput W1 _ d R hr1 (fun k hk => ?_) u (fun k => S k ∧ k < w.heap.size) ((LT.In.mono hu fun k hk hl => ⟨hk, hl⟩).below hB1 |>.below hW1) (fun k _ hs e => hS k hs.2 hs.1 (.inr e)) (fun j hj => ?_) (by have := h.2.1.sh h.2.2.1; have : (0 : Nat) + l.n ≤ 30000 := hlen; omega)).mono ?_
    · have := hB1.size; have := hW1.size
      rcases hk with e | e
      · have := hZ k e; omega
      · have := Box.lt h.1.1; omega
    · have := (ha j (by omega)).r.size; unfold RT.size at this; rw [this]; exact hsz j (by omega)
    rintro e' w2 ⟨us, R', er, rfl, hp, hor⟩
    have hus : us = [] := by
      cases us with
      | nil => rfl
      | cons x xs =>
        have := (hp.each 0 x rfl).2
        unfold Rf.whyq at this
        rw [if_pos h.2.2.1] at this
        cases this
    subst hus
    have hset1 := RSet.trans (RSet.below h.2.1 (hB1.trans (hW1.mono hB1.size))) hp.set
    have hbd : ¬ R.C d b := fun e => h.2.1.cz b e (.inr rfl)
    refine ⟨?_, .sh room R', ⟨⟨⟨Box.kept h.1.1 (hset1.but.block b (Box.lt h.1.1) hbd), h.1.2⟩, hset1.ln, hp.shut.trans h.2.2.1, by rw [hset1.room]; exact h.2.2.2⟩, ⟨hset1.but.os, hset1.but.tape, hset1.but.output, hset1.but.size, fun k hk hn => hset1.but.block k hk fun e => hn (.inr e)⟩, fun k hk => ?_⟩, Nat.zero_le _, but_lt hp.set.but hlt⟩
    · rcases hor with ⟨h1, h2⟩ | ⟨h1, h2, h3⟩
      · have h0 : l.n = 0 := by rw [← hn, ← h1]; rfl
        rw [h2, if_pos h0]; rfl
      · have h0 : l.n ≠ 0 := by have h4 : (0 : Nat) < u.n := h1; omega
        rw [h3, if_neg h0]
        unfold Rf.whyq
        rw [if_pos h.2.2.1]; rfl
    · rcases hk with e | e
      · exact .inl (.inl e)
      · exact (hset1.c k e).imp .inr id
  | op L R =>
    have hlt : ∀ k, R.C d k → k < w.heap.size := fun k e => h.2.1.c_lt e
    have hle := h.2.2.2.2.len
    rw [LT.toL_len] at hle
    have hlen' : L.q.length + l.n ≤ 30000 := hlen
    refine (put_any w _ b L h.1 (fun k hk => hk.elim (hZ k) (hlt k)) l S hl (fun k hk hs e => hS k hk hs (.inl e)) hsz hlen').mono ?_
    rintro e w1 ⟨us, L', er, rfl, hp, hor⟩
    have ht := hp.set
    have hr1 := h.2.1.lane ht
    refine ⟨_, _, rfl, ⟨ht.but.os, ht.but.tape, ht.but.output, ht.but.size, fun k hk hn => ht.but.block k hk fun e => hn (.inl e)⟩, fun W1 hW1 => ?_⟩
    have hu1 : LT.In elItem W1 (fun k => S k ∧ k < w.heap.size) u := by
      have h0 := LT.In.mono (S' := fun k => S k ∧ k < w.heap.size) hu fun k hk hl => ⟨hk, hl⟩
      exact (h0.kept ht.but.size fun k hk hl => ht.but.block k hl fun e => hS k hk.2 hk.1 (.inl e)).below hW1
    refine (rput W1 _ d R (hr1.below hW1) (fun k hk => ?_) u _ hu1 (fun k _ hs e => hS k hs.2 hs.1 (.inr e)) (fun j hj => ?_) (by omega)).mono ?_
    · have := ht.but.size; have := hW1.size
      rcases hk with e | e
      · have := hZ k e; omega
      · have := ht.ln.c_lt e; omega
    · have := (ha j (by omega)).r.size; unfold RT.size at this; rw [this]; exact hsz j (by omega)
    rintro e' w2 ⟨vs, R', er', rfl, hv, hor'⟩
    have hset1 := RSet.trans (RSet.below hr1 hW1) hv.set
    -- the two go the same way
    have hpair : ∀ j x y, us[j]? = some x → vs[j]? = some y → IT.Alike x y := fun j x y hx hy => by
      have hj : j < l.n := by
        rcases Nat.lt_or_ge j us.length with h3 | h3
        · have := hp.le; omega
        · rw [List.getElem?_eq_none h3] at hx; cases hx
      have hin : IT.In w1 _ x := (ht.ln.it x (by rw [hp.q]; exact List.mem_append_right _ (List.mem_of_getElem? hx))).1
      exact (hp.each j x hx).1.pair (hv.each j y hy).1 (ha j hj) hin
    have hpre : ∀ k, k ≤ us.length → k ≤ vs.length → Als (L.q ++ us.take k) (R.l.toL ++ vs.take k) := fun k h1 h2 => by
      refine h.2.2.2.2.append (Als.of_get (by rw [List.length_take, List.length_take]; omega) fun j x y hx hy => ?_)
      rw [List.getElem?_take] at hx hy
      split at hx
      · rename_i hjk
        rw [if_pos hjk] at hy
        exact hpair j x y hx hy
      · cases hx
    have hkk : vs.length = us.length := by
      rcases Nat.lt_trichotomy us.length vs.length with h1 | h1 | h1
      · exfalso
        have h2 := hv.le
        have h3 := hv.each us.length _ (List.getElem?_eq_getElem h1)
        have h4 := hpre us.length (Nat.le_refl _) (Nat.le_of_lt h1)
        have h5 := refI_als (m := (u.item us.length).mark) h.2.2.1 h.2.2.2.1 h4
        rw [h3.2, (ha us.length (by omega)).m, List.take_length] at h5
        rcases hor with ⟨h6, _⟩ | ⟨_, h6, h7⟩
        · omega
        · exact h6 (h7.trans h5.symm)
      · exact h1.symm
      · exfalso
        have h2 := hp.le
        have h3 := hp.each vs.length _ (List.getElem?_eq_getElem h1)
        have h4 := hpre vs.length (Nat.le_of_lt h1) (Nat.le_refl _)
        have h5 := refI_als (m := (u.item vs.length).mark) h.2.2.1 h.2.2.2.1 h4
        rw [(ha vs.length (by omega)).m, h3.2, List.take_length] at h5
        rcases hor' with ⟨h6, _⟩ | ⟨_, h6, h7⟩
        · omega
        · rw [(ha vs.length (by omega)).m] at h7
          exact h6 (h7.trans h5)
    have hals : Als (L.q ++ us) (R.l.toL ++ vs) := by
      have := hpre us.length (Nat.le_refl _) (by omega)
      rwa [List.take_length, ← hkk, List.take_length] at this
    have her : er' = er := by
      rcases hor with ⟨h1, h2⟩ | ⟨h1, h2, h3⟩
      · rcases hor' with ⟨_, h5⟩ | ⟨h4, _, _⟩
        · rw [h2, h5]
        · omega
      · rcases hor' with ⟨h4, _⟩ | ⟨_, _, h6⟩
        · omega
        · rw [h6, h3, hkk, (ha us.length (by omega)).m]
          exact refI_als h.2.2.1 h.2.2.2.1 hals
    refine ⟨by rw [hkk, her], .op L' R', PqS.both h ht hset1 hv.shut (by rw [hp.q, hv.q]; exact hals), ?_, but_lt hv.set.but hlt⟩
    show L'.q.length ≤ L.q.length + l.n
    rw [hp.q, List.length_append]
    have := hp.le
    omega
end
end Go.Proofs.Ytpldokahoamdpaa

namespace Go.Proofs.Ytpldokahoamdpaa
open Go.RowKit Go.Conc
set_option maxRecDepth 8000
/-- what a call of a script made of the two -/
def PlayQ (w : World) (Z : Nat → Prop) (b d : Nat) (s : Pq) (n : Nat) (e : Ending) (w' : World) : Prop := e = .returned (.bool true) ∧ ∃ s', PqS w Z b d s w' s' ∧ s'.len ≤ s.len + n
set_option maxRecDepth 60000 in
set_option maxHeartbeats 8000000 in
theorem plays_take (w : World) (Z : Nat → Prop) (b d : Nat) (s : Pq) (h : s.I w Z b d) (hZ : ∀ k, Z k → k < w.heap.size) (o : OpL) (hk : o.kind = 2) : Calls Try.prog 25 #[.pointer (some ⟨b, 0, none⟩), .pointer (some ⟨d, 0, none⟩), .agg #[.int .i64 o.kind, .bool o.sec, .slice o.its.p o.its.n o.its.c, .slice o.rcs.p o.rcs.n o.rcs.c]] w fun e w' => PlayQ w Z b d s 0 e w' := by
  obtain ⟨W, hW⟩ : ∃ W, W = w.alloc (.cells #[.int .i64 o.kind, .bool o.sec, .slice o.its.p o.its.n o.its.c, .slice o.rcs.p o.rcs.n o.rcs.c] 60) := ⟨_, rfl⟩
  have hB : Below w.heap.size w W := by rw [hW]; exact (Below.refl _ _).alloc (Nat.le_refl _) _
  have hXb : Box W w.heap.size #[.int .i64 o.kind, .bool o.sec, .slice o.its.p o.its.n o.its.c, .slice o.rcs.p o.rcs.n o.rcs.c] 60 := by rw [hW]; exact Box.new _ _ _
  have hWs : W.heap.size = w.heap.size + 1 := by rw [hW]; simp
  have hZW : ∀ k, Z k → k < W.heap.size := fun k hk => by have := hZ k hk; omega
  have HP := hid (PqS.below h hB)
  have HD := hid (duo_take (Pq.below h hB) hZW)
  have HB := hid hB
  have HW := hid hW
  have HX := hid hXb
  have z0 : W.cell? ⟨w.heap.size, 0, none⟩ = some (.int .i64 2) := by rw [hXb.cell, ← hk]; rfl
  have z3 : W.cell? ⟨w.heap.size, 3, none⟩ = some (.slice o.rcs.p o.rcs.n o.rcs.c) := by rw [hXb.cell]; rfl
  have zl := hXb.lt
  have HWs := hid hWs
  clear h hZ hB hXb hW hWs hZW hk z3
  go_enter Try.func25, Try.ntmps25
  go_upto_region 1 with fail
  rw [← HW.out]
  go_wp2_with fail
  refine HD.out.mono ?_
  rintro e w1 ⟨x, ok, rfl, hs1, _, hrest⟩
  obtain ⟨W1, hW1⟩ : ∃ V, V = w1.alloc (.cells #[.int .i64 x.mark, .string x.r.key, .int .i64 x.r.v.kind, .int .i64 x.r.v.int, .string x.r.v.text, .slice x.r.v.p x.r.v.n x.r.v.c, .slice x.r.p x.r.n x.r.c] 35) := ⟨_, rfl⟩
  have hB1 : Below w1.heap.size w1 W1 := by rw [hW1]; exact (Below.refl _ _).alloc (Nat.le_refl _) _
  have hX1 : Box W1 w1.heap.size #[.int .i64 x.mark, .string x.r.key, .int .i64 x.r.v.kind, .int .i64 x.r.v.int, .string x.r.v.text, .slice x.r.v.p x.r.v.n x.r.v.c, .slice x.r.p x.r.n x.r.c] 35 := by rw [hW1]; exact Box.new _ _ _
  have HR := hid (hrest W1 hB1)
  have HX1 := hid hX1
  have HW1 := hid hW1
  clear hrest hB1 hX1 hW1 z0 zl HD
  unfold IT.val
  go_upto_region 16 with fail
  rw [← HW1.out]
  go_wp2_with fail
  refine HR.out.mono ?_
  rintro e' w2 ⟨y, rfl, hal, hx, hy, s', hS, hl, hb2⟩
  have hX2 := HX1.out.kept (hb2.block _ HX1.out.lt (by omega))
  obtain ⟨W2, hW2⟩ : ∃ V, V = w2.alloc (.cells #[.int .i64 y.mark, .string y.r.key, .int .i64 y.r.v.kind, .int .i64 y.r.v.int, .string y.r.v.text, .slice y.r.v.p y.r.v.n y.r.v.c, .slice y.r.p y.r.n y.r.c] 35) := ⟨_, rfl⟩
  have hB2 : Below w2.heap.size w2 W2 := by rw [hW2]; exact (Below.refl _ _).alloc (Nat.le_refl _) _
  have hY2 : Box W2 w2.heap.size #[.int .i64 y.mark, .string y.r.key, .int .i64 y.r.v.kind, .int .i64 y.r.v.int, .string y.r.v.text, .slice y.r.v.p y.r.v.n y.r.v.c, .slice y.r.p y.r.n y.r.c] 35 := by rw [hW2]; exact Box.new _ _ _
  have hX3 := hX2.below hB2
  have a0 := hX3.cell 0
  have a1 := hX3.cell 1
  have a2 := hX3.cell 2
  have a3 := hX3.cell 3
  have a4 := hX3.cell 4
  have a5 := hX3.cell 5
  have a6 := hX3.cell 6
  simp at a0 a1 a2 a3 a4 a5 a6
  have c0 := hY2.cell 0
  have c1 := hY2.cell 1
  have c2 := hY2.cell 2
  have c3 := hY2.cell 3
  have c4 := hY2.cell 4
  have c5 := hY2.cell 5
  have c6 := hY2.cell 6
  simp at c0 c1 c2 c3 c4 c5 c6
  have al := hX3.lt
  have cl := hY2.lt
  have HSm := hid (sameItem_yes x y W2 _ _ (hx.below hB2) (hy.below hB2) hal)
  have HS := hid (PqS.trans (PqS.trans HP.out hS) (PqS.below hS.i hB2))
  have HL := hid hl
  have HW2 := hid hW2
  have hok : (ok == ok) = true := by simp
  clear hX2 hB2 hY2 hX3 hW2 hS hl hb2 hx hy hal HR
  unfold IT.val
  go_upto_region 17 with fail
  rw [← HW2.out]
  go_wp2_with fail
  refine HSm.out.mono ?_
  rintro e'' w3 ⟨rfl, hB3⟩
  have HF := hid (PqS.trans HS.out (PqS.below HS.out.i hB3))
  clear hB3
  go_wp2
  refine bodyPost_ret (v := .bool true) (by simp [results, Try.results25, go_sem]) rfl ⟨rfl, ?_⟩
  exact ⟨s', HF.out, HL.out⟩
set_option maxRecDepth 60000 in
set_option maxHeartbeats 8000000 in
theorem plays_peek (w : World) (Z : Nat → Prop) (b d : Nat) (s : Pq) (h : s.I w Z b d) (hZ : ∀ k, Z k → k < w.heap.size) (o : OpL) (hk : o.kind = 3) : Calls Try.prog 25 #[.pointer (some ⟨b, 0, none⟩), .pointer (some ⟨d, 0, none⟩), .agg #[.int .i64 o.kind, .bool o.sec, .slice o.its.p o.its.n o.its.c, .slice o.rcs.p o.rcs.n o.rcs.c]] w fun e w' => PlayQ w Z b d s 0 e w' := by
  obtain ⟨W, hW⟩ : ∃ W, W = w.alloc (.cells #[.int .i64 o.kind, .bool o.sec, .slice o.its.p o.its.n o.its.c, .slice o.rcs.p o.rcs.n o.rcs.c] 60) := ⟨_, rfl⟩
  have hB : Below w.heap.size w W := by rw [hW]; exact (Below.refl _ _).alloc (Nat.le_refl _) _
  have hXb : Box W w.heap.size #[.int .i64 o.kind, .bool o.sec, .slice o.its.p o.its.n o.its.c, .slice o.rcs.p o.rcs.n o.rcs.c] 60 := by rw [hW]; exact Box.new _ _ _
  have hWs : W.heap.size = w.heap.size + 1 := by rw [hW]; simp
  have hZW : ∀ k, Z k → k < W.heap.size := fun k hk => by have := hZ k hk; omega
  have HP := hid (PqS.below h hB)
  have HD := hid (duo_peek (Pq.below h hB) hZW)
  have HB := hid hB
  have HW := hid hW
  have HX := hid hXb
  have z0 : W.cell? ⟨w.heap.size, 0, none⟩ = some (.int .i64 3) := by rw [hXb.cell, ← hk]; rfl
  have z3 : W.cell? ⟨w.heap.size, 3, none⟩ = some (.slice o.rcs.p o.rcs.n o.rcs.c) := by rw [hXb.cell]; rfl
  have zl := hXb.lt
  have HWs := hid hWs
  clear h hZ hB hXb hW hWs hZW hk z3
  go_enter Try.func25, Try.ntmps25
  go_upto_region 1 with fail
  rw [← HW.out]
  go_wp2_with fail
  refine HD.out.mono ?_
  rintro e w1 ⟨x, ok, rfl, hs1, _, hrest⟩
  obtain ⟨W1, hW1⟩ : ∃ V, V = w1.alloc (.cells #[.int .i64 x.mark, .string x.r.key, .int .i64 x.r.v.kind, .int .i64 x.r.v.int, .string x.r.v.text, .slice x.r.v.p x.r.v.n x.r.v.c, .slice x.r.p x.r.n x.r.c] 35) := ⟨_, rfl⟩
  have hB1 : Below w1.heap.size w1 W1 := by rw [hW1]; exact (Below.refl _ _).alloc (Nat.le_refl _) _
  have hX1 : Box W1 w1.heap.size #[.int .i64 x.mark, .string x.r.key, .int .i64 x.r.v.kind, .int .i64 x.r.v.int, .string x.r.v.text, .slice x.r.v.p x.r.v.n x.r.v.c, .slice x.r.p x.r.n x.r.c] 35 := by rw [hW1]; exact Box.new _ _ _
  have HR := hid (hrest W1 hB1)
  have HX1 := hid hX1
  have HW1 := hid hW1
  clear hrest hB1 hX1 hW1 z0 zl HD
  unfold IT.val
  go_upto_region 20 with fail
  rw [← HW1.out]
  go_wp2_with fail
  refine HR.out.mono ?_
  rintro e' w2 ⟨y, rfl, hal, hx, hy, s', hS, hl, hb2⟩
  have hX2 := HX1.out.kept (hb2.block _ HX1.out.lt (by omega))
  obtain ⟨W2, hW2⟩ : ∃ V, V = w2.alloc (.cells #[.int .i64 y.mark, .string y.r.key, .int .i64 y.r.v.kind, .int .i64 y.r.v.int, .string y.r.v.text, .slice y.r.v.p y.r.v.n y.r.v.c, .slice y.r.p y.r.n y.r.c] 35) := ⟨_, rfl⟩
  have hB2 : Below w2.heap.size w2 W2 := by rw [hW2]; exact (Below.refl _ _).alloc (Nat.le_refl _) _
  have hY2 : Box W2 w2.heap.size #[.int .i64 y.mark, .string y.r.key, .int .i64 y.r.v.kind, .int .i64 y.r.v.int, .string y.r.v.text, .slice y.r.v.p y.r.v.n y.r.v.c, .slice y.r.p y.r.n y.r.c] 35 := by rw [hW2]; exact Box.new _ _ _
  have hX3 := hX2.below hB2
  have a0 := hX3.cell 0
  have a1 := hX3.cell 1
  have a2 := hX3.cell 2
  have a3 := hX3.cell 3
  have a4 := hX3.cell 4
  have a5 := hX3.cell 5
  have a6 := hX3.cell 6
  simp at a0 a1 a2 a3 a4 a5 a6
  have c0 := hY2.cell 0
  have c1 := hY2.cell 1
  have c2 := hY2.cell 2
  have c3 := hY2.cell 3
  have c4 := hY2.cell 4
  have c5 := hY2.cell 5
  have c6 := hY2.cell 6
  simp at c0 c1 c2 c3 c4 c5 c6
  have al := hX3.lt
  have cl := hY2.lt
  have HSm := hid (sameItem_yes x y W2 _ _ (hx.below hB2) (hy.below hB2) hal)
  have HS := hid (PqS.trans (PqS.trans HP.out hS) (PqS.below hS.i hB2))
  have HL := hid hl
  have HW2 := hid hW2
  have hok : (ok == ok) = true := by simp
  clear hX2 hB2 hY2 hX3 hW2 hS hl hb2 hx hy hal HR
  unfold IT.val
  go_upto_region 21 with fail
  rw [← HW2.out]
  go_wp2_with fail
  refine HSm.out.mono ?_
  rintro e'' w3 ⟨rfl, hB3⟩
  have HF := hid (PqS.trans HS.out (PqS.below HS.out.i hB3))
  clear hB3
  go_wp2
  refine bodyPost_ret (v := .bool true) (by simp [results, Try.results25, go_sem]) rfl ⟨rfl, ?_⟩
  exact ⟨s', HF.out, HL.out⟩
set_option maxRecDepth 60000 in
set_option maxHeartbeats 8000000 in
theorem plays_pull (w : World) (Z : Nat → Prop) (b d : Nat) (s : Pq) (h : s.I w Z b d) (hZ : ∀ k, Z k → k < w.heap.size) (o : OpL) (hk : o.kind = 4) : Calls Try.prog 25 #[.pointer (some ⟨b, 0, none⟩), .pointer (some ⟨d, 0, none⟩), .agg #[.int .i64 o.kind, .bool o.sec, .slice o.its.p o.its.n o.its.c, .slice o.rcs.p o.rcs.n o.rcs.c]] w fun e w' => PlayQ w Z b d s 0 e w' := by
  obtain ⟨W, hW⟩ : ∃ W, W = w.alloc (.cells #[.int .i64 o.kind, .bool o.sec, .slice o.its.p o.its.n o.its.c, .slice o.rcs.p o.rcs.n o.rcs.c] 60) := ⟨_, rfl⟩
  have hB : Below w.heap.size w W := by rw [hW]; exact (Below.refl _ _).alloc (Nat.le_refl _) _
  have hXb : Box W w.heap.size #[.int .i64 o.kind, .bool o.sec, .slice o.its.p o.its.n o.its.c, .slice o.rcs.p o.rcs.n o.rcs.c] 60 := by rw [hW]; exact Box.new _ _ _
  have hWs : W.heap.size = w.heap.size + 1 := by rw [hW]; simp
  have hZW : ∀ k, Z k → k < W.heap.size := fun k hk => by have := hZ k hk; omega
  have HP := hid (PqS.below h hB)
  have HD := hid (duo_pull (Pq.below h hB) hZW)
  have HB := hid hB
  have HW := hid hW
  have HX := hid hXb
  have z0 : W.cell? ⟨w.heap.size, 0, none⟩ = some (.int .i64 4) := by rw [hXb.cell, ← hk]; rfl
  have z3 : W.cell? ⟨w.heap.size, 3, none⟩ = some (.slice o.rcs.p o.rcs.n o.rcs.c) := by rw [hXb.cell]; rfl
  have zl := hXb.lt
  have HWs := hid hWs
  clear h hZ hB hXb hW hWs hZW hk z3
  go_enter Try.func25, Try.ntmps25
  go_upto_region 1 with fail
  rw [← HW.out]
  go_wp2_with fail
  refine HD.out.mono ?_
  rintro e w1 ⟨m, u, rfl, _, hrest⟩
  have HR := hid (hrest w1 (Below.refl _ _))
  clear hrest z0 zl HD
  go_wp2_with fail
  refine HR.out.mono ?_
  rintro e' w2 ⟨v, rfl, h2, s', hS, hl, hb2⟩
  have HSm := hid (sameRecs_yes u v w2 _ _ h2.a h2.b h2.n h2.each)
  have HS := hid (PqS.trans HP.out hS)
  have HL := hid hl
  have hok : (m == m) = true := by simp
  clear h2 hS hl hb2 HR
  go_wp2_with fail
  refine HSm.out.mono ?_
  rintro e'' w3 ⟨rfl, hB3⟩
  have HF := hid (PqS.trans HS.out (PqS.below HS.out.i hB3))
  clear hB3
  go_wp2
  refine bodyPost_ret (v := .bool true) (by simp [results, Try.results25, go_sem]) rfl ⟨rfl, ?_⟩
  exact ⟨s', HF.out, HL.out⟩
set_option maxRecDepth 60000 in
set_option maxHeartbeats 8000000 in
theorem plays_list (w : World) (Z : Nat → Prop) (b d : Nat) (s : Pq) (h : s.I w Z b d) (hZ : ∀ k, Z k → k < w.heap.size) (o : OpL) (hk : o.kind = 6) : Calls Try.prog 25 #[.pointer (some ⟨b, 0, none⟩), .pointer (some ⟨d, 0, none⟩), .agg #[.int .i64 o.kind, .bool o.sec, .slice o.its.p o.its.n o.its.c, .slice o.rcs.p o.rcs.n o.rcs.c]] w fun e w' => PlayQ w Z b d s 0 e w' := by
  obtain ⟨W, hW⟩ : ∃ W, W = w.alloc (.cells #[.int .i64 o.kind, .bool o.sec, .slice o.its.p o.its.n o.its.c, .slice o.rcs.p o.rcs.n o.rcs.c] 60) := ⟨_, rfl⟩
  have hB : Below w.heap.size w W := by rw [hW]; exact (Below.refl _ _).alloc (Nat.le_refl _) _
  have hXb : Box W w.heap.size #[.int .i64 o.kind, .bool o.sec, .slice o.its.p o.its.n o.its.c, .slice o.rcs.p o.rcs.n o.rcs.c] 60 := by rw [hW]; exact Box.new _ _ _
  have hWs : W.heap.size = w.heap.size + 1 := by rw [hW]; simp
  have hZW : ∀ k, Z k → k < W.heap.size := fun k hk => by have := hZ k hk; omega
  have HP := hid (PqS.below h hB)
  have HD := hid (duo_list (Pq.below h hB) hZW)
  have HB := hid hB
  have HW := hid hW
  have HX := hid hXb
  have z0 : W.cell? ⟨w.heap.size, 0, none⟩ = some (.int .i64 6) := by rw [hXb.cell, ← hk]; rfl
  have z3 : W.cell? ⟨w.heap.size, 3, none⟩ = some (.slice o.rcs.p o.rcs.n o.rcs.c) := by rw [hXb.cell]; rfl
  have zl := hXb.lt
  have HWs := hid hWs
  clear h hZ hB hXb hW hWs hZW hk z3
  go_enter Try.func25, Try.ntmps25
  go_upto_region 1 with fail
  rw [← HW.out]
  go_wp2_with fail
  refine HD.out.mono ?_
  rintro e w1 ⟨u, rfl, _, hrest⟩
  have HR := hid (hrest w1 (Below.refl _ _))
  clear hrest z0 zl HD
  go_wp2_with fail
  refine HR.out.mono ?_
  rintro e' w2 ⟨v, rfl, h2, s', hS, hl, hb2⟩
  have HSm := hid (sameItems_yes u v w2 _ _ h2.a h2.b h2.n h2.each)
  have HS := hid (PqS.trans HP.out hS)
  have HL := hid hl
  clear h2 hS hl hb2 HR
  go_wp2_with fail
  refine HSm.out.mono ?_
  rintro e'' w3 ⟨rfl, hB3⟩
  have HF := hid (PqS.trans HS.out (PqS.below HS.out.i hB3))
  clear hB3
  go_wp2
  refine bodyPost_ret (v := .bool true) (by simp [results, Try.results25, go_sem]) rfl ⟨rfl, ?_⟩
  exact ⟨s', HF.out, HL.out⟩
set_option maxRecDepth 60000 in
set_option maxHeartbeats 8000000 in
theorem plays_close (w : World) (Z : Nat → Prop) (b d : Nat) (s : Pq) (h : s.I w Z b d) (hZ : ∀ k, Z k → k < w.heap.size) (o : OpL) (hk : o.kind = 8) : Calls Try.prog 25 #[.pointer (some ⟨b, 0, none⟩), .pointer (some ⟨d, 0, none⟩), .agg #[.int .i64 o.kind, .bool o.sec, .slice o.its.p o.its.n o.its.c, .slice o.rcs.p o.rcs.n o.rcs.c]] w fun e w' => PlayQ w Z b d s 0 e w' := by
  obtain ⟨W, hW⟩ : ∃ W, W = w.alloc (.cells #[.int .i64 o.kind, .bool o.sec, .slice o.its.p o.its.n o.its.c, .slice o.rcs.p o.rcs.n o.rcs.c] 60) := ⟨_, rfl⟩
  have hB : Below w.heap.size w W := by rw [hW]; exact (Below.refl _ _).alloc (Nat.le_refl _) _
  have hXb : Box W w.heap.size #[.int .i64 o.kind, .bool o.sec, .slice o.its.p o.its.n o.its.c, .slice o.rcs.p o.rcs.n o.rcs.c] 60 := by rw [hW]; exact Box.new _ _ _
  have hWs : W.heap.size = w.heap.size + 1 := by rw [hW]; simp
  have hZW : ∀ k, Z k → k < W.heap.size := fun k hk => by have := hZ k hk; omega
  have HP := hid (PqS.below h hB)
  have HD := hid (duo_close (Pq.below h hB) hZW)
  have HB := hid hB
  have HW := hid hW
  have HX := hid hXb
  have z0 : W.cell? ⟨w.heap.size, 0, none⟩ = some (.int .i64 8) := by rw [hXb.cell, ← hk]; rfl
  have z3 : W.cell? ⟨w.heap.size, 3, none⟩ = some (.slice o.rcs.p o.rcs.n o.rcs.c) := by rw [hXb.cell]; rfl
  have zl := hXb.lt
  have HWs := hid hWs
  clear h hZ hB hXb hW hWs hZW hk z3
  go_enter Try.func25, Try.ntmps25
  go_upto_region 1 with fail
  rw [← HW.out]
  go_wp2_with fail
  refine HD.out.mono ?_
  rintro e w1 ⟨u, rfl, _, hrest⟩
  have HR := hid (hrest w1 (Below.refl _ _))
  clear hrest z0 zl HD
  go_wp2_with fail
  refine HR.out.mono ?_
  rintro e' w2 ⟨v, rfl, h2, s', hS, hl, hb2⟩
  have HSm := hid (sameItems_yes u v w2 _ _ h2.a h2.b h2.n h2.each)
  have HS := hid (PqS.trans HP.out hS)
  have HL := hid hl
  clear h2 hS hl hb2 HR
  go_wp2_with fail
  refine HSm.out.mono ?_
  rintro e'' w3 ⟨rfl, hB3⟩
  have HF := hid (PqS.trans HS.out (PqS.below HS.out.i hB3))
  clear hB3
  go_wp2
  refine bodyPost_ret (v := .bool true) (by simp [results, Try.results25, go_sem]) rfl ⟨rfl, ?_⟩
  exact ⟨s', HF.out, HL.out⟩
set_option maxRecDepth 60000 in
set_option maxHeartbeats 8000000 in
theorem plays_full (w : World) (Z : Nat → Prop) (b d : Nat) (s : Pq) (h : s.I w Z b d) (hZ : ∀ k, Z k → k < w.heap.size) (o : OpL) (hk : o.kind = 7) : Calls Try.prog 25 #[.pointer (some ⟨b, 0, none⟩), .pointer (some ⟨d, 0, none⟩), .agg #[.int .i64 o.kind, .bool o.sec, .slice o.its.p o.its.n o.its.c, .slice o.rcs.p o.rcs.n o.rcs.c]] w fun e w' => PlayQ w Z b d s 0 e w' := by
  obtain ⟨W, hW⟩ : ∃ W, W = w.alloc (.cells #[.int .i64 o.kind, .bool o.sec, .slice o.its.p o.its.n o.its.c, .slice o.rcs.p o.rcs.n o.rcs.c] 60) := ⟨_, rfl⟩
  have hB : Below w.heap.size w W := by rw [hW]; exact (Below.refl _ _).alloc (Nat.le_refl _) _
  have hXb : Box W w.heap.size #[.int .i64 o.kind, .bool o.sec, .slice o.its.p o.its.n o.its.c, .slice o.rcs.p o.rcs.n o.rcs.c] 60 := by rw [hW]; exact Box.new _ _ _
  have hWs : W.heap.size = w.heap.size + 1 := by rw [hW]; simp
  have hZW : ∀ k, Z k → k < W.heap.size := fun k hk => by have := hZ k hk; omega
  have HP := hid (PqS.below h hB)
  have HD := hid (duo_full (Pq.below h hB))
  have HB := hid hB
  have HW := hid hW
  have HX := hid hXb
  have z0 : W.cell? ⟨w.heap.size, 0, none⟩ = some (.int .i64 7) := by rw [hXb.cell, ← hk]; rfl
  have z3 : W.cell? ⟨w.heap.size, 3, none⟩ = some (.slice o.rcs.p o.rcs.n o.rcs.c) := by rw [hXb.cell]; rfl
  have zl := hXb.lt
  have HWs := hid hWs
  clear h hZ hB hXb hW hWs hZW hk z3
  go_enter Try.func25, Try.ntmps25
  go_upto_region 1 with fail
  rw [← HW.out]
  go_wp2_with fail
  refine HD.out.mono ?_
  rintro e w1 ⟨v, rfl, _, hrest⟩
  have HR := hid (hrest w1 (Below.refl _ _))
  clear hrest z0 zl HD
  go_wp2_with fail
  refine HR.out.mono ?_
  rintro e' w2 ⟨rfl, s', hS, hl, hb2⟩
  have HF := hid (PqS.trans HP.out hS)
  have HL := hid hl
  have hok : (v == v) = true := by simp
  clear hS hl hb2 HR
  go_wp2
  refine bodyPost_ret (v := .bool true) (by simp [results, Try.results25, go_sem]) rfl ⟨rfl, ?_⟩
  exact ⟨s', HF.out, HL.out⟩
set_option maxRecDepth 60000 in
set_option maxHeartbeats 8000000 in
theorem plays_refill (w : World) (Z : Nat → Prop) (b d : Nat) (s : Pq) (h : s.I w Z b d) (hZ : ∀ k, Z k → k < w.heap.size) (o : OpL) (hk : o.kind = 5) (S : Nat → Prop) (hr : LT.In elRec w S o.rcs) (hS : ∀ k, k < w.heap.size → S k → ¬ s.C b d k) (hn1 : o.rcs.n ≤ 10000) (hsz : ∀ j, j < o.rcs.n → (o.rcs.item j).size ≤ 10000) (hlen : s.len + o.rcs.n ≤ 30000) : Calls Try.prog 25 #[.pointer (some ⟨b, 0, none⟩), .pointer (some ⟨d, 0, none⟩), .agg #[.int .i64 o.kind, .bool o.sec, .slice o.its.p o.its.n o.its.c, .slice o.rcs.p o.rcs.n o.rcs.c]] w fun e w' => PlayQ w Z b d s o.rcs.n e w' := by
  obtain ⟨W, hW⟩ : ∃ W, W = w.alloc (.cells #[.int .i64 o.kind, .bool o.sec, .slice o.its.p o.its.n o.its.c, .slice o.rcs.p o.rcs.n o.rcs.c] 60) := ⟨_, rfl⟩
  have hB : Below w.heap.size w W := by rw [hW]; exact (Below.refl _ _).alloc (Nat.le_refl _) _
  have hXb : Box W w.heap.size #[.int .i64 o.kind, .bool o.sec, .slice o.its.p o.its.n o.its.c, .slice o.rcs.p o.rcs.n o.rcs.c] 60 := by rw [hW]; exact Box.new _ _ _
  have hWs : W.heap.size = w.heap.size + 1 := by rw [hW]; simp
  have hZW : ∀ k, Z k → k < W.heap.size := fun k hk => by have := hZ k hk; omega
  have HP := hid (PqS.below h hB)
  have HC := hid (rrs5 o.rcs W S (hr.below hB) hn1 hsz)
  have HD : Hid (∀ W2 (u : LT RT), Below W.heap.size W W2 → LT.In elRec W2 (fun k => W.heap.size ≤ k) u → LAlk RT.Alike o.rcs u → Calls Try.prog 17 #[.pointer (some ⟨b, 0, none⟩), .slice o.rcs.p o.rcs.n o.rcs.c] W2 fun e w1 => ∃ v, e = .returned (.int .i64 v) ∧ But (fun k => k < W2.heap.size) W2 w1 ∧ ∀ W1, Below w1.heap.size w1 W1 → Calls Try.prog 52 #[.pointer (some ⟨d, 0, none⟩), .slice u.p u.n u.c] W1 fun e' w2 => e' = .returned (.int .i64 v) ∧ Two2 elRec RT.Alike w2 o.rcs u ∧ DuoQ W2 Z b d s o.rcs.n W1 w2) := fun W2 u hB2 hu ha => by
    refine duo_refill (Pq.below (Pq.below h hB) hB2) (fun k hk => by have := hZW k hk; have := hB2.size; omega) o.rcs u (fun k => (S k ∧ k < w.heap.size) ∨ W.heap.size ≤ k) (LT.In.mono (((LT.In.mono (S' := fun k => S k ∧ k < w.heap.size) hr fun k hk hl => ⟨hk, hl⟩).below hB).below hB2) fun k hk _ => .inl hk) (LT.In.mono hu fun k hk _ => .inr hk) (fun k _ hs e => ?_) ha.n ha.item hsz hlen
    rcases hs with e2 | e2
    · exact hS k e2.2 e2.1 e
    · have := Pq.c_lt h e; omega
  have HB := hid hB
  have HW := hid hW
  have HX := hid hXb
  have z0 : W.cell? ⟨w.heap.size, 0, none⟩ = some (.int .i64 5) := by rw [hXb.cell, ← hk]; rfl
  have z3 : W.cell? ⟨w.heap.size, 3, none⟩ = some (.slice o.rcs.p o.rcs.n o.rcs.c) := by rw [hXb.cell]; rfl
  have zl := hXb.lt
  have HWs := hid hWs
  have hbl : w.heap.size < W.heap.size := hXb.lt
  have HCl : Hid (∀ k, s.C b d k → k < w.heap.size) := fun k hk => Pq.c_lt h hk
  clear h hZ hB hXb hW hWs hZW hk hr hS hsz
  go_enter Try.func25, Try.ntmps25
  go_upto_region 1 with fail
  rw [← HW.out]
  go_wp2_with fail
  refine HC.out.mono ?_
  rintro e w0 ⟨u, rfl, ha, hu, hB0⟩
  have HR := hid (HD.out w0 u hB0 hu ha)
  have hX0 := HX.out.below hB0
  have HX0 := hid hX0
  have HP0 := hid (PqS.trans HP.out (PqS.below HP.out.i hB0))
  have y3 : w0.cell? ⟨w.heap.size, 3, none⟩ = some (.slice o.rcs.p o.rcs.n o.rcs.c) := by rw [hX0.cell]; rfl
  have yl := hX0.lt
  clear hX0 hB0 hu ha z0 z3 zl HD HC
  go_wp2_with fail
  refine HR.out.mono ?_
  rintro e w1 ⟨v, rfl, hb1, hrest⟩
  have HR2 := hid (hrest w1 (Below.refl _ _))
  clear hrest y3 yl hb1
  go_wp2_with fail
  refine HR2.out.mono ?_
  rintro e' w2 ⟨rfl, h2, s', hS, hl, hb2⟩
  have HSm := hid (sameRecs_yes o.rcs u w2 _ _ h2.a h2.b h2.n h2.each)
  have HS := hid (PqS.trans HP0.out hS)
  have HL := hid hl
  have hok : (v == v) = true := by simp
  have x3 : w2.cell? ⟨w.heap.size, 3, none⟩ = some (.slice o.rcs.p o.rcs.n o.rcs.c) := by
    have h4 := HX0.out.kept (hS.but.block _ HX0.out.lt fun e => by have := HCl.out _ e; omega)
    rw [h4.cell]; rfl
  have xl : w.heap.size < w2.heap.size := Nat.lt_of_lt_of_le HX0.out.lt hS.but.size
  clear h2 hS hl hb2 HR HR2
  go_wp2_with fail
  refine HSm.out.mono ?_
  rintro e'' w3 ⟨rfl, hB3⟩
  have HF := hid (PqS.trans HS.out (PqS.below HS.out.i hB3))
  clear hB3
  go_wp2
  refine bodyPost_ret (v := .bool true) (by simp [results, Try.results25, go_sem]) rfl ⟨rfl, ?_⟩
  exact ⟨s', HF.out, HL.out⟩
set_option maxRecDepth 60000 in
set_option maxHeartbeats 8000000 in
theorem plays_other (w : World) (Z : Nat → Prop) (b d : Nat) (s : Pq) (h : s.I w Z b d) (o : OpL) (hk : o.kind < 1 ∨ 8 < o.kind) : Calls Try.prog 25 #[.pointer (some ⟨b, 0, none⟩), .pointer (some ⟨d, 0, none⟩), .agg #[.int .i64 o.kind, .bool o.sec, .slice o.its.p o.its.n o.its.c, .slice o.rcs.p o.rcs.n o.rcs.c]] w fun e w' => PlayQ w Z b d s 0 e w' := by
  obtain ⟨W, hW⟩ : ∃ W, W = w.alloc (.cells #[.int .i64 o.kind, .bool o.sec, .slice o.its.p o.its.n o.its.c, .slice o.rcs.p o.rcs.n o.rcs.c] 60) := ⟨_, rfl⟩
  have hB : Below w.heap.size w W := by rw [hW]; exact (Below.refl _ _).alloc (Nat.le_refl _) _
  have hXb : Box W w.heap.size #[.int .i64 o.kind, .bool o.sec, .slice o.its.p o.its.n o.its.c, .slice o.rcs.p o.rcs.n o.rcs.c] 60 := by rw [hW]; exact Box.new _ _ _
  have HP := hid (PqS.below h hB)
  have HW := hid hW
  have z0 : W.cell? ⟨w.heap.size, 0, none⟩ = some (.int .i64 o.kind) := by rw [hXb.cell]; rfl
  have zl := hXb.lt
  have k1 : (o.kind == 1) = false := by simp; omega
  have k2 : (o.kind == 2) = false := by simp; omega
  have k3 : (o.kind == 3) = false := by simp; omega
  have k4 : (o.kind == 4) = false := by simp; omega
  have k5 : (o.kind == 5) = false := by simp; omega
  have k6 : (o.kind == 6) = false := by simp; omega
  have k7 : (o.kind == 7) = false := by simp; omega
  have k8 : (o.kind == 8) = false := by simp; omega
  clear h hB hXb hW hk
  go_enter Try.func25, Try.ntmps25
  go_upto_region 1 with fail
  rw [← HW.out]
  go_wp2
  refine bodyPost_ret (v := .bool true) (by simp [results, Try.results25, go_sem]) rfl ⟨rfl, ?_⟩
  exact ⟨s, HP.out, Nat.le_refl _⟩
end Go.Proofs.Ytpldokahoamdpaa
