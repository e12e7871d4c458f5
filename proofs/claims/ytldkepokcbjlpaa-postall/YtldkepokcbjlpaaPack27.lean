import Derived.Test.YtldkepokcbjlpaaPack26
namespace Go.Proofs.Ytldkepokcbjlpaa
open Go.RowKit Go.Conc
set_option maxRecDepth 60000
theorem mayB_refl (a : Int) : mayB a a = true := decide_eq_true (.inl rfl)
structure Moves (n : Nat) (f g : Nat → Int) : Prop where
  m : ∀ j, j < n → mayB (f j) (g j) = true
  c : chgN f g n ≤ 1
theorem chgN_same {f g : Nat → Int} : ∀ {n : Nat}, (∀ j, j < n → g j = f j) → chgN f g n = 0
  | 0, _ => rfl
  | n + 1, h => by rw [chgN, chgN_same (fun j hj => h j (by omega)), if_pos (h n (by omega))]
theorem chgN_one {f g : Nat → Int} (i : Nat) : ∀ {n : Nat}, (∀ j, j < n → j ≠ i → g j = f j) → chgN f g n ≤ 1
  | 0, _ => by simp [chgN]
  | n + 1, h => by
    rw [chgN]
    by_cases e : n = i
    · rw [chgN_same (fun j hj => h j (by omega) (by omega))]
      split <;> omega
    · rw [if_pos (h n (by omega) e)]
      exact chgN_one i (fun j hj hn => h j (by omega) hn)
theorem Moves.same {n : Nat} {f g : Nat → Int} (h : ∀ j, j < n → g j = f j) : Moves n f g := ⟨fun j hj => by rw [h j hj]; exact mayB_refl _, by rw [chgN_same h]; omega⟩
theorem Moves.one {n : Nat} {f g : Nat → Int} (i : Nat) (h : ∀ j, j < n → j ≠ i → g j = f j) (hm : i < n → mayB (f i) (g i) = true) : Moves n f g := ⟨fun j hj => by
  by_cases e : j = i
  · rw [e]; exact hm (by omega)
  · rw [h j hj e]; exact mayB_refl _, chgN_one i h⟩
theorem Moves.refl (n : Nat) (f : Nat → Int) : Moves n f f := Moves.same fun _ _ => rfl
theorem Ps.last1 {P : Ps} (h : ¬ P.under = 0) : 0 < P.sts.n ∧ P.sts.item (P.sts.n - 1) = 1 := by
  obtain ⟨h1, _, h3⟩ := Ps.under_n h
  refine ⟨h1, ?_⟩
  rw [show P.next - 1 = P.first + ((P.sts.n - 1 : Nat) : Int) by unfold Ps.next; omega, P.stat_at (by omega)] at h3
  exact h3
theorem Moves.fin {P : Ps} (h : ¬ P.under = 0) (x : Int) (hx : x = 2 ∨ x = 4) : Moves P.sts.n P.sts.item (P.fin x).sts.item := by
  obtain ⟨h1, h2⟩ := Ps.last1 h
  refine Moves.one (P.sts.n - 1) (fun j hj hn => ?_) (fun _ => ?_)
  · show (if j = P.sts.n - 1 then x else P.sts.item j) = _
    rw [if_neg hn]
  · show mayB _ (if P.sts.n - 1 = P.sts.n - 1 then x else _) = true
    rw [if_pos rfl, h2]
    exact decide_eq_true (.inr (.inr (.inl ⟨rfl, hx⟩)))
theorem PInv.lone {P : Ps} {L : List Value} (h : PInv P L) (hf : 1 ≤ P.first) : ∀ j, j < P.sts.n → (P.sts.item j = 1 ↔ P.under = P.first + (j : Int)) := fun j hj => by
  have e : P.next - 1 = P.first + ((P.sts.n - 1 : Nat) : Int) := by unfold Ps.next; omega
  constructor
  · intro h1
    have hj1 : j = P.sts.n - 1 := by
      by_cases h2 : j + 1 < P.sts.n
      · exact absurd h1 (h.la j h2)
      · omega
    unfold Ps.under
    rw [if_pos (by rw [e, P.stat_at (by omega), ← hj1]; exact h1), e, hj1]
  · intro h1
    have h0 : ¬ P.under = 0 := by omega
    obtain ⟨h2, h3⟩ := Ps.last1 h0
    have h4 := (Ps.under_n h0).2.1
    rw [show j = P.sts.n - 1 by unfold Ps.next at h4; omega]
    exact h3
/-- what a call leaves of a coordinator -/
structure StepR (w : World) (b : Nat) (P : Ps) (w' : World) (P' : Ps) (L' : List Value) : Prop where
  s : QS w b P w' P' L'
  inv : PInv P' L'
  n : P'.sts.n = P.sts.n
  f : P'.first = P.first
  t : P'.tasks = P.tasks
  m : Moves P.sts.n P.sts.item P'.sts.item
theorem StepR.same {w w' : World} {b : Nat} {P : Ps} {L : List Value} (hI : PsI w b P) (hc : Inb w P L) (hv : PInv P L) (hb : Below w.heap.size w w') : StepR w b P w' P L :=
  ⟨(QSet.same hI hb).qs hI hc rfl rfl, hv, rfl, rfl, rfl, Moves.refl _ _⟩
theorem HandQ.step {id task : Int} {x : PtT} {w w' : World} {b : Nat} {P P' : Ps} {L L' : List Value} {e : Ending} (h : HandQ id task x w b P L e w' P' L') (hv : PInv P L) : StepR w b P w' P' L' := by
  have hs := h.s
  by_cases h0 : P.refE id task = 0
  · obtain ⟨i, u, rfl, hi, rfl, rfl, _⟩ := h.y h0
    exact ⟨hs, hv.handed u h0, rfl, rfl, rfl, Moves.refl _ _⟩
  · obtain ⟨rfl, rfl⟩ := h.n h0
    exact ⟨hs, hv, rfl, rfl, rfl, Moves.refl _ _⟩
theorem AbQ.step {w w' : World} {b : Nat} {P P' : Ps} {L L' : List Value} {e : Ending} (h : AbQ w b P L e w' P' L') (hv : PInv P L) : StepR w b P w' P' L' ∧ ∃ n f, e = .returned (.tuple #[.int .i64 n, .int .i64 f]) := by
  have hs := h.s
  by_cases h0 : P.under = 0
  · obtain ⟨rfl, rfl, rfl⟩ := h.n h0
    exact ⟨⟨hs, hv, rfl, rfl, rfl, Moves.refl _ _⟩, _, _, rfl⟩
  · obtain ⟨rfl, rfl, rfl⟩ := h.y h0
    exact ⟨⟨hs, hv.fin 4, rfl, rfl, rfl, Moves.fin h0 4 (.inr rfl)⟩, _, _, rfl⟩
theorem SettQ.step {id : Int} {ok : Bool} {w w' : World} {b : Nat} {P P' : Ps} {L : List Value} {e : Ending} (h : SettQ id ok w b P e w' P') (hI : PsI w b P) (hc : Inb w P L) (hv : PInv P L) : StepR w b P w' P' L := by
  have hs := h.s
  by_cases h0 : P.stat id = 2
  · obtain ⟨_, rfl⟩ := h.y h0
    have h1 : ¬ (id < P.first ∨ P.next ≤ id) := fun e => by
      unfold Ps.stat at h0
      rw [if_pos e] at h0
      cases h0
    have h2 : (id - P.first).toNat < P.sts.n := by unfold Ps.next at h1; omega
    have h3 : P.sts.item (id - P.first).toNat = 2 := by
      unfold Ps.stat at h0
      rw [if_neg h1] at h0
      exact h0
    have hx : (if ok then (3 : Int) else 4) = 3 ∨ (if ok then (3 : Int) else 4) = 4 := by cases ok <;> simp
    refine ⟨hs.qs hI hc rfl rfl, hv.settled h2 (by rw [h3]; omega) (by rcases hx with h | h <;> rw [h] <;> omega), rfl, rfl, rfl, Moves.one (id - P.first).toNat (fun j hj hn => ?_) (fun _ => ?_)⟩
    · show (if j = (id - P.first).toNat then _ else P.sts.item j) = _
      rw [if_neg hn]
    · show mayB _ (if (id - P.first).toNat = (id - P.first).toNat then _ else _) = true
      rw [if_pos rfl, h3]
      exact decide_eq_true (.inr (.inr (.inr ⟨rfl, hx⟩)))
  · obtain ⟨rfl, _⟩ := h.n h0
    exact ⟨hs.qs hI hc rfl rfl, hv, rfl, rfl, rfl, Moves.refl _ _⟩
def PckR (w : World) (b : Nat) (P : Ps) (e : Ending) (w' : World) : Prop := ∃ P' L' n s, e = .returned (.tuple #[n, s]) ∧ StepR w b P w' P' L'
theorem pick_step (w : World) (b : Nat) (P : Ps) (L : List Value) (hI : PsI w b P) (hc : Inb w P L) (hv : PInv P L) : Calls Try.prog 14 #[.pointer (some ⟨b, 0, none⟩)] w fun e w' => PckR w b P e w' := by
  obtain ⟨ts, rfl, hn, hq⟩ := hv.ls
  cases ts with
  | nil =>
    obtain ⟨s, r, hch⟩ := hc.ch
    refine (pick_none w b P hI _ s r hch).mono ?_
    rintro e w' ⟨rfl, hb⟩
    exact ⟨P, [], _, _, rfl, StepR.same hI hc hv hb⟩
  | cons q ts =>
    have hu : ¬ P.under = 0 := fun e => by
      have := (hv.un e).1
      cases this
    have h12 : q.1 < 12 := by have := (hq q (List.mem_cons_self ..)).1; have := hI.t1; omega
    refine (pick_some q.1 h12 q.2 (ts.map fun r : Nat × PtT => letV r.1 r.2) w b P hI hc (Ps.last1 hu).1).mono ?_
    rintro e w' ⟨P', hP⟩
    obtain ⟨hg, hw⟩ := PInv.gath (P := P) (q := q) (ts := ts) hn hq hu hv.la q.2
    have hs := hP.s
    by_cases h0 : (P.gath q.1 q.2).wants = []
    · obtain ⟨rfl, p, c, T, _, rfl, _⟩ := hP.y h0
      obtain rfl := hw h0
      exact ⟨_, _, _, _, rfl, hs, hg.fin 2, rfl, rfl, rfl, Moves.fin (P := P) hu 2 (.inl rfl)⟩
    · obtain ⟨rfl, rfl⟩ := hP.n h0
      exact ⟨_, _, _, _, rfl, hs, hg, rfl, rfl, rfl, Moves.refl _ _⟩
/-- the coordinator of a law's loop, and beside it the row of the statuses as they were -/
structure PJ (w0 w : World) (b : Nat) (P : Ps) (L : List Value) (v : Value) (n : Nat) (f : Nat → Int) : Prop where
  i : PsI w b P
  inb : Inb w P L
  inv : PInv P L
  bel : Below w0.heap.size w0 w
  cb : ∀ k, P.C b k → w0.heap.size ≤ k
  ch : w0.heap.size ≤ P.ch
  own : w.ownsRow w0.heap.size 3 1 v n (rowM f f 0 n)
  vc : ∀ k, v.ownBlock = some k → ¬ P.C b k ∧ k ≠ P.ch
theorem PJ.step {w0 w w' : World} {b : Nat} {P P' : Ps} {L L' : List Value} {v : Value} {n : Nat} {f : Nat → Int} (h : PJ w0 w b P L v n f) (s : QS w b P w' P' L') (hv : PInv P' L') : PJ w0 w' b P' L' v n f := by
  refine ⟨s.inv, s.inb, hv, h.bel.trans (s.but.below h.bel.size (fun k hk e => ?_)), fun k hk => ?_, by rw [s.chE]; exact h.ch, ownsRow_keep h.own (fun k hk hl => s.but.block k hl (fun e => ?_)), fun k hk => ⟨fun e => ?_, by rw [s.chE]; exact (h.vc k hk).2⟩⟩
  · rcases e with e | e
    · have := h.cb k e; omega
    · have := h.ch; omega
  · rcases s.cs k hk with h1 | h1
    · exact h.cb k h1
    · exact Nat.le_trans h.bel.size h1
  · rcases e with e | e
    · exact (h.vc k hk).1 e
    · exact (h.vc k hk).2 e
  · rcases s.cs k e with h1 | h1
    · exact (h.vc k hk).1 h1
    · have := (h.own.lt k hk).2; omega
theorem PJ.below {w0 w w' : World} {b : Nat} {P : Ps} {L : List Value} {v : Value} {n : Nat} {f : Nat → Int} (h : PJ w0 w b P L v n f) (hb : Below w.heap.size w w') : PJ w0 w' b P L v n f := h.step ((QSet.same h.i hb).qs h.i h.inb rfl rfl) h.inv
theorem rowM_congr {f g f' g' : Nat → Int} {k k' n : Nat} (h : ∀ j, j < n → (if j < k then g j else f j) = (if j < k' then g' j else f' j)) : rowM f g k n = rowM f' g' k' n := by
  unfold rowM
  apply List.map_congr_left
  intro j hj
  rw [h j (List.mem_range.1 hj)]
theorem PJ.put {w0 w w' : World} {b : Nat} {P : Ps} {L : List Value} {v : Value} {n : Nat} {f g : Nat → Int} (h : PJ w0 w b P L v n f) (ho : w'.ownsRow w0.heap.size 3 1 v n (rowM f g n n)) (hb : But (fun k => v.ownBlock = some k) w w') : PJ w0 w' b P L v n g := by
  have hn : ∀ k, P.C b k ∨ k = P.ch → ¬ v.ownBlock = some k := fun k hk e => by
    rcases hk with h1 | h1
    · exact (h.vc k e).1 h1
    · exact (h.vc k e).2 h1
  refine ⟨h.i.kept fun k hk hl => hb.block k hl (hn k (.inl hk)), h.inb.to rfl rfl (hb.block _ h.inb.lt (hn _ (.inr rfl))), h.inv, h.bel.trans (hb.below h.bel.size (fun k hk e => by have := (h.own.lt k e).1; omega)), h.cb, h.ch, ?_, h.vc⟩
  rw [rowM_congr (f' := f) (g' := g) (k' := n) (fun j hj => by rw [if_neg (by omega), if_pos hj])]
  exact ho
end Go.Proofs.Ytldkepokcbjlpaa

namespace Go.Proofs.Ytldkepokcbjlpaa
open Go.RowKit Go.Conc
set_option maxRecDepth 60000
set_option maxHeartbeats 4000000 in
theorem moved_nil (w : World) (b : Nat) (P : Ps) (hI : PsI w b P) (h0 : P.sts.n = 0) :
    Calls Try.prog 17 #[.pointer (some ⟨b, 0, none⟩), .int .i64 P.first, .slice none 0 0] w fun e w' => e = .returned (.bool true) ∧ Below w.heap.size w w' := by
  have HI := hid hI
  have HOp := hid (open_any w b P hI)
  have hf0 := hI.f0
  have hf1 := hI.f1
  have hsn : IntKind.i64.wrap (P.first + 0) = P.first + 0 := by rw [IntKind.wrap_i64]; omega
  have hsm : IntKind.i64.wrap (P.first - 1) = P.first - 1 := by rw [IntKind.wrap_i64]; omega
  have HE1 : Hid (P.stat (P.first + 0) = 0) := if_pos (.inr (by unfold Ps.next; omega))
  have HE2 : Hid (P.stat (P.first - 1) = 0) := if_pos (.inl (by omega))
  clear hI h0
  go_enter Try.func17, Try.ntmps17
  go_wp2_with (go_at_call 21; refine HOp.out.mono ?_; rintro e w1 ⟨p1, c1, N1, hN1, rfl, hq1⟩; clear hN1; have H1 := hid hq1.bel; clear hq1)
  clear HOp
  go_loopw [9, 10] (fun y x wr => x = .int .i64 0 ∧ y = .int .i64 0 ∧ wr = w1) (fun _ x _ => 0)
  case atStart => exact ⟨rfl, rfl, rfl⟩
  case round =>
    obtain ⟨rfl, rfl, rfl⟩ := hrel
    have HS1 := hid (Status_any (P.first + 0) wr b P (HI.out.below H1.out))
    go_wp2_with fail
    rw [Int.add_zero] at HS1 HE1
    refine HS1.out.mono ?_
    rintro e w2 ⟨rfl, hb2⟩
    rw [HE1.out]
    have HB2 := hid (H1.out.trans (hb2.mono H1.out.size))
    have HS2 := hid (Status_any (P.first - 1) w2 b P (HI.out.below HB2.out))
    clear hb2 HS1
    go_wp2_with fail
    refine HS2.out.mono ?_
    rintro e w3 ⟨rfl, hb3⟩
    rw [HE2.out]
    have HB3 := hid (HB2.out.trans (hb3.mono HB2.out.size))
    clear hb3 HS2
    go_wp2
    refine bodyPost_ret (v := .bool true) (by simp [results, Try.results17, go_sem]) rfl ?_
    exact ⟨rfl, HB3.out⟩
def MovR (base n : Nat) (f g : Nat → Int) (v : Value) (w : World) (e : Ending) (w' : World) : Prop := e = .returned (.bool true) ∧ w'.ownsRow base 3 1 v n (rowM f g n n) ∧ But (fun k => v.ownBlock = some k) w w'
theorem moved_all (w : World) (b : Nat) (P : Ps) (hI : PsI w b P) (base : Nat) (v : Value) (f : Nat → Int) (ho : w.ownsRow base 3 1 v P.sts.n (rowM f f 0 P.sts.n)) (hne : ∀ k, v.ownBlock = some k → ¬ P.C b k) (hm : Moves P.sts.n f P.sts.item) (hf : ∀ j, j < P.sts.n → 0 ≤ f j ∧ f j ≤ 4) (hl : ∀ j, j < P.sts.n → (P.sts.item j = 1 ↔ P.under = P.first + (j : Int))) :
    Calls Try.prog 17 #[.pointer (some ⟨b, 0, none⟩), .int .i64 P.first, v] w fun e w' => MovR base P.sts.n f P.sts.item v w e w' := by
  obtain ⟨hlen, ⟨hv, h0⟩ | ⟨g, cap, cur, hv, hr⟩⟩ := id ho
  · subst hv
    have h0' : P.sts.n = 0 := h0
    rw [h0'] at ho ⊢
    refine (moved_nil w b P hI h0').mono ?_
    rintro e w' ⟨rfl, hb⟩
    exact ⟨rfl, World.ownsRow_nil _ _ _ _, But.ofBelow hb⟩
  · subst hv
    rw [rowM_congr (f' := f) (g' := P.sts.item) (k' := 0) (fun j hj => by rw [if_neg (by omega), if_neg (by omega)])] at ho
    refine (moved_any w b P hI base g cap f ho (hne g rfl) hm.m hf hm.c hl).mono ?_
    rintro e w' ⟨rfl, ho', hb⟩
    exact ⟨rfl, ho', ⟨hb.os, hb.tape, hb.output, hb.size, fun k hk hn => hb.block k hk (fun e => hn (by rw [e]; rfl))⟩⟩
/-- the statuses grow by one, and so does the row beside them -/
theorem PJ.pushed {w0 w w1 w2 : World} {b : Nat} {P : Ps} {L : List Value} {v v2 : Value} {p : Option Addr} {c : Nat} (h : PJ w0 w b (P.push p c 1) L v P.sts.n P.sts.item) (h1 : Below w.heap.size w w1) (ho : w2.ownsRow w0.heap.size 3 1 v2 (P.sts.n + 1) (rowM P.sts.item P.sts.item 0 P.sts.n ++ [.int .i64 0])) (hg : w1.grownBy w2 v.ownBlock) (hn : Near w1 v v2) :
    PJ w0 w2 b (P.push p c 1) L v2 (P.sts.n + 1) (fun j => if j < P.sts.n then P.sts.item j else 0) := by
  have g := h.below h1
  have hv2 : ∀ k, v2.ownBlock = some k → v.ownBlock = some k ∨ w1.heap.size ≤ k := fun k hk => by
    rcases hn with e | e
    · exact .inl (by rw [← e]; exact hk)
    · exact .inr (e k hk)
  refine ⟨g.i.kept fun k hk hl => hg.block k hl (fun e => (g.vc k e.symm).1 hk), g.inb.to rfl rfl (hg.block _ g.inb.lt (fun e => (g.vc _ e.symm).2 rfl)), g.inv, g.bel.trans ⟨hg.os, hg.tape, hg.output, hg.size, fun k hk => ?_⟩, g.cb, g.ch, ?_, fun k hk => ?_⟩
  · exact hg.block k (Nat.lt_of_lt_of_le hk g.bel.size) (fun e => by have := (g.own.lt k e.symm).1; omega)
  · have : rowM (fun j => if j < P.sts.n then P.sts.item j else 0) (fun j => if j < P.sts.n then P.sts.item j else 0) 0 (P.sts.n + 1) = rowM P.sts.item P.sts.item 0 P.sts.n ++ [.int .i64 0] := by
      unfold rowM
      rw [List.range_succ, List.map_append]
      congr 1
      · apply List.map_congr_left
        intro j hj
        simp [List.mem_range.1 hj]
      · simp
    rw [this]
    exact ho
  · rcases hv2 k hk with e | e
    · exact g.vc k e
    · exact ⟨fun e2 => by have := g.i.lt e2; omega, fun e2 => by have := g.inb.lt; omega⟩
theorem Moves.trig (P : Ps) (p : Option Addr) (c : Nat) : Moves (P.push p c 1).sts.n (fun j => if j < P.sts.n then P.sts.item j else 0) (P.push p c 1).sts.item := by
  refine Moves.one P.sts.n (fun j hj hn => ?_) (fun _ => ?_)
  · have hj' : j < P.sts.n + 1 := hj
    show (if j < P.sts.n then P.sts.item j else 1) = if j < P.sts.n then P.sts.item j else 0
    rw [if_pos (by omega), if_pos (by omega)]
  · show mayB (if P.sts.n < P.sts.n then _ else 0) (if P.sts.n < P.sts.n then _ else 1) = true
    rw [if_neg (by omega), if_neg (by omega)]
    rfl
theorem StepR.below {w w1 w2 : World} {b : Nat} {P P1 : Ps} {L1 : List Value} (h : StepR w b P w1 P1 L1) (hl : P.ch < w.heap.size) (hb : Below w1.heap.size w1 w2) : StepR w b P w2 P1 L1 :=
  ⟨h.s.trans hl ((QSet.same h.s.inv hb).qs h.s.inv h.s.inb rfl rfl), h.inv, h.n, h.f, h.t, h.m⟩
theorem PJ.moved {w0 w w' : World} {b : Nat} {P P' : Ps} {L L' : List Value} {v : Value} (h : PJ w0 w b P L v P.sts.n P.sts.item) (s : StepR w b P w' P' L') : Calls Try.prog 17 #[.pointer (some ⟨b, 0, none⟩), .int .i64 P.first, v] w' fun e w'' => e = .returned (.bool true) ∧ PJ w0 w'' b P' L' v P'.sts.n P'.sts.item := by
  have h5 := h.step s.s s.inv
  have h6 := moved_all w' b P' h5.i w0.heap.size v P.sts.item (by rw [s.n]; exact h5.own) (fun k hk => (h5.vc k hk).1) (by rw [s.n]; exact s.m) (fun j hj => h.i.st j (by rw [← s.n]; exact hj)) (s.inv.lone h5.i.f0)
  rw [s.f] at h6
  refine h6.mono ?_
  rintro e w'' ⟨rfl, ho, hb⟩
  rw [← s.n] at h5
  exact ⟨rfl, h5.put ho hb⟩
theorem PJ.movedT {w0 w : World} {b : Nat} {P : Ps} {L : List Value} {v : Value} {p : Option Addr} {c : Nat} (h : PJ w0 w b (P.push p c 1) L v (P.sts.n + 1) (fun j => if j < P.sts.n then P.sts.item j else 0)) (hs : ∀ j, j < P.sts.n → 0 ≤ P.sts.item j ∧ P.sts.item j ≤ 4) : Calls Try.prog 17 #[.pointer (some ⟨b, 0, none⟩), .int .i64 P.first, v] w fun e w'' => e = .returned (.bool true) ∧ PJ w0 w'' b (P.push p c 1) L v (P.push p c 1).sts.n (P.push p c 1).sts.item := by
  have h6 := moved_all w b (P.push p c 1) h.i w0.heap.size v (fun j => if j < P.sts.n then P.sts.item j else 0) h.own (fun k hk => (h.vc k hk).1) (Moves.trig P p c) (fun j hj => by
    by_cases e : j < P.sts.n
    · simp only [e, if_true]; exact hs j e
    · simp only [e, if_false]; omega) (h.inv.lone h.i.f0)
  refine h6.mono ?_
  rintro e w'' ⟨rfl, ho, hb⟩
  exact ⟨rfl, PJ.put (n := (P.push p c 1).sts.n) h ho hb⟩
theorem PJ.bels {w0 w w' : World} {b : Nat} {P P' : Ps} {L : List Value} {v : Value} {n : Nat} {f : Nat → Int} (h : PJ w0 w b P L v n f) (s : QSet w b P w' P') : Below w0.heap.size w0 w' :=
  h.bel.trans (s.but.below h.bel.size (fun k hk e => by have := h.cb k e; omega))
theorem Ps.stat_set {P : Ps} {id x : Int} (h : P.stat id = 2) : (P.setSt (id - P.first).toNat x).stat id = x := by
  unfold Ps.stat at h ⊢
  split at h
  · cases h
  · rename_i h1
    rw [if_neg (show ¬ (id < (P.setSt (id - P.first).toNat x).first ∨ (P.setSt (id - P.first).toNat x).next ≤ id) from h1)]
    show (if (id - P.first).toNat = (id - P.first).toNat then x else _) = x
    rw [if_pos rfl]
theorem PJ.new {w0 w w' : World} {T A m : Int} (hb : Below w0.heap.size w0 w) (hI : PsI w' (w.heap.size + 1) (Ps.new T A m w.heap.size)) (hc : Inb w' (Ps.new T A m w.heap.size) []) (hb' : Below w.heap.size w w') : PJ w0 w' (w.heap.size + 1) (Ps.new T A m w.heap.size) [] (.slice none 0 0) (Ps.new T A m w.heap.size).sts.n (Ps.new T A m w.heap.size).sts.item :=
  ⟨hI, hc, PInv.nil (fun _ _ => rfl) (fun j hj => absurd hj (by show ¬ j + 1 < 0; omega)), hb.trans (hb'.mono hb.size), fun k hk => (by
    have := hb.size
    rcases hk with e | e
    · omega
    · simp [Ps.lv, Ps.new, Value.ownBlock] at e), hb.size, World.ownsRow_nil _ _ _ _, fun k hk => (by simp [Value.ownBlock] at hk)⟩
theorem step_callG {ops : Array Oper} {o : Oper} {a : Act} {w : World} {K : Act → World → Prop} {Q : Exit → Act → World → Prop} {E : Prop}
    (hw : Region.wanted o (yielded ops a.tmps) = true) (f : Nat) (xs : Array Operand) (ts : Array TypeId) (hop : o.op = Op.call { callee := Callee.value (Operand.func f), args := xs, argTypes := ts })
    (F : Func) (hF : Try.prog.funcs[f]? = some F) (hN : (F.name == "runtime.NumGoroutine") = false) (hB : F.body.isNone = false) (vs : Array Value) (hvl : xs.toList.map a.eval = vs.toList) (R : Ending → World → Prop) (hC : Calls Try.prog f vs w R) (hK : ∀ e w', R e w' → ∃ v, e = .returned v ∧ K (a.put o.dst v) w') :
    if Region.wanted o (yielded ops a.tmps) = true then Oper.wp Try.prog o a w K Q else E := by
  rw [if_pos hw]
  have hvs : xs.map a.eval = vs := by
    obtain ⟨xl⟩ := xs
    obtain ⟨vl⟩ := vs
    simp only at hvl
    rw [List.map_toArray, hvl]
  have hrun : (execOp a.eval o).run Try.prog w = .ok (.enter f vs) w := by
    have h1 : ¬ F.name = "runtime.NumGoroutine" := by simpa using hN
    have h2 : ¬ F.body = none := by intro h; rw [h] at hB; cases hB
    simp [execOp, hop, resolve, invoke, hvs, Deferred.ofValue, Act.eval, callFunc, Result.andThen, go_sem, hF, h1, h2]
  unfold Oper.wp
  rw [hrun, Oper.upon_enter]
  refine hC.mono fun e w' h => ?_
  obtain ⟨v, rfl, hk⟩ := hK e w' h
  exact hk
end Go.Proofs.Ytldkepokcbjlpaa
