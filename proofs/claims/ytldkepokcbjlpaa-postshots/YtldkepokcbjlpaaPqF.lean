import Derived.Test.YtldkepokcbjlpaaPqE
namespace Go.Proofs.Ytldkepokcbjlpaa
open Go.RowKit Go.Conc
set_option maxRecDepth 8000
theorem But.wide {X Y : Nat → Prop} {w w' : World} (h : But X w w') (hx : ∀ k, X k → Y k) : But Y w w' := ⟨h.os, h.tape, h.output, h.size, fun k hl hn => h.block k hl (fun e => hn (hx k e))⟩
theorem RJ.stay {w0 w w' : World} {b : Nat} {P : Ps} {ts : List (Nat × PtT)} {num : Nat → Int} {D : Nat → Prop} (h : RJ w0 w b P ts num D) (s : QS w b P w' P (lets ts)) : RJ w0 w' b P ts num D := by
  obtain ⟨m0, m1, m2, m3⟩ := h.mem s
  exact ⟨s.inv, s.inb, h.nd, h.one, h.un, h.la, h.pw, m0, m1, m2, m3, fun q hq => ⟨(h.pts q hq).1, (h.pts q hq).2.qs s⟩, fun t ht e => ⟨(h.got t ht e).1, (h.got t ht e).2.qs s⟩⟩
theorem Ps.under_pos {w : World} {b : Nat} {P : Ps} (h : PsI w b P) (hu : ¬ P.under = 0) : 0 < P.under := by
  obtain ⟨h1, h2, _⟩ := Ps.under_n hu
  have := h.f0
  unfold Ps.next at h2
  omega
theorem Ps.fin_under {P : Ps} {x : Int} (hx : x ≠ 1) (hn : 0 < P.sts.n) : (P.fin x).under = 0 := by
  unfold Ps.under
  rw [if_neg]
  have e : (P.fin x).next - 1 = (P.fin x).first + ((P.sts.n - 1 : Nat) : Int) := by show P.first + (P.sts.n : Int) - 1 = P.first + ((P.sts.n - 1 : Nat) : Int); omega
  rw [e, (P.fin x).stat_at (k := P.sts.n - 1) (by show P.sts.n - 1 < P.sts.n; omega)]
  show ¬ (if P.sts.n - 1 = P.sts.n - 1 then x else _) = 1
  rw [if_pos rfl]
  exact hx
/-- what the story knows of the snapshot under way -/
structure On (w : World) (sb hb : Nat) (P : Ps) (ts : List (Nat × PtT)) (num : Nat → Int) (T : Nat) (y : Sy) (M : Array Value) : Prop where
  h : y.hp = some ⟨hb, 0, none⟩ ∧ y.hn = T ∧ y.hc = T
  box : Box w hb M 3
  size : M.size = T
  ms : ∀ t, t < T → M[t]? = some (.int .i64 (if P.pl t = 0 then 0 else num t))
  ne : hb ≠ sb
  count : y.count = y.picked + (ts.length : Int)
  picked : y.picked + (P.wants.length : Int) = (T : Int)
  p012 : ∀ t, t < T → P.pl t = 0 ∨ P.pl t = 1 ∨ P.pl t = 2
  num : ∀ t, t < T → P.pl t ≠ 0 → 1 ≤ num t ∧ num t ≤ y.marks
structure SJ (w0 w : World) (b sb hb : Nat) (P : Ps) (ts : List (Nat × PtT)) (num : Nat → Int) (T : Nat) (sum : Int) (y : Sy) : Prop where
  r : RJ w0 w b P ts num (fun k => k = sb ∨ k = hb)
  box : Box w sb y.arr 60
  t : P.tasks = (T : Int)
  s : P.sum = sum
  id : y.id = P.under
  nx : y.next = P.next
  mks : 0 ≤ y.marks
  on : ¬ P.under = 0 → ∃ M, On w sb hb P ts num T y M
theorem On.kept {w w' : World} {sb hb : Nat} {P : Ps} {ts : List (Nat × PtT)} {num : Nat → Int} {T : Nat} {y : Sy} {M : Array Value} (h : On w sb hb P ts num T y M) (hb' : w'.heap[hb]? = w.heap[hb]?) : On w' sb hb P ts num T y M :=
  ⟨h.h, h.box.kept hb', h.size, h.ms, h.ne, h.count, h.picked, h.p012, h.num⟩
theorem SJ.below {w0 w w' : World} {b sb hb : Nat} {P : Ps} {ts : List (Nat × PtT)} {num : Nat → Int} {T : Nat} {sum : Int} {y : Sy} (h : SJ w0 w b sb hb P ts num T sum y) (g : Below w.heap.size w w') : SJ w0 w' b sb hb P ts num T sum y :=
  ⟨h.r.below g, h.box.below g, h.t, h.s, h.id, h.nx, h.mks, fun e => by
    obtain ⟨M, hM⟩ := h.on e
    exact ⟨M, hM.kept (g.block _ hM.box.lt)⟩⟩
theorem SJ.T12 {w0 w : World} {b sb hb : Nat} {P : Ps} {ts : List (Nat × PtT)} {num : Nat → Int} {T : Nat} {sum : Int} {y : Sy} (h : SJ w0 w b sb hb P ts num T sum y) : 1 ≤ T ∧ T ≤ 12 := by
  have := h.r.i.t0
  have := h.r.i.t1
  have := h.t
  omega
theorem SJ.keptP {w0 w w' : World} {b sb hb : Nat} {P P' : Ps} {L' : List Value} {ts : List (Nat × PtT)} {num : Nat → Int} {T : Nat} {sum : Int} {y : Sy} (h : SJ w0 w b sb hb P ts num T sum y) (s : QS w b P w' P' L') : Box w' sb y.arr 60 ∧ ∀ M, Box w hb M 3 → Box w' hb M 3 :=
  ⟨h.box.kept (s.but.block _ h.box.lt (h.r.dnot (.inl rfl))), fun _ hM => hM.kept (s.but.block _ hM.lt (h.r.dnot (.inr rfl)))⟩
theorem SJ.stay {w0 w w' : World} {b sb hb : Nat} {P : Ps} {ts : List (Nat × PtT)} {num : Nat → Int} {T : Nat} {sum : Int} {y : Sy} (h : SJ w0 w b sb hb P ts num T sum y) (s : QS w b P w' P (lets ts)) : SJ w0 w' b sb hb P ts num T sum y :=
  ⟨h.r.stay s, (h.keptP s).1, h.t, h.s, h.id, h.nx, h.mks, fun e => by
    obtain ⟨M, hM⟩ := h.on e
    exact ⟨M, hM.h, (h.keptP s).2 M hM.box, hM.size, hM.ms, hM.ne, hM.count, hM.picked, hM.p012, hM.num⟩⟩
/-- another hand is counted -/
theorem SJ.mark {w0 w : World} {b sb hb : Nat} {P : Ps} {ts : List (Nat × PtT)} {num : Nat → Int} {T : Nat} {sum : Int} {y : Sy} (h : SJ w0 w b sb hb P ts num T sum y) : SJ w0 (w.setCell ⟨sb, 5, none⟩ (.int .i64 (y.marks + 1))) b sb hb P ts num T sum { y with marks := y.marks + 1 } := by
  have hb1 : But (fun k => k = sb) w (w.setCell ⟨sb, 5, none⟩ (.int .i64 (y.marks + 1))) := (But.one w sb).setAt 5 _
  refine ⟨h.r.put (hb1.wide fun k hk => .inl hk), h.box.set 5 _, h.t, h.s, h.id, h.nx, by have := h.mks; show 0 ≤ y.marks + 1; omega, fun e => ?_⟩
  obtain ⟨M, hM⟩ := h.on e
  exact ⟨M, hM.h, hM.box.kept (hb1.block _ hM.box.lt hM.ne), hM.size, hM.ms, hM.ne, hM.count, hM.picked, hM.p012, fun t ht e => by
    have := hM.num t ht e
    show 1 ≤ num t ∧ num t ≤ y.marks + 1
    omega⟩
/-- a part was taken in, and the story tells it -/
theorem SJ.handed {w0 w w' w'' : World} {b sb hb i : Nat} {P : Ps} {ts : List (Nat × PtT)} {u : PtT} {num : Nat → Int} {T : Nat} {sum : Int} {y : Sy} (h : SJ w0 w b sb hb P ts num T sum y) (hp : P.pl i = 0) (hi : i < T) (h1 : 1 ≤ y.marks) {M : Array Value} (hM : On w sb hb P ts num T y M)
    (hr : RJ w0 w' b (P.hand i) (ts ++ [(i, u)]) (fun j => if j = i then y.marks else num j) (fun k => k = sb ∨ k = hb)) (hbx : Box w' sb y.arr 60) (hbm : Box w' hb M 3)
    (e : w'' = (w'.setCell ⟨hb, i, none⟩ (.int .i64 y.marks)).setCell ⟨sb, 2, none⟩ (.int .i64 (y.count + 1))) : SJ w0 w'' b sb hb (P.hand i) (ts ++ [(i, u)]) (fun j => if j = i then y.marks else num j) T sum { y with count := y.count + 1 } := by
  have hb1 : But (fun k => k = hb) w' (w'.setCell ⟨hb, i, none⟩ (.int .i64 y.marks)) := (But.one w' hb).setAt i _
  have hb2 : But (fun k => k = sb) (w'.setCell ⟨hb, i, none⟩ (.int .i64 y.marks)) w'' := by rw [e]; exact (But.one _ sb).setAt 2 _
  have hx1 : Box (w'.setCell ⟨hb, i, none⟩ (.int .i64 y.marks)) sb y.arr 60 := hbx.kept (hb1.block _ hbx.lt (fun e => hM.ne e.symm))
  have hx2 : Box w'' sb ({ y with count := y.count + 1 } : Sy).arr 60 := by rw [e]; exact hx1.set 2 _
  have hm1 : Box (w'.setCell ⟨hb, i, none⟩ (.int .i64 y.marks)) hb (M.setIfInBounds i (.int .i64 y.marks)) 3 := hbm.set i _
  have hm2 : Box w'' hb (M.setIfInBounds i (.int .i64 y.marks)) 3 := hm1.kept (hb2.block _ hm1.lt hM.ne)
  have hwl : (P.hand i).wants = P.wants := Ps.wantsU_same _ (fun j _ => by
    show ((if j = i then (1 : Int) else P.pl j) = 2 ↔ P.pl j = 2)
    by_cases e : j = i
    · rw [if_pos e, e, hp]; omega
    · rw [if_neg e])
  refine ⟨(hr.put (hb1.wide fun k hk => .inr hk)).put (hb2.wide fun k hk => .inl hk), hx2, h.t, h.s, h.id, h.nx, h.mks, fun _ => ⟨M.setIfInBounds i (.int .i64 y.marks), hM.h, hm2, by rw [Array.size_setIfInBounds]; exact hM.size, fun t ht => ?_, hM.ne, ?_, ?_, fun t ht => ?_, fun t ht e => ?_⟩⟩
  · rw [Array.getElem?_setIfInBounds]
    show _ = some (Value.int .i64 (if (if t = i then (1 : Int) else P.pl t) = 0 then 0 else if t = i then y.marks else num t))
    by_cases e : i = t
    · rw [if_pos e, if_pos (by rw [hM.size]; omega), if_pos e.symm, if_pos e.symm]
      rfl
    · have e' : ¬ t = i := fun h => e h.symm
      simp only [if_neg e, if_neg e']
      exact hM.ms t ht
  · show y.count + 1 = y.picked + ((ts ++ [(i, u)]).length : Int)
    have := hM.count
    simp
    omega
  · rw [hwl]; exact hM.picked
  · show (if t = i then (1 : Int) else P.pl t) = 0 ∨ (if t = i then (1 : Int) else P.pl t) = 1 ∨ (if t = i then (1 : Int) else P.pl t) = 2
    by_cases e : t = i
    · rw [if_pos e]; exact .inr (.inl rfl)
    · rw [if_neg e]; exact hM.p012 t ht
  · show 1 ≤ (if t = i then y.marks else num t) ∧ (if t = i then y.marks else num t) ≤ y.marks
    by_cases e2 : t = i
    · rw [if_pos e2]; omega
    · rw [if_neg e2]
      refine hM.num t ht (fun h0 => e ?_)
      show (if t = i then (1 : Int) else P.pl t) = 0
      rw [if_neg e2]; exact h0
/-- a part was gathered, others are wanted -/
theorem SJ.more {w0 w w' w'' : World} {b sb hb : Nat} {P : Ps} {q : Nat × PtT} {ts : List (Nat × PtT)} {num : Nat → Int} {T : Nat} {sum : Int} {y : Sy} (h : SJ w0 w b sb hb P (q :: ts) num T sum y) (s : QS w b P w' (P.gath q.1 q.2) (lets ts)) {w1 : World} (hb1 : Below w'.heap.size w' w1) (g : SyQ w1 sb y.pick w'') : SJ w0 w'' b sb hb (P.gath q.1 q.2) ts num T sum y.pick := by
  have hu : ¬ P.under = 0 := fun e => by have := (h.r.un e).1; cases this
  obtain ⟨M, hM⟩ := h.on hu
  have hr := (h.r.gath s).1 rfl
  have hm := (((h.keptP s).2 M hM.box).below hb1)
  have hw := h.r.wants1
  refine ⟨(hr.below hb1).put (g.but.wide fun k hk => .inl hk), g.box, h.t, h.s, h.id, h.nx, h.mks, fun _ => ⟨M, hM.h, hm.kept (g.but.block _ hm.lt hM.ne), hM.size, fun t ht => ?_, hM.ne, ?_, ?_, fun t ht => ?_, fun t ht e => ?_⟩⟩
  · show _ = some (Value.int .i64 (if (if t = q.1 then (2 : Int) else P.pl t) = 0 then 0 else num t))
    have h1 := (h.r.one q (List.mem_cons_self ..)).2
    by_cases e : t = q.1
    · have h2 := hM.ms t ht
      rw [e, h1] at h2
      rw [if_pos e, if_neg (by omega), e, h2, if_neg (by omega)]
    · rw [if_neg e]; exact hM.ms t ht
  · show y.count = y.picked + 1 + (ts.length : Int)
    have := hM.count
    simp at this
    omega
  · show y.picked + 1 + ((P.gath q.1 q.2).wants.length : Int) = (T : Int)
    have := hM.picked
    omega
  · show (if t = q.1 then (2 : Int) else P.pl t) = 0 ∨ (if t = q.1 then (2 : Int) else P.pl t) = 1 ∨ (if t = q.1 then (2 : Int) else P.pl t) = 2
    by_cases e : t = q.1
    · rw [if_pos e]; exact .inr (.inr rfl)
    · rw [if_neg e]; exact hM.p012 t ht
  · refine hM.num t ht (fun h0 => e ?_)
    show (if t = q.1 then (2 : Int) else P.pl t) = 0
    by_cases e2 : t = q.1
    · have h1 := (h.r.one q (List.mem_cons_self ..)).2
      rw [e2, h1] at h0; cases h0
    · rw [if_neg e2]; exact h0
/-- no snapshot is under way any more -/
theorem SJ.over {w0 w w' w'' : World} {b sb hb : Nat} {P P1 : Ps} {ts : List (Nat × PtT)} {num : Nat → Int} {T : Nat} {sum x : Int} {y y' : Sy} (h : SJ w0 w b sb hb P ts num T sum y) (s : QS w b P w' (P1.fin x) []) (hs : P1.sts = P.sts) (ht : P1.tasks = P.tasks) (hf : P1.first = P.first) (hsm : P1.sum = P.sum) (hx : x ≠ 1) (hn : 0 < P.sts.n) {w1 : World} (hb1 : Below w'.heap.size w' w1) (g : SyQ w1 sb y' w'') (e0 : y'.id = 0) (e1 : y'.next = y.next) (e2 : y'.marks = y.marks) : SJ w0 w'' b sb hb (P1.fin x) [] num T sum y' := by
  have hr := h.r.fin s hs num
  have hu : (P1.fin x).under = 0 := Ps.fin_under hx (by rw [hs]; exact hn)
  refine ⟨(hr.below hb1).put (g.but.wide fun k hk => .inl hk), g.box, ?_, ?_, by rw [e0, hu], ?_, by rw [e2]; exact h.mks, fun e => absurd hu e⟩
  · show P1.tasks = _; rw [ht]; exact h.t
  · show P1.sum = _; rw [hsm]; exact h.s
  · rw [e1, h.nx]
    show P.first + (P.sts.n : Int) = P1.first + (P1.sts.n : Int)
    rw [hs, hf]
/-- a snapshot is begun -/
theorem SJ.trig {w0 w w' w'' : World} {b sb hb : Nat} {P : Ps} {ts : List (Nat × PtT)} {num : Nat → Int} {T : Nat} {sum : Int} {y : Sy} {p : Option Addr} {c : Nat} (h : SJ w0 w b sb hb P ts num T sum y) (s : QSet w b P w' (P.push p c 1)) (hu : P.under = 0) (g : SyQ w' sb (y.trig w'.heap.size T) w'') {M : Array Value} (hM : Box w'' w'.heap.size M 3) (hs : M.size = T) (hv : ∀ t, t < T → M[t]? = some (.int .i64 0)) : SJ w0 w'' b sb w'.heap.size (P.push p c 1) [] num T sum (y.trig w'.heap.size T) := by
  obtain ⟨_, h0, hr⟩ := h.r.trig s hu num
  have h12 := h.T12
  have hr2 := hr.put (g.but.wide fun k hk => .inl hk)
  have hpl : ∀ t, t < 12 → (P.push p c 1).pl t = 0 := h0
  have hun : (P.push p c 1).under = P.next := by
    unfold Ps.under
    have e1 : (P.push p c 1).next - 1 = (P.push p c 1).first + (P.sts.n : Int) := by show P.first + ((P.sts.n + 1 : Nat) : Int) - 1 = P.first + (P.sts.n : Int); omega
    rw [e1, if_pos]
    · rfl
    · rw [(P.push p c 1).stat_at (k := P.sts.n) (by show P.sts.n < P.sts.n + 1; omega)]
      show (if P.sts.n < P.sts.n then _ else (1 : Int)) = 1
      rw [if_neg (by omega)]
  have hsb := h.r.dl sb (.inl rfl)
  have hw0 := hr.bel.size
  have hsl : sb < w'.heap.size := Nat.lt_of_lt_of_le h.box.lt s.but.size
  refine ⟨hr2.more hpl (fun k hk => ?_) rfl num, g.box, h.t, h.s, ?_, ?_, h.mks, fun _ => ⟨M, ⟨rfl, rfl, rfl⟩, hM, hs, fun t ht => ?_, by omega, ?_, ?_, fun t ht => .inl (h0 t (by omega)), fun t ht e => absurd (h0 t (by omega)) e⟩⟩
  · rcases hk with rfl | rfl
    · exact hr2.dl k (.inl rfl)
    · refine ⟨hw0, hM.lt, fun e => ?_, fun e => ?_⟩
      · have := hr.i.lt e; omega
      · have := hr.inb.lt; omega
  · rw [hun]; exact h.nx
  · show y.next + 1 = P.first + ((P.sts.n + 1 : Nat) : Int)
    rw [h.nx]
    show P.first + (P.sts.n : Int) + 1 = P.first + ((P.sts.n + 1 : Nat) : Int)
    omega
  · rw [hv t ht, if_pos (hpl t (by omega))]
  · rfl
  · show (0 : Int) + (((P.push p c 1).wantsU P.tasks.toNat).length : Int) = (T : Int)
    rw [Ps.wantsU_all, h.t]
    · omega
    · intro j hj
      rw [h.t] at hj
      have : (P.push p c 1).pl j = 0 := h0 j (by omega)
      rw [this]; omega
theorem SJ.idle {w0 w w' : World} {b sb hb : Nat} {P : Ps} {ts : List (Nat × PtT)} {num : Nat → Int} {T : Nat} {sum : Int} {y : Sy} (h : SJ w0 w b sb hb P ts num T sum y) (hu : P.under = 0) (g : SyQ w sb { y with id := 0 } w') : SJ w0 w' b sb hb P ts num T sum { y with id := 0 } :=
  ⟨h.r.put (g.but.wide fun _ hk => .inl hk), g.box, h.t, h.s, hu.symm, h.nx, h.mks, fun e => absurd hu e⟩
def StpR (w0 : World) (b sb T : Nat) (sum : Int) (y : Sy) (e : Ending) (w' : World) : Prop := ∃ hb' P' ts' num' y', e = .returned (.bool true) ∧ SJ w0 w' b sb hb' P' ts' num' T sum y' ∧ y'.marks ≤ y.marks + 1
end Go.Proofs.Ytldkepokcbjlpaa
