import Derived.Test.YtldkepokcbjlpaaPqE
namespace Go.Proofs.Ytldkepokcbjlpaa
open Go.RowKit Go.Conc
set_option maxRecDepth 8000
theorem But.wide {X Y : Nat → Prop} {w w' : World} (h : But X w w') (hx : ∀ k, X k → Y k) : But Y w w' := ⟨h.os, h.tape, h.output, h.size, fun k hl hn => h.block k hl (fun e => hn (hx k e))⟩
theorem RJ.stay {w0 w w' : World} {b : Nat} {P : Ps} {ts : List (Nat × PtT)} {num : Nat → Int} {D : Nat → Prop} (h : RJ w0 w b P ts num D) (s : QS w b P w' P (lets ts)) : RJ w0 w' b P ts num D := by
  obtain ⟨m0, m1, m2, m3⟩ := h.mem s
  exact ⟨s.inv, s.inb, h.nd, h.one, h.un, h.la, h.pw, m0, m1, m2, m3, fun q hq => ⟨(h.pts q hq).1, (h.pts q hq).2.qs s⟩, fun t ht e => ⟨(h.got t ht e).1, (h.got t ht e).2.qs s⟩⟩
theorem Ps.under_pos {w : World} {b : Nat} {P : Ps} (h : PsI w b P) (hu : ¬ P.under = 0) : 0 < P.under := by
  obtain ⟨h1, h2, _⟩ := Ps.under_n hu
  have := h.f0
  unfold Ps.next at h2
  omega
theorem Ps.fin_under {P : Ps} {x : Int} (hx : x ≠ 1) (hn : 0 < P.sts.n) : (P.fin x).under = 0 := by
  unfold Ps.under
  rw [if_neg]
  have e : (P.fin x).next - 1 = (P.fin x).first + ((P.sts.n - 1 : Nat) : Int) := by show P.first + (P.sts.n : Int) - 1 = P.first + ((P.sts.n - 1 : Nat) : Int); omega
  rw [e, (P.fin x).stat_at (k := P.sts.n - 1) (by show P.sts.n - 1 < P.sts.n; omega)]
  show ¬ (if P.sts.n - 1 = P.sts.n - 1 then x else _) = 1
  rw [if_pos rfl]
  exact hx
/-- what the story knows of the snapshot under way -/
structure On (w : World) (sb hb : Nat) (P : Ps) (ts : List (Nat × PtT)) (num : Nat → Int) (T : Nat) (y : Sy) (M : Array Value) : Prop where
  h : y.hp = some ⟨hb, 0, none⟩ ∧ y.hn = T ∧ y.hc = T
  box : Box w hb M 3
  size : M.size = T
  ms : ∀ t, t < T → M[t]? = some (.int .i64 (if P.pl t = 0 then 0 else num t))
  ne : hb ≠ sb
  count : y.count = y.picked + (ts.length : Int)
  picked : y.picked + (P.wants.length : Int) = (T : Int)
  p012 : ∀ t, t < T → P.pl t = 0 ∨ P.pl t = 1 ∨ P.pl t = 2
  num : ∀ t, t < T → P.pl t ≠ 0 → 1 ≤ num t ∧ num t ≤ y.marks
structure SJ (w0 w : World) (b sb hb : Nat) (P : Ps) (ts : List (Nat × PtT)) (num : Nat → Int) (T : Nat) (sum : Int) (y : Sy) : Prop where
  r : RJ w0 w b P ts num (fun k => k = sb ∨ k = hb)
  box : Box w sb y.arr 60
  t : P.tasks = (T : Int)
  s : P.sum = sum
  id : y.id = P.under
  nx : y.next = P.next
  mks : 0 ≤ y.marks
  on : ¬ P.under = 0 → ∃ M, On w sb hb P ts num T y M
theorem On.kept {w w' : World} {sb hb : Nat} {P : Ps} {ts : List (Nat × PtT)} {num : Nat → Int} {T : Nat} {y : Sy} {M : Array Value} (h : On w sb hb P ts num T y M) (hb' : w'.heap[hb]? = w.heap[hb]?) : On w' sb hb P ts num T y M :=
  ⟨h.h, h.box.kept hb', h.size, h.ms, h.ne, h.count, h.picked, h.p012, h.num⟩
theorem SJ.below {w0 w w' : World} {b sb hb : Nat} {P : Ps} {ts : List (Nat × PtT)} {num : Nat → Int} {T : Nat} {sum : Int} {y : Sy} (h : SJ w0 w b sb hb P ts num T sum y) (g : Below w.heap.size w w') : SJ w0 w' b sb hb P ts num T sum y :=
  ⟨h.r.below g, h.box.below g, h.t, h.s, h.id, h.nx, h.mks, fun e => by
    obtain ⟨M, hM⟩ := h.on e
    exact ⟨M, hM.kept (g.block _ hM.box.lt)⟩⟩
theorem SJ.T12 {w0 w : World} {b sb hb : Nat} {P : Ps} {ts : List (Nat × PtT)} {num : Nat → Int} {T : Nat} {sum : Int} {y : Sy} (h : SJ w0 w b sb hb P ts num T sum y) : 1 ≤ T ∧ T ≤ 12 := by
  have := h.r.i.t0
  have := h.r.i.t1
  have := h.t
  omega
theorem SJ.keptP {w0 w w' : World} {b sb hb : Nat} {P P' : Ps} {L' : List Value} {ts : List (Nat × PtT)} {num : Nat → Int} {T : Nat} {sum : Int} {y : Sy} (h : SJ w0 w b sb hb P ts num T sum y) (s : QS w b P w' P' L') : Box w' sb y.arr 60 ∧ ∀ M, Box w hb M 3 → Box w' hb M 3 :=
  ⟨h.box.kept (s.but.block _ h.box.lt (h.r.dnot (.inl rfl))), fun _ hM => hM.kept (s.but.block _ hM.lt (h.r.dnot (.inr rfl)))⟩
theorem SJ.stay {w0 w w' : World} {b sb hb : Nat} {P : Ps} {ts : List (Nat × PtT)} {num : Nat → Int} {T : Nat} {sum : Int} {y : Sy} (h : SJ w0 w b sb hb P ts num T sum y) (s : QS w b P w' P (lets ts)) : SJ w0 w' b sb hb P ts num T sum y :=
  ⟨h.r.stay s, (h.keptP s).1, h.t, h.s, h.id, h.nx, h.mks, fun e => by
    obtain ⟨M, hM⟩ := h.on e
    exact ⟨M, hM.h, (h.keptP s).2 M hM.box, hM.size, hM.ms, hM.ne, hM.count, hM.picked, hM.p012, hM.num⟩⟩
/-- another hand is counted -/
theorem SJ.mark {w0 w : World} {b sb hb : Nat} {P : Ps} {ts : List (Nat × PtT)} {num : Nat → Int} {T : Nat} {sum : Int} {y : Sy} (h : SJ w0 w b sb hb P ts num T sum y) : SJ w0 (w.setCell ⟨sb, 5, none⟩ (.int .i64 (y.marks + 1))) b sb hb P ts num T sum { y with marks := y.marks + 1 } := by
  have hb1 : But (fun k => k = sb) w (w.setCell ⟨sb, 5, none⟩ (.int .i64 (y.marks + 1))) := (But.one w sb).setAt 5 _
  refine ⟨h.r.put (hb1.wide fun k hk => .inl hk), h.box.set 5 _, h.t, h.s, h.id, h.nx, by have := h.mks; show 0 ≤ y.marks + 1; omega, fun e => ?_⟩
  obtain ⟨M, hM⟩ := h.on e
  exact ⟨M, hM.h, hM.box.kept (hb1.block _ hM.box.lt hM.ne), hM.size, hM.ms, hM.ne, hM.count, hM.picked, hM.p012, fun t ht e => by
    have := hM.num t ht e
    show 1 ≤ num t ∧ num t ≤ y.marks + 1
    omega⟩
/-- a part was taken in, and the story tells it -/
theorem SJ.handed {w0 w w' w'' : World} {b sb hb i : Nat} {P : Ps} {ts : List (Nat × PtT)} {u : PtT} {num : Nat → Int} {T : Nat} {sum : Int} {y : Sy} (h : SJ w0 w b sb hb P ts num T sum y) (hp : P.pl i = 0) (hi : i < T) (h1 : 1 ≤ y.marks) {M : Array Value} (hM : On w sb hb P ts num T y M)
    (hr : RJ w0 w' b (P.hand i) (ts ++ [(i, u)]) (fun j => if j = i then y.marks else num j) (fun k => k = sb ∨ k = hb)) (hbx : Box w' sb y.arr 60) (hbm : Box w' hb M 3)
    (e : w'' = (w'.setCell ⟨hb, i, none⟩ (.int .i64 y.marks)).setCell ⟨sb, 2, none⟩ (.int .i64 (y.count + 1))) : SJ w0 w'' b sb hb (P.hand i) (ts ++ [(i, u)]) (fun j => if j = i then y.marks else num j) T sum { y with count := y.count + 1 } := by
  have hb1 : But (fun k => k = hb) w' (w'.setCell ⟨hb, i, none⟩ (.int .i64 y.marks)) := (But.one w' hb).setAt i _
  have hb2 : But (fun k => k = sb) (w'.setCell ⟨hb, i, none⟩ (.int .i64 y.marks)) w'' := by rw [e]; exact (But.one _ sb).setAt 2 _
  have hx1 : Box (w'.setCell ⟨hb, i, none⟩ (.int .i64 y.marks)) sb y.arr 60 := hbx.kept (hb1.block _ hbx.lt (fun e => hM.ne e.symm))
  have hx2 : Box w'' sb ({ y with count := y.count + 1 } : Sy).arr 60 := by rw [e]; exact hx1.set 2 _
  have hm1 : Box (w'.setCell ⟨hb, i, none⟩ (.int .i64 y.marks)) hb (M.setIfInBounds i (.int .i64 y.marks)) 3 := hbm.set i _
  have hm2 : Box w'' hb (M.setIfInBounds i (.int .i64 y.marks)) 3 := hm1.kept (hb2.block _ hm1.lt hM.ne)
  have hwl : (P.hand i).wants = P.wants := Ps.wantsU_same _ (fun j _ => by
    show ((if j = i then (1 : Int) else P.pl j) = 2 ↔ P.pl j = 2)
    by_cases e : j = i
    · rw [if_pos e, e, hp]; omega
    · rw [if_neg e])
  refine ⟨(hr.put (hb1.wide fun k hk => .inr hk)).put (hb2.wide fun k hk => .inl hk), hx2, h.t, h.s, h.id, h.nx, h.mks, fun _ => ⟨M.setIfInBounds i (.int .i64 y.marks), hM.h, hm2, by rw [Array.size_setIfInBounds]; exact hM.size, fun t ht => ?_, hM.ne, ?_, ?_, fun t ht => ?_, fun t ht e => ?_⟩⟩
  · rw [Array.getElem?_setIfInBounds]
    show _ = some (Value.int .i64 (if (if t = i then (1 : Int) else P.pl t) = 0 then 0 else if t = i then y.marks else num t))
    by_cases e : i = t
    · rw [if_pos e, if_pos (by rw [hM.size]; omega), if_pos e.symm, if_pos e.symm]
      rfl
    · have e' : ¬ t = i := fun h => e h.symm
      simp only [if_neg e, if_neg e']
      exact hM.ms t ht
  · show y.count + 1 = y.picked + ((ts ++ [(i, u)]).length : Int)
    have := hM.count
    simp
    omega
  · rw [hwl]; exact hM.picked
  · show (if t = i then (1 : Int) else P.pl t) = 0 ∨ (if t = i then (1 : Int) else P.pl t) = 1 ∨ (if t = i then (1 : Int) else P.pl t) = 2
    by_cases e : t = i
    · rw [if_pos e]; exact .inr (.inl rfl)
    · rw [if_neg e]; exact hM.p012 t ht
  · show 1 ≤ (if t = i then y.marks else num t) ∧ (if t = i then y.marks else num t) ≤ y.marks
    by_cases e2 : t = i
    · rw [if_pos e2]; omega
    · rw [if_neg e2]
      refine hM.num t ht (fun h0 => e ?_)
      show (if t = i then (1 : Int) else P.pl t) = 0
      rw [if_neg e2]; exact h0
/-- a part was gathered, others are wanted -/
theorem SJ.more {w0 w w' w'' : World} {b sb hb : Nat} {P : Ps} {q : Nat × PtT} {ts : List (Nat × PtT)} {num : Nat → Int} {T : Nat} {sum : Int} {y : Sy} (h : SJ w0 w b sb hb P (q :: ts) num T sum y) (s : QS w b P w' (P.gath q.1 q.2) (lets ts)) {w1 : World} (hb1 : Below w'.heap.size w' w1) (g : SyQ w1 sb y.pick w'') : SJ w0 w'' b sb hb (P.gath q.1 q.2) ts num T sum y.pick := by
  have hu : ¬ P.under = 0 := fun e => by have := (h.r.un e).1; cases this
  obtain ⟨M, hM⟩ := h.on hu
  have hr := (h.r.gath s).1 rfl
  have hm := (((h.keptP s).2 M hM.box).below hb1)
  have hw := h.r.wants1
  refine ⟨(hr.below hb1).put (g.but.wide fun k hk => .inl hk), g.box, h.t, h.s, h.id, h.nx, h.mks, fun _ => ⟨M, hM.h, hm.kept (g.but.block _ hm.lt hM.ne), hM.size, fun t ht => ?_, hM.ne, ?_, ?_, fun t ht => ?_, fun t ht e => ?_⟩⟩
  · show _ = some (Value.int .i64 (if (if t = q.1 then (2 : Int) else P.pl t) = 0 then 0 else num t))
    have h1 := (h.r.one q (List.mem_cons_self ..)).2
    by_cases e : t = q.1
    · have h2 := hM.ms t ht
      rw [e, h1] at h2
      rw [if_pos e, if_neg (by omega), e, h2, if_neg (by omega)]
    · rw [if_neg e]; exact hM.ms t ht
  · show y.count = y.picked + 1 + (ts.length : Int)
    have := hM.count
    simp at this
    omega
  · show y.picked + 1 + ((P.gath q.1 q.2).wants.length : Int) = (T : Int)
    have := hM.picked
    omega
  · show (if t = q.1 then (2 : Int) else P.pl t) = 0 ∨ (if t = q.1 then (2 : Int) else P.pl t) = 1 ∨ (if t = q.1 then (2 : Int) else P.pl t) = 2
    by_cases e : t = q.1
    · rw [if_pos e]; exact .inr (.inr rfl)
    · rw [if_neg e]; exact hM.p012 t ht
  · refine hM.num t ht (fun h0 => e ?_)
    show (if t = q.1 then (2 : Int) else P.pl t) = 0
    by_cases e2 : t = q.1
    · have h1 := (h.r.one q (List.mem_cons_self ..)).2
      rw [e2, h1] at h0; cases h0
    · rw [if_neg e2]; exact h0
/-- no snapshot is under way any more -/
theorem SJ.over {w0 w w' w'' : World} {b sb hb : Nat} {P P1 : Ps} {ts : List (Nat × PtT)} {num : Nat → Int} {T : Nat} {sum x : Int} {y y' : Sy} (h : SJ w0 w b sb hb P ts num T sum y) (s : QS w b P w' (P1.fin x) []) (hs : P1.sts = P.sts) (ht : P1.tasks = P.tasks) (hf : P1.first = P.first) (hsm : P1.sum = P.sum) (hx : x ≠ 1) (hn : 0 < P.sts.n) {w1 : World} (hb1 : Below w'.heap.size w' w1) (g : SyQ w1 sb y' w'') (e0 : y'.id = 0) (e1 : y'.next = y.next) (e2 : y'.marks = y.marks) : SJ w0 w'' b sb hb (P1.fin x) [] num T sum y' := by
  have hr := h.r.fin s hs num
  have hu : (P1.fin x).under = 0 := Ps.fin_under hx (by rw [hs]; exact hn)
  refine ⟨(hr.below hb1).put (g.but.wide fun k hk => .inl hk), g.box, ?_, ?_, by rw [e0, hu], ?_, by rw [e2]; exact h.mks, fun e => absurd hu e⟩
  · show P1.tasks = _; rw [ht]; exact h.t
  · show P1.sum = _; rw [hsm]; exact h.s
  · rw [e1, h.nx]
    show P.first + (P.sts.n : Int) = P1.first + (P1.sts.n : Int)
    rw [hs, hf]
/-- a snapshot is begun -/
theorem SJ.trig {w0 w w' w'' : World} {b sb hb : Nat} {P : Ps} {ts : List (Nat × PtT)} {num : Nat → Int} {T : Nat} {sum : Int} {y : Sy} {p : Option Addr} {c : Nat} (h : SJ w0 w b sb hb P ts num T sum y) (s : QSet w b P w' (P.push p c 1)) (hu : P.under = 0) (g : SyQ w' sb (y.trig w'.heap.size T) w'') {M : Array Value} (hM : Box w'' w'.heap.size M 3) (hs : M.size = T) (hv : ∀ t, t < T → M[t]? = some (.int .i64 0)) : SJ w0 w'' b sb w'.heap.size (P.push p c 1) [] num T sum (y.trig w'.heap.size T) := by
  obtain ⟨_, h0, hr⟩ := h.r.trig s hu num
  have h12 := h.T12
  have hr2 := hr.put (g.but.wide fun k hk => .inl hk)
  have hpl : ∀ t, t < 12 → (P.push p c 1).pl t = 0 := h0
  have hun : (P.push p c 1).under = P.next := by
    unfold Ps.under
    have e1 : (P.push p c 1).next - 1 = (P.push p c 1).first + (P.sts.n : Int) := by show P.first + ((P.sts.n + 1 : Nat) : Int) - 1 = P.first + (P.sts.n : Int); omega
    rw [e1, if_pos]
    · rfl
    · rw [(P.push p c 1).stat_at (k := P.sts.n) (by show P.sts.n < P.sts.n + 1; omega)]
      show (if P.sts.n < P.sts.n then _ else (1 : Int)) = 1
      rw [if_neg (by omega)]
  have hsb := h.r.dl sb (.inl rfl)
  have hw0 := hr.bel.size
  have hsl : sb < w'.heap.size := Nat.lt_of_lt_of_le h.box.lt s.but.size
  refine ⟨hr2.more hpl (fun k hk => ?_) rfl num, g.box, h.t, h.s, ?_, ?_, h.mks, fun _ => ⟨M, ⟨rfl, rfl, rfl⟩, hM, hs, fun t ht => ?_, by omega, ?_, ?_, fun t ht => .inl (h0 t (by omega)), fun t ht e => absurd (h0 t (by omega)) e⟩⟩
  · rcases hk with rfl | rfl
    · exact hr2.dl k (.inl rfl)
    · refine ⟨hw0, hM.lt, fun e => ?_, fun e => ?_⟩
      · have := hr.i.lt e; omega
      · have := hr.inb.lt; omega
  · rw [hun]; exact h.nx
  · show y.next + 1 = P.first + ((P.sts.n + 1 : Nat) : Int)
    rw [h.nx]
    show P.first + (P.sts.n : Int) + 1 = P.first + ((P.sts.n + 1 : Nat) : Int)
    omega
  · rw [hv t ht, if_pos (hpl t (by omega))]
  · rfl
  · show (0 : Int) + (((P.push p c 1).wantsU P.tasks.toNat).length : Int) = (T : Int)
    rw [Ps.wantsU_all, h.t]
    · omega
    · intro j hj
      rw [h.t] at hj
      have : (P.push p c 1).pl j = 0 := h0 j (by omega)
      rw [this]; omega
theorem SJ.idle {w0 w w' : World} {b sb hb : Nat} {P : Ps} {ts : List (Nat × PtT)} {num : Nat → Int} {T : Nat} {sum : Int} {y : Sy} (h : SJ w0 w b sb hb P ts num T sum y) (hu : P.under = 0) (g : SyQ w sb { y with id := 0 } w') : SJ w0 w' b sb hb P ts num T sum { y with id := 0 } :=
  ⟨h.r.put (g.but.wide fun _ hk => .inl hk), g.box, h.t, h.s, hu.symm, h.nx, h.mks, fun e => absurd hu e⟩
def StpR (w0 : World) (b sb T : Nat) (sum : Int) (y : Sy) (e : Ending) (w' : World) : Prop := ∃ hb' P' ts' num' y', e = .returned (.bool true) ∧ SJ w0 w' b sb hb' P' ts' num' T sum y' ∧ y'.marks ≤ y.marks + 1
end Go.Proofs.Ytldkepokcbjlpaa

namespace Go.Proofs.Ytldkepokcbjlpaa
open Go.RowKit Go.Conc
set_option maxRecDepth 8000
set_option maxHeartbeats 4000000 in
theorem rv5 (t : VT) : ∀ (w : World) (S : Nat → Prop), VT.In w S t → t.total ≤ 10000 →
    Calls Try.prog 75 #[t.val] w fun e w' => ∃ u, e = .returned u.val ∧ VT.Alike t u ∧ VT.In w' (fun b => w.heap.size ≤ b) u ∧ Below w.heap.size w w' := by
  induction t with
  | nil => intro w S hin; exact hin.elim
  | mk k i s n p c f ih =>
    intro w S hin ht
    have hfit := hin.fit
    have hnn := hfit.nn
    simp only [VT.n] at hnn
    have hn1 : n ≤ 10000 := by rw [VT.total_upto] at ht; simp only [VT.n] at ht; omega
    obtain ⟨i0, Kd⟩ := kindV
    simp only [VT.val, VT.kind_mk, VT.int_mk, VT.text_mk, VT.p_mk, VT.n_mk, VT.c_mk]
    have HI : Hid (VT.In w S (.mk k i s n p c f)) := hin
    have HF := hfit
    have HTot : Hid (∀ j, j < n → (f j).total ≤ 10000) := fun j hj => Nat.le_trans (VT.item_total (.mk k i s n p c f) hj) ht
    clear hin hfit ht
    go_enter Try.func75, Try.ntmps75
    go_wp2_with fail
    have hS1 : Box (w.alloc (.cells #[.int .i64 k, .int .i64 i, .string s, .slice p n c] 97)) w.heap.size #[.int .i64 k, .int .i64 i, .string s, .slice p n c] 97 := Box.new _ _ _
    have hS2 := hS1.below ((Below.refl _ _).alloc (Nat.le_refl _) (.cells #[.int .i64 0, .int .i64 0, .string ⟨#[]⟩, .slice none 0 0] 97))
    have hS3 : Box ((w.alloc (.cells #[.int .i64 k, .int .i64 i, .string s, .slice p n c] 97)).alloc (.cells #[.int .i64 0, .int .i64 0, .string ⟨#[]⟩, .slice none 0 0] 97)) (w.heap.size + 1) #[.int .i64 0, .int .i64 0, .string ⟨#[]⟩, .slice none 0 0] 97 := by
      have := Box.new (w.alloc (.cells #[.int .i64 k, .int .i64 i, .string s, .slice p n c] 97)) #[.int .i64 0, .int .i64 0, .string ⟨#[]⟩, .slice none 0 0] 97
      simpa using this
    have hS4 : Below w.heap.size w ((w.alloc (.cells #[.int .i64 k, .int .i64 i, .string s, .slice p n c] 97)).alloc (.cells #[.int .i64 0, .int .i64 0, .string ⟨#[]⟩, .slice none 0 0] 97)) := ((Below.refl _ _).alloc (Nat.le_refl _) _).alloc (by simp) _
    go_loopw [3, 4] (fun v x wr => ∃ (j : Nat) (g : Nat → VT), j ≤ n ∧ x = .int .i64 j ∧ OwnV (w.heap.size + 2) wr v j g ∧ (∀ q, q < j → VT.Alike (f q) (g q)) ∧ Box wr w.heap.size #[.int .i64 k, .int .i64 i, .string s, .slice p n c] 97 ∧
        Box wr (w.heap.size + 1) #[.int .i64 0, .int .i64 0, .string ⟨#[]⟩, .slice none 0 0] 97 ∧ Below w.heap.size w wr) (fun _ x _ => n - (intOf x).toNat)
    case atStart => exact ⟨0, f, Nat.zero_le _, rfl, OwnV.nil _ _ _, fun q hq => absurd hq (by omega), hS2, hS3, hS4⟩
    case round =>
      obtain ⟨j, g, hj, rfl, hO, hal, hB0, hB1, hbel⟩ := hrel
      clear hS1 hS2 hS3 hS4
      have b0 := hB0.cell 0
      have b1 := hB0.cell 1
      have b2 := hB0.cell 2
      have b3 := hB0.cell 3
      simp at b0 b1 b2 b3
      have hlt1 := hB1.lt
      by_cases hlt : j < n
      · have hlt' : (j : Int) < (n : Int) := by omega
        obtain ⟨bb, o, hp, hSb, hbl, hat⟩ := HI.out.at_ (show 0 < (VT.mk k i s n p c f).n from by simp only [VT.n]; omega)
        simp only [VT.p] at hp
        subst hp
        have hA := (hat j hlt).kept (hbel.block bb hbl)
        obtain ⟨c0, c1, c2, c3⟩ := hA
        simp only [VT.item] at c0 c1 c2 c3
        have HC : Hid (Calls Try.prog 75 #[(f j).val] wr fun e w' => ∃ u, e = .returned u.val ∧ VT.Alike (f j) u ∧ VT.In w' (fun b => wr.heap.size ≤ b) u ∧ Below wr.heap.size wr w') :=
          ih j wr (fun b => S b ∧ b < w.heap.size) (((HI.out.sub hlt).mono fun b hb hl => ⟨hb, hl⟩).kept hbel.size (fun b hb _ => hbel.block b hb.2)) (HTot.out j hlt)
        unfold VT.val at HC
        have HAl : Hid (∀ q, q < j → VT.Alike (f q) (g q)) := hal
        clear hat hal
        go_wp2_with fail
        refine HC.out.mono ?_
        rintro e w2_ ⟨u, rfl, hal2, hin2_, hb2_⟩
        obtain ⟨k', i', s', n', p', c', f', rfl⟩ := hin2_.mk_
        simp only [VT.kind_mk, VT.int_mk, VT.text_mk, VT.p_mk, VT.n_mk, VT.c_mk]
        obtain ⟨w2, hw2⟩ : ∃ V, V = w2_.alloc (.cells #[.int .i64 k', .int .i64 i', .string s', .slice p' n' c'] 97) := ⟨_, rfl⟩
        have hbx : Below w2_.heap.size w2_ w2 := by rw [hw2]; exact (Below.refl _ _).alloc (Nat.le_refl _) _
        have hxb : Box w2 w2_.heap.size #[.int .i64 k', .int .i64 i', .string s', .slice p' n' c'] 97 := by rw [hw2]; exact Box.new _ _ _
        have hb2 : Below wr.heap.size wr w2 := hb2_.trans (hbx.mono hb2_.size)
        have hin2 := hin2_.below hbx
        have q0 := hxb.cell 0
        have q1 := hxb.cell 1
        have q2 := hxb.cell 2
        have q3 := hxb.cell 3
        have ql := hxb.lt
        simp at q0 q1 q2 q3
        have HW2 := hid hw2
        clear hw2 hbx hxb hb2_ hin2_
        have hO2 := hO.below hb2
        have hB02 := hB0.below hb2
        have hB12 := hB1.below hb2
        have hbel2 := hbel.trans (hb2.mono hbel.size)
        have hsz2 := hb2.size
        have hu2 : VT.In w2 (fun b => w.heap.size + 2 ≤ b ∧ u3.ownBlock ≠ some b) (.mk k' i' s' n' p' c' f') := by
          refine hin2.mono fun b hb hl => ⟨by omega, fun e => ?_⟩
          have := (hO.own.lt b e).2
          omega
        have HX : Hid (OwnV (w.heap.size + 2) w2 u3 j g ∧ VT.In w2 (fun b => w.heap.size + 2 ≤ b ∧ u3.ownBlock ≠ some b) (.mk k' i' s' n' p' c' f') ∧ VT.Alike (f j) (.mk k' i' s' n' p' c' f')) := ⟨hO2, hu2, hal2⟩
        have hR := hO2.own
        have hsz1 : w.heap.size + 2 ≤ w2.heap.size := by omega
        have HBe : Hid (Below w.heap.size w w2) := hbel2
        clear hO hin2 hO2 hu2 hal2 hbel hb2 hB0 hB1 b0 b1 b2 b3 c0 c1 c2 c3 HC hbel2
        go_upto_region 6 with fail
        rw [← HW2.out]
        go_wp2_with (at_builtin; refine wpList_app rfl (.tmp 19) (.tmp 21) 95 97 i0 _ 4 56 Kd rfl (w.heap.size + 2) u3 j _ rfl (hR.alloc _) ⟨w2.heap.size, 0, none⟩ 1 1 [.int .i64 k', .int .i64 i', .string s', .slice p' n' c'] rfl rfl (news4 _ _ _ _ _ _) ?_ ?_ ?_ ?_ ?_)
        · exact oneCell_cells (.mk k' i' s' n' p' c' f')
        · omega
        · omega
        · simp; omega
        · intro v3 w3 ho3 hg3 hn3
          obtain ⟨hO2, hu2, hal2⟩ := HX.out
          have ha : Below w2.heap.size w2 (w2.alloc (.cells #[.int .i64 k', .int .i64 i', .string s', .slice p' n' c'] 97)) := (Below.refl _ _).alloc (Nat.le_refl _) _
          have hO3 := (hO2.below ha).push (hu2.below ha) ho3 hg3 hn3
          have hne : ∀ x, x < w.heap.size + 2 → (w2.alloc (.cells #[.int .i64 k', .int .i64 i', .string s', .slice p' n' c'] 97)).heap[x]? = w3.heap[x]? := fun x hx => (hg3.block x (by simp; omega) (fun e => by have := (hO2.own.lt x e.symm).1; omega)).symm
          have hB03 : Box w3 w.heap.size _ _ := (hB02.below ha).kept (hne _ (by omega)).symm
          have hB13 : Box w3 (w.heap.size + 1) _ _ := (hB12.below ha).kept (hne _ (by omega)).symm
          have hbel3 : Below w.heap.size w w3 := (HBe.out.trans (ha.mono (by omega))).grown hg3 (by simp; omega) (fun k hk => by have := (hO2.own.lt k hk).1; omega)
          have HX3 : Hid (OwnV (w.heap.size + 2) w3 v3 (j + 1) (fun q => if q < j then g q else .mk k' i' s' n' p' c' f')) := hO3
          have HA3 : Hid (∀ q, q < j + 1 → VT.Alike (f q) (if q < j then g q else .mk k' i' s' n' p' c' f')) := by
            intro q hq
            by_cases hqj : q < j
            · rw [if_pos hqj]; exact HAl.out q hqj
            · rw [if_neg hqj]
              obtain rfl : q = j := by omega
              exact hal2
          clear hO3 ho3 hg3 hn3 hne ha hO2 hu2 hal2 hR HX
          go_wp2
          go_roundw
          case rel => exact ⟨j + 1, _, by omega, by go_num, HX3.out, HA3.out, hB03, hB13, hbel3⟩
          case measure => simp [intOf]; omega
      · obtain rfl : j = n := by omega
        obtain ⟨p3, c3, hv, h1, h2, h3, h4, h5⟩ := hO.in_
        have HL : Hid (VT.Alike (.mk k i s j p c f) (.mk k i s j p3 c3 g) ∧ VT.In wr (fun b => w.heap.size + 2 ≤ b) (.mk k i s j p3 c3 g)) :=
          ⟨⟨rfl, rfl, rfl, rfl, hal⟩, ⟨⟨HF.k0, HF.k1, HF.i0, HF.i1, HF.s1, h1, HF.nn, h2, h3⟩, h4, h5⟩⟩
        have f3 := hB0.frozen 3
        have g0 := hB1.frozen 0
        have g1 := hB1.frozen 1
        have g2 := hB1.frozen 2
        have g3 := hB1.frozen 3
        have d0 := hB1.cell 0
        have d1 := hB1.cell 1
        have d2 := hB1.cell 2
        have d3 := hB1.cell 3
        simp at d0 d1 d2 d3
        subst hv
        clear h4 h5 hO HI hal ih
        go_wp2
        have hk : But (fun x => x = w.heap.size ∨ x = w.heap.size + 1) wr (((((wr.setCell ⟨w.heap.size, 3, none⟩ (.slice p3 j c3)).setCell ⟨w.heap.size + 1, 0, none⟩ (.int .i64 k)).setCell ⟨w.heap.size + 1, 1, none⟩ (.int .i64 i)).setCell ⟨w.heap.size + 1, 2, none⟩ (.string s)).setCell ⟨w.heap.size + 1, 3, none⟩ (.slice p3 j c3)) :=
          (((((But.refl _ wr).setCell (fun _ => Or.inl rfl) _).setCell (fun _ => Or.inr rfl) _).setCell (fun _ => Or.inr rfl) _).setCell (fun _ => Or.inr rfl) _).setCell (fun _ => Or.inr rfl) _
        refine bodyPost_ret (v := .agg #[.int .i64 k, .int .i64 i, .string s, .slice p3 j c3]) (by simp [results, Try.results75, go_sem, d0, d1, d2, d3]) rfl ⟨.mk k i s j p3 c3 g, rfl, HL.out.1, ?_, ?_⟩
        · exact (HL.out.2.but hk (fun b hb _ => by omega)).mono fun b hb _ => by omega
        · exact hbel.trans (hk.below (by omega) (fun x hx => by omega))
set_option maxHeartbeats 4000000 in
theorem rvs8 (l : LT VT) (w : World) (S : Nat → Prop) (hin : LT.In elVal w S l) (hn1 : l.n ≤ 10000) (hs : ∀ j, j < l.n → (l.item j).total ≤ 10000) :
    Calls Try.prog 70 #[.slice l.p l.n l.c] w fun e w' => ∃ u : LT VT, e = .returned (.slice u.p u.n u.c) ∧ LAlk VT.Alike l u ∧ LT.In elVal w' (fun b => w.heap.size ≤ b) u ∧ Below w.heap.size w w' := by
  obtain ⟨i0, Kd⟩ := kindV
  have HKd := hid Kd
  have HI := hid hin
  have HS := hid hs
  clear hin hs Kd
  go_enter Try.func70, Try.ntmps70
  go_wp2_with fail
  go_loopw [3, 4] (fun v x wr => ∃ (k : Nat) (g : Nat → VT), k ≤ l.n ∧ x = .int .i64 (k : Int) ∧ OwnL elVal w.heap.size wr v k g ∧ (∀ q, q < k → VT.Alike (l.item q) (g q)) ∧ Below w.heap.size w wr) (fun _ x _ => l.n - (intOf x).toNat)
  case atStart => exact ⟨0, l.item, Nat.zero_le _, rfl, ⟨World.ownsRow_nil _ _ _ _, fun j hj => absurd hj (by omega)⟩, fun q hq => absurd hq (by omega), Below.refl _ _⟩
  case round =>
    obtain ⟨k, g, hk, rfl, hO, hal, hbel⟩ := hrel
    have HO := hid hO
    have HA := hid hal
    have HB := hid hbel
    clear hO hal hbel
    by_cases hlt : k < l.n
    · have hlt' : (k : Int) < (l.n : Int) := by omega
      obtain ⟨bb, o, hp, hSb, hbb, hat⟩ := HI.out.at_ (by omega)
      rw [hp]
      have hcell : ∀ r u, (elVal.cells (l.item k))[r]? = some u → wr.cell? ⟨bb, o + k * 4 + r, none⟩ = some u := fun r u hu => (World.cell?_of_block (a := ⟨bb, o + k * 4 + r, none⟩) (HB.out.block bb hbb)).trans (hat k hlt r u hu)
      have c0 : wr.cell? ⟨bb, o + k * 4, none⟩ = some (.int .i64 (l.item k).kind) := hcell 0 _ rfl
      have c1 : wr.cell? ⟨bb, o + k * 4 + 1, none⟩ = some (.int .i64 (l.item k).int) := hcell 1 _ rfl
      have c2 : wr.cell? ⟨bb, o + k * 4 + 2, none⟩ = some (.string (l.item k).text) := hcell 2 _ rfl
      have c3 : wr.cell? ⟨bb, o + k * 4 + 3, none⟩ = some (.slice (l.item k).p (l.item k).n (l.item k).c) := hcell 3 _ rfl
      have HC := hid (rv5 (l.item k) wr (fun b => S b ∧ b < w.heap.size) ((VT.In.mono (HI.out.each k hlt) fun b hb hl => ⟨hb, hl⟩).kept HB.out.size (fun b hb _ => HB.out.block b hb.2)) (HS.out k hlt))
      unfold VT.val at HC
      clear hcell hat
      go_wp2_with fail
      refine HC.out.mono ?_
      rintro e w2_ ⟨u, rfl, hal2, hin2_, hb2_⟩
      obtain ⟨w2, hw2⟩ : ∃ V, V = w2_.alloc (.cells #[.int .i64 u.kind, .int .i64 u.int, .string u.text, .slice u.p u.n u.c] 97) := ⟨_, rfl⟩
      have hbx : Below w2_.heap.size w2_ w2 := by rw [hw2]; exact (Below.refl _ _).alloc (Nat.le_refl _) _
      have hxb : Box w2 w2_.heap.size #[.int .i64 u.kind, .int .i64 u.int, .string u.text, .slice u.p u.n u.c] 97 := by rw [hw2]; exact Box.new _ _ _
      have hb2 : Below wr.heap.size wr w2 := hb2_.trans (hbx.mono hb2_.size)
      have hin2 := hin2_.below hbx
      have q0 := hxb.cell 0
      have q1 := hxb.cell 1
      have q2 := hxb.cell 2
      have q3 := hxb.cell 3
      have ql := hxb.lt
      simp at q0 q1 q2 q3
      have HW2 := hid hw2
      clear hw2 hbx hxb hb2_ hin2_
      have hO2 := HO.out.keep hb2.size (fun k _ hl => hb2.block k hl)
      have hu2 : VT.In w2 (fun b => w.heap.size ≤ b ∧ u3.ownBlock ≠ some b) u := hin2.mono fun b hb _ => ⟨Nat.le_trans HB.out.size hb, fun e => by have := (HO.out.own.lt b e).2; omega⟩
      have hsz : w.heap.size ≤ w2.heap.size := Nat.le_trans HB.out.size hb2.size
      have H2 := hid (And.intro hO2 (And.intro hu2 (And.intro hal2 (HB.out.trans (hb2.mono HB.out.size)))))
      have ha : Below w2.heap.size w2 (w2.alloc (.cells #[.int .i64 u.kind, .int .i64 u.int, .string u.text, .slice u.p u.n u.c] 97)) := (Below.refl _ _).alloc (Nat.le_refl _) _
      have HAl := hid ha
      have HNw : Hid (∀ j u', (elVal.cells u)[j]? = some u' → (w2.alloc (.cells #[.int .i64 u.kind, .int .i64 u.int, .string u.text, .slice u.p u.n u.c] 97)).cell? ((⟨w2.heap.size, 0, none⟩ : Addr).add j) = some u') := fun j u' hu => by
        rw [Go.WideShapes.add_plain, (Box.new w2 #[.int .i64 u.kind, .int .i64 u.int, .string u.text, .slice u.p u.n u.c] 97).cell]
        rw [show 0 + j = j by omega]
        simpa [elVal, RT.cells, VT.cells] using hu
      clear hO2 hu2 hal2 hin2 hb2 ha HC c0 c1 c2 c3
      go_upto_region 6 with fail
      rw [← HW2.out]
      go_wp2_with (at_builtin; refine wpList_app rfl (.tmp 17) (.tmp 19) 95 97 i0 _ 4 56 HKd.out rfl w.heap.size u3 k _ rfl (H2.out.1.own.alloc _) ⟨w2.heap.size, 0, none⟩ 1 1 (elVal.cells u) rfl rfl HNw.out (elVal.one u) (by omega) (by omega) (by simp; omega) ?_)
      intro v3 w3 ho3 hg3 hn3
      obtain ⟨hO2, hu2, hal2, hbel2⟩ := H2.out
      have HO3 := hid ((hO2.keep HAl.out.size (fun k _ hl => HAl.out.block k hl)).push (hu2.below HAl.out) ho3 hg3 hn3)
      have HB3 : Hid (Below w.heap.size w w3) := (hbel2.trans (HAl.out.mono hsz)).grown hg3 (by simp; omega) (fun k hk => (hO2.own.lt k hk).1)
      have HA3 : Hid (∀ q, q < k + 1 → VT.Alike (l.item q) (if q < k then g q else u)) := by
        intro q hq
        by_cases hqk : q < k
        · rw [if_pos hqk]; exact HA.out q hqk
        · rw [if_neg hqk]
          obtain rfl : q = k := by omega
          exact hal2
      clear ho3 hg3 hn3 hO2 hu2 hal2 hbel2 H2 HAl HNw
      go_wp2
      go_roundw
      case rel => exact ⟨k + 1, _, by omega, by go_num, HO3.out, HA3.out, HB3.out⟩
      case measure => simp [intOf]; omega
    · obtain rfl : k = l.n := by omega
      have hlt' : ¬ (l.n : Int) < (l.n : Int) := by omega
      obtain ⟨p3, c3, hv, hL⟩ := HO.out.in_ (by omega)
      have HL := hid hL
      subst hv
      clear hL
      go_wp2
      refine bodyPost_ret (v := .slice p3 l.n c3) (by simp [results, Try.results70, go_sem]) rfl ⟨⟨p3, l.n, c3, g⟩, rfl, ⟨rfl, HA.out⟩, HL.out, HB.out⟩
theorem TwoK.grown {w0 w w' : World} {a b : Array Value} {t : TypeId} {row : Option Nat} (h : TwoK w0 w a b t) (hg : w.grownBy w' row) (hr : ∀ j, row = some j → w0.heap.size + 2 ≤ j) : TwoK w0 w' a b t :=
  ⟨h.ba.kept (hg.block _ h.ba.lt (fun e => by have := hr _ e.symm; omega)), h.bb.kept (hg.block _ h.bb.lt (fun e => by have := hr _ e.symm; omega)), h.bel.trans ⟨hg.os, hg.tape, hg.output, hg.size, fun k hk => hg.block k (Nat.lt_of_lt_of_le hk h.bel.size) (fun e => by have := hr _ e.symm; omega)⟩⟩
theorem kindRs : ∃ i, Kind 37 99 i (.agg #[.string ⟨#[]⟩, .int .i64 0, .int .i64 0, .string ⟨#[]⟩, .slice none 0 0, .slice none 0 0]) 6 96 := by
  obtain ⟨i0, hi, hz0, hz1, hz2⟩ := info_parts (show (Try.prog.info? 99).map (fun i => (i.zero, i.size, i.bytes)) = some (some (.agg #[.string ⟨#[]⟩, .int .i64 0, .int .i64 0, .string ⟨#[]⟩, .slice none 0 0, .slice none 0 0]), 6, 96) by kernel_rfl)
  exact ⟨i0, Try.underlying37, hi, hz0, hz1, hz2, rfl, by decide⟩
set_option maxHeartbeats 4000000 in
theorem rr5 (r : RT) (w : World) (S : Nat → Prop) (hin : RT.In w S r) (ht : r.size ≤ 10000) :
    Calls Try.prog 71 #[.agg #[.string r.key, .int .i64 r.v.kind, .int .i64 r.v.int, .string r.v.text, .slice r.v.p r.v.n r.v.c, .slice r.p r.n r.c]] w fun e w' => ∃ u : RT, e = .returned (.agg #[.string u.key, .int .i64 u.v.kind, .int .i64 u.v.int, .string u.v.text, .slice u.v.p u.v.n u.v.c, .slice u.p u.n u.c]) ∧ RT.Alike r u ∧ RT.In w' (fun b => w.heap.size ≤ b) u ∧ Below w.heap.size w w' := by
  obtain ⟨i0, Kd⟩ := kindIc
  unfold RT.size at ht
  have hn1 : r.n ≤ 10000 := by omega
  have HV : Hid (∀ W, Below w.heap.size w W → Calls Try.prog 75 #[.agg #[.int .i64 r.v.kind, .int .i64 r.v.int, .string r.v.text, .slice r.v.p r.v.n r.v.c]] W fun e w' => ∃ u : VT, e = .returned u.val ∧ VT.Alike r.v u ∧ VT.In w' (fun b => W.heap.size ≤ b) u ∧ Below W.heap.size W w') := fun W hW =>
    rv5 r.v W (fun b => S b ∧ b < w.heap.size) ((hin.v.mono fun b hb hl => ⟨hb, hl⟩).kept hW.size (fun b hb _ => hW.block b hb.2)) (by omega)
  unfold VT.val at HV
  have HI := hid hin.l
  have HF := hid hin.l.fit
  have HK := hid hin.k
  have HT := hid (TwoK.start w #[.string r.key, .int .i64 r.v.kind, .int .i64 r.v.int, .string r.v.text, .slice r.v.p r.v.n r.v.c, .slice r.p r.n r.c] #[.string ⟨#[]⟩, .int .i64 0, .int .i64 0, .string ⟨#[]⟩, .slice none 0 0, .slice none 0 0] 99)
  have HKd := hid Kd
  clear hin ht Kd
  go_enter Try.func71, Try.ntmps71
  go_wp2_with fail
  go_loopw [3, 4] (fun v x wr => ∃ k : Nat, k ≤ r.n ∧ x = .int .i64 (k : Int) ∧ wr.ownsRow (w.heap.size + 2) 3 1 v k ((List.range k).map fun j => .int .i64 (r.loop j)) ∧ TwoK w wr #[.string r.key, .int .i64 r.v.kind, .int .i64 r.v.int, .string r.v.text, .slice r.v.p r.v.n r.v.c, .slice r.p r.n r.c] #[.string ⟨#[]⟩, .int .i64 0, .int .i64 0, .string ⟨#[]⟩, .slice none 0 0, .slice none 0 0] 99) (fun _ x _ => r.n - (intOf x).toNat)
  case atStart => exact ⟨0, Nat.zero_le _, rfl, World.ownsRow_nil _ _ _ _, HT.out⟩
  case round =>
    obtain ⟨k, hk, rfl, hO, hT⟩ := hrel
    have HO := hid hO
    have HT1 := hid hT
    have x5 := hT.ba.cell 5
    have l0 := hT.ba.lt
    have l1 := hT.bb.lt
    simp at x5
    clear hO hT HT
    by_cases hlt : k < r.n
    · have hlt' : (k : Int) < (r.n : Int) := by omega
      obtain ⟨bb, o, hp, hSb, hbb, hat⟩ := HI.out.at_ (by omega)
      have c0 := (World.cell?_of_block (a := ⟨bb, o + k, none⟩) (HT1.out.bel.block bb hbb)).trans (hat k hlt)
      rw [hp] at x5
      clear hp
      have ha : Below wr.heap.size wr (wr.alloc (.cells #[.int .i64 (r.loop k)] 3)) := (Below.refl _ _).alloc (Nat.le_refl _) _
      have HAl := hid ha
      have HNw : Hid (∀ j u', ([.int .i64 (r.loop k)] : List Value)[j]? = some u' → (wr.alloc (.cells #[.int .i64 (r.loop k)] 3)).cell? ((⟨wr.heap.size, 0, none⟩ : Addr).add j) = some u') := fun j u' hu => by
        rw [Go.WideShapes.add_plain, (Box.new wr #[.int .i64 (r.loop k)] 3).cell]
        rw [show 0 + j = j by omega]
        simpa using hu
      have hsz := HT1.out.bel.size
      have hsz2 : w.heap.size + 2 ≤ wr.heap.size := by omega
      clear ha hat
      go_wp2_with (at_builtin; refine wpList_app rfl (.tmp 12) (.tmp 18) 32 3 i0 _ 1 8 HKd.out rfl (w.heap.size + 2) u3 k _ rfl (HO.out.alloc _) ⟨wr.heap.size, 0, none⟩ 1 1 [.int .i64 (r.loop k)] rfl rfl HNw.out (fun u hu => by simp at hu; rw [hu]; rfl) (by omega) (by omega) (by simp; omega) ?_)
      intro v3 w3 ho3 hg3 hn3
      have HO3 : Hid (w3.ownsRow (w.heap.size + 2) 3 1 v3 (k + 1) ((List.range (k + 1)).map fun j => .int .i64 (r.loop j))) := by
        unfold Hid
        rw [List.range_succ, List.map_append]
        exact ho3
      have HT3 := hid ((HT1.out.below HAl.out).grown hg3 (fun j hj => (HO.out.lt j hj).1))
      clear ho3 hg3 hn3 HNw HAl
      go_wp2
      go_roundw
      case rel => exact ⟨k + 1, by omega, by go_num, HO3.out, HT3.out⟩
      case measure => simp [intOf]; omega
    · obtain rfl : k = r.n := by omega
      have hlt' : ¬ (r.n : Int) < (r.n : Int) := by omega
      obtain ⟨p1, c1, rfl, hI1⟩ := Ints.own HO.out (by omega) HF.out
      have HI1 := hid hI1
      have hsz1 : w.heap.size + 2 ≤ wr.heap.size := by have := HT1.out.bb.lt; omega
      have x1 := HT1.out.ba.cell 1
      have x2 := HT1.out.ba.cell 2
      have x3 := HT1.out.ba.cell 3
      have x4 := HT1.out.ba.cell 4
      have x5 := HT1.out.ba.cell 5
      have f5 := HT1.out.ba.frozen 5
      simp at x1 x2 x3 x4 x5
      clear x5 hI1
      have x5 := HT1.out.ba.cell 5
      simp at x5
      go_wp2_with fail
      have HT2 := hid (HT1.out.setA 5 (.slice p1 r.n c1))
      refine (HV.out _ HT2.out.bel).mono ?_
      rintro e w2 ⟨u, rfl, hal, hin2, hb2⟩
      have HT3 := hid (HT2.out.below hb2)
      have hbt1 : But (fun x => x = w.heap.size) wr (wr.setCell ⟨w.heap.size, 5, none⟩ (.slice p1 r.n c1)) := (But.one wr _).setAt 5 _
      have HU := hid (And.intro hal (And.intro (hin2.mono (S' := fun b => wr.heap.size ≤ b) (fun b hb _ => by simpa [World.setCell] using hb)) ((HI1.out.kept hbt1.size (fun b hb hl => hbt1.block b hl (by omega))).kept hb2.size (fun b _ hl => hb2.block b hl))))
      have m0 := HT3.out.ba.lt
      have m1 := HT3.out.bb.lt
      have y0 := HT3.out.ba.cell 0
      have y1 := HT3.out.ba.cell 1
      have y2 := HT3.out.ba.cell 2
      have y3 := HT3.out.ba.cell 3
      have y4 := HT3.out.ba.cell 4
      have y5 := HT3.out.ba.cell 5
      have g1 := HT3.out.ba.frozen 1
      have g2 := HT3.out.ba.frozen 2
      have g3 := HT3.out.ba.frozen 3
      have g4 := HT3.out.ba.frozen 4
      have z0 := HT3.out.bb.cell 0
      have z1 := HT3.out.bb.cell 1
      have z2 := HT3.out.bb.cell 2
      have z3 := HT3.out.bb.cell 3
      have z4 := HT3.out.bb.cell 4
      have z5 := HT3.out.bb.cell 5
      have k0 := HT3.out.bb.frozen 0
      have k1 := HT3.out.bb.frozen 1
      have k2 := HT3.out.bb.frozen 2
      have k3 := HT3.out.bb.frozen 3
      have k4 := HT3.out.bb.frozen 4
      have k5 := HT3.out.bb.frozen 5
      simp at y0 y1 y2 y3 y4 y5 z0 z1 z2 z3 z4 z5
      clear hal hin2 hb2 hbt1 HT1 HT2 HV x1 x2 x3 x4 x5 f5 HI1
      go_wp2
      have HT6 := ((((((((((HT3.out.setA 1 (.int .i64 u.kind)).setA 2 (.int .i64 u.int)).setA 3 (.string u.text)).setA 4 (.slice u.p u.n u.c)).setB 0 (.string r.key)).setB 1 (.int .i64 u.kind)).setB 2 (.int .i64 u.int)).setB 3 (.string u.text)).setB 4 (.slice u.p u.n u.c)).setB 5 (.slice p1 r.n c1))
      have hbt : But (fun x => x = w.heap.size ∨ x = w.heap.size + 1) w2 ((((((((((w2.setCell ⟨w.heap.size, 1, none⟩ (.int .i64 u.kind)).setCell ⟨w.heap.size, 2, none⟩ (.int .i64 u.int)).setCell ⟨w.heap.size, 3, none⟩ (.string u.text)).setCell ⟨w.heap.size, 4, none⟩ (.slice u.p u.n u.c)).setCell ⟨w.heap.size + 1, 0, none⟩ (.string r.key)).setCell ⟨w.heap.size + 1, 1, none⟩ (.int .i64 u.kind)).setCell ⟨w.heap.size + 1, 2, none⟩ (.int .i64 u.int)).setCell ⟨w.heap.size + 1, 3, none⟩ (.string u.text)).setCell ⟨w.heap.size + 1, 4, none⟩ (.slice u.p u.n u.c)).setCell ⟨w.heap.size + 1, 5, none⟩ (.slice p1 r.n c1)) :=
        ((((((((((But.refl _ w2).setCell (fun _ => Or.inl rfl) _).setCell (fun _ => Or.inl rfl) _).setCell (fun _ => Or.inl rfl) _).setCell (fun _ => Or.inl rfl) _).setCell (fun _ => Or.inr rfl) _).setCell (fun _ => Or.inr rfl) _).setCell (fun _ => Or.inr rfl) _).setCell (fun _ => Or.inr rfl) _).setCell (fun _ => Or.inr rfl) _).setCell (fun _ => Or.inr rfl) _
      refine bodyPost_ret (v := .agg #[.string r.key, .int .i64 u.kind, .int .i64 u.int, .string u.text, .slice u.p u.n u.c, .slice p1 r.n c1]) (by simp [results, Try.results71, go_sem, z0, z1, z2, z3, z4, z5]) rfl ⟨⟨r.key, u, p1, r.n, c1, r.loop⟩, rfl, ⟨rfl, HU.out.1, rfl, fun _ _ => rfl⟩, ⟨?_, ?_, HK.out⟩, HT6.bel⟩
      · exact (HU.out.2.1.kept hbt.size (fun b hb hl => hbt.block b hl (by omega))).mono fun b hb _ => by omega
      · exact (HU.out.2.2.kept hbt.size (fun b hb hl => hbt.block b hl (by omega))).mono fun b hb _ => by omega
set_option maxHeartbeats 4000000 in
theorem rrs5 (l : LT RT) (w : World) (S : Nat → Prop) (hin : LT.In elRec w S l) (hn1 : l.n ≤ 10000) (hs : ∀ j, j < l.n → (l.item j).size ≤ 10000) :
    Calls Try.prog 61 #[.slice l.p l.n l.c] w fun e w' => ∃ u : LT RT, e = .returned (.slice u.p u.n u.c) ∧ LAlk RT.Alike l u ∧ LT.In elRec w' (fun b => w.heap.size ≤ b) u ∧ Below w.heap.size w w' := by
  obtain ⟨i0, Kd⟩ := kindRs
  have HKd := hid Kd
  have HI := hid hin
  have HS := hid hs
  clear hin hs Kd
  go_enter Try.func61, Try.ntmps61
  go_wp2_with fail
  go_loopw [3, 4] (fun v x wr => ∃ (k : Nat) (g : Nat → RT), k ≤ l.n ∧ x = .int .i64 (k : Int) ∧ OwnL elRec w.heap.size wr v k g ∧ (∀ q, q < k → RT.Alike (l.item q) (g q)) ∧ Below w.heap.size w wr) (fun _ x _ => l.n - (intOf x).toNat)
  case atStart => exact ⟨0, l.item, Nat.zero_le _, rfl, ⟨World.ownsRow_nil _ _ _ _, fun j hj => absurd hj (by omega)⟩, fun q hq => absurd hq (by omega), Below.refl _ _⟩
  case round =>
    obtain ⟨k, g, hk, rfl, hO, hal, hbel⟩ := hrel
    have HO := hid hO
    have HA := hid hal
    have HB := hid hbel
    clear hO hal hbel
    by_cases hlt : k < l.n
    · have hlt' : (k : Int) < (l.n : Int) := by omega
      obtain ⟨bb, o, hp, hSb, hbb, hat⟩ := HI.out.at_ (by omega)
      rw [hp]
      have hcell : ∀ r u, (elRec.cells (l.item k))[r]? = some u → wr.cell? ⟨bb, o + k * 6 + r, none⟩ = some u := fun r u hu => (World.cell?_of_block (a := ⟨bb, o + k * 6 + r, none⟩) (HB.out.block bb hbb)).trans (hat k hlt r u hu)
      have c0 : wr.cell? ⟨bb, o + k * 6, none⟩ = some (.string (l.item k).key) := hcell 0 _ rfl
      have c1 : wr.cell? ⟨bb, o + k * 6 + 1, none⟩ = some (.int .i64 (l.item k).v.kind) := hcell 1 _ rfl
      have c2 : wr.cell? ⟨bb, o + k * 6 + 2, none⟩ = some (.int .i64 (l.item k).v.int) := hcell 2 _ rfl
      have c3 : wr.cell? ⟨bb, o + k * 6 + 3, none⟩ = some (.string (l.item k).v.text) := hcell 3 _ rfl
      have c4 : wr.cell? ⟨bb, o + k * 6 + 4, none⟩ = some (.slice (l.item k).v.p (l.item k).v.n (l.item k).v.c) := hcell 4 _ rfl
      have c5 : wr.cell? ⟨bb, o + k * 6 + 5, none⟩ = some (.slice (l.item k).p (l.item k).n (l.item k).c) := hcell 5 _ rfl
      have HC := hid (rr5 (l.item k) wr (fun b => S b ∧ b < w.heap.size) ((RT.In.mono (HI.out.each k hlt) fun b hb hl => ⟨hb, hl⟩).kept HB.out.size (fun b hb _ => HB.out.block b hb.2)) (HS.out k hlt))
      skip
      clear hcell hat
      go_wp2_with fail
      refine HC.out.mono ?_
      rintro e w2_ ⟨u, rfl, hal2, hin2_, hb2_⟩
      obtain ⟨w2, hw2⟩ : ∃ V, V = w2_.alloc (.cells #[.string u.key, .int .i64 u.v.kind, .int .i64 u.v.int, .string u.v.text, .slice u.v.p u.v.n u.v.c, .slice u.p u.n u.c] 99) := ⟨_, rfl⟩
      have hbx : Below w2_.heap.size w2_ w2 := by rw [hw2]; exact (Below.refl _ _).alloc (Nat.le_refl _) _
      have hxb : Box w2 w2_.heap.size #[.string u.key, .int .i64 u.v.kind, .int .i64 u.v.int, .string u.v.text, .slice u.v.p u.v.n u.v.c, .slice u.p u.n u.c] 99 := by rw [hw2]; exact Box.new _ _ _
      have hb2 : Below wr.heap.size wr w2 := hb2_.trans (hbx.mono hb2_.size)
      have hin2 := hin2_.below hbx
      have q0 := hxb.cell 0
      have q1 := hxb.cell 1
      have q2 := hxb.cell 2
      have q3 := hxb.cell 3
      have q4 := hxb.cell 4
      have q5 := hxb.cell 5
      have ql := hxb.lt
      simp at q0 q1 q2 q3 q4 q5
      have HW2 := hid hw2
      clear hw2 hbx hxb hb2_ hin2_
      have hO2 := HO.out.keep hb2.size (fun k _ hl => hb2.block k hl)
      have hu2 : RT.In w2 (fun b => w.heap.size ≤ b ∧ u3.ownBlock ≠ some b) u := hin2.mono fun b hb _ => ⟨Nat.le_trans HB.out.size hb, fun e => by have := (HO.out.own.lt b e).2; omega⟩
      have hsz : w.heap.size ≤ w2.heap.size := Nat.le_trans HB.out.size hb2.size
      have H2 := hid (And.intro hO2 (And.intro hu2 (And.intro hal2 (HB.out.trans (hb2.mono HB.out.size)))))
      have ha : Below w2.heap.size w2 (w2.alloc (.cells #[.string u.key, .int .i64 u.v.kind, .int .i64 u.v.int, .string u.v.text, .slice u.v.p u.v.n u.v.c, .slice u.p u.n u.c] 99)) := (Below.refl _ _).alloc (Nat.le_refl _) _
      have HAl := hid ha
      have HNw : Hid (∀ j u', (elRec.cells u)[j]? = some u' → (w2.alloc (.cells #[.string u.key, .int .i64 u.v.kind, .int .i64 u.v.int, .string u.v.text, .slice u.v.p u.v.n u.v.c, .slice u.p u.n u.c] 99)).cell? ((⟨w2.heap.size, 0, none⟩ : Addr).add j) = some u') := fun j u' hu => by
        rw [Go.WideShapes.add_plain, (Box.new w2 #[.string u.key, .int .i64 u.v.kind, .int .i64 u.v.int, .string u.v.text, .slice u.v.p u.v.n u.v.c, .slice u.p u.n u.c] 99).cell]
        rw [show 0 + j = j by omega]
        simpa [elRec, RT.cells, VT.cells] using hu
      clear hO2 hu2 hal2 hin2 hb2 ha HC c0 c1 c2 c3 c4 c5
      go_upto_region 6 with fail
      rw [← HW2.out]
      go_wp2_with (at_builtin; refine wpList_app rfl (.tmp 17) (.tmp 19) 37 99 i0 _ 6 96 HKd.out rfl w.heap.size u3 k _ rfl (H2.out.1.own.alloc _) ⟨w2.heap.size, 0, none⟩ 1 1 (elRec.cells u) rfl rfl HNw.out (elRec.one u) (by omega) (by omega) (by simp; omega) ?_)
      intro v3 w3 ho3 hg3 hn3
      obtain ⟨hO2, hu2, hal2, hbel2⟩ := H2.out
      have HO3 := hid ((hO2.keep HAl.out.size (fun k _ hl => HAl.out.block k hl)).push (hu2.below HAl.out) ho3 hg3 hn3)
      have HB3 : Hid (Below w.heap.size w w3) := (hbel2.trans (HAl.out.mono hsz)).grown hg3 (by simp; omega) (fun k hk => (hO2.own.lt k hk).1)
      have HA3 : Hid (∀ q, q < k + 1 → RT.Alike (l.item q) (if q < k then g q else u)) := by
        intro q hq
        by_cases hqk : q < k
        · rw [if_pos hqk]; exact HA.out q hqk
        · rw [if_neg hqk]
          obtain rfl : q = k := by omega
          exact hal2
      clear ho3 hg3 hn3 hO2 hu2 hal2 hbel2 H2 HAl HNw
      go_wp2
      go_roundw
      case rel => exact ⟨k + 1, _, by omega, by go_num, HO3.out, HA3.out, HB3.out⟩
      case measure => simp [intOf]; omega
    · obtain rfl : k = l.n := by omega
      have hlt' : ¬ (l.n : Int) < (l.n : Int) := by omega
      obtain ⟨p3, c3, hv, hL⟩ := HO.out.in_ (by omega)
      have HL := hid hL
      subst hv
      clear hL
      go_wp2
      refine bodyPost_ret (v := .slice p3 l.n c3) (by simp [results, Try.results61, go_sem]) rfl ⟨⟨p3, l.n, c3, g⟩, rfl, ⟨rfl, HA.out⟩, HL.out, HB.out⟩
end Go.Proofs.Ytldkepokcbjlpaa
