import Derived.Test.YtldkepokcbjlpaaPack42
namespace Go.Proofs.Ytldkepokcbjlpaa
open Go.RowKit Go.Conc
set_option maxRecDepth 8000
theorem PR.still {w0 w w1 w2 : World} {b rb : Nat} {P : Ps} {R : Rp} {ts : List (Nat × PtT)} {pt : LT PtT} {tk : LT Int} {m : Nat} {F : Nat → Prop} (h : PR w0 w b rb P R ts pt tk m F) (s : QS w b P w1 P (lets ts)) (hb : Below w1.heap.size w1 w2) : PR w0 w2 b rb P R ts pt tk m F ∧ Fr w (Pc P b R rb pt tk) w2 (Pc P b R rb pt tk) := by
  have hd := Dr.qs h s
  have h1 : PR w0 w1 b rb P R ts pt tk m F := ⟨h.g.stay s, hd.1, h.rt, h.rf, h.rs, h.rn, h.rx, h.fl, fun e => by
    have hu := h.un e
    exact ⟨hd.2 _ hu.ru, hu.pk, hu.len, hu.ord, hu.p2, hu.p0, hu.wl, fun i hi => ⟨(hu.pi i hi).1.qs s, (hu.pi i hi).2⟩⟩⟩
  have h2 := h1.below hb
  exact ⟨h2, Fr.of s (But.ofBelow hb) (fun _ hk => .inl hk) (fun k hk => (h2.lt k (.inr (.inr hk))).1)⟩
theorem PR.same {w0 w w1 : World} {b rb : Nat} {P : Ps} {R : Rp} {ts : List (Nat × PtT)} {pt : LT PtT} {tk : LT Int} {m : Nat} {F : Nat → Prop} (h : PR w0 w b rb P R ts pt tk m F) (hb : Below w.heap.size w w1) : PR w0 w1 b rb P R ts pt tk m F ∧ Fr w (Pc P b R rb pt tk) w1 (Pc P b R rb pt tk) :=
  h.still ((QSet.same h.g.i (Below.refl w.heap.size w)).qs h.g.i h.g.inb rfl rfl) hb
/-- no snapshot is under way any more -/
theorem PR.over {w0 w w1 w2 : World} {b rb : Nat} {P : Ps} {R : Rp} {ts : List (Nat × PtT)} {pt : LT PtT} {tk : LT Int} {m : Nat} {F : Nat → Prop} {P1 : Ps} {x : Int} {y : Rs} (h : PR w0 w b rb P R ts pt tk m F) (s : QS w b P w1 (P1.fin x) []) (hs : P1.sts = P.sts) (ht : P1.tasks = P.tasks) (hf : P1.first = P.first) (hsm : P1.sum = P.sum) (hx : x ≠ 1) (hn : 0 < P.sts.n) (r : RSet w1 rb R w2 (R.put (P.sts.n - 1) y)) (hy : y.st = x) (hid : y.id = (R.sh.item (P.sts.n - 1)).id) :
    PR w0 w2 b rb (P1.fin x) (R.put (P.sts.n - 1) y) [] pt tk m F ∧ Fr w (Pc P b R rb pt tk) w2 (Pc (P1.fin x) b (R.put (P.sts.n - 1) y) rb pt tk) := by
  have hg := (h.g.fin s hs (CnR pt tk)).rset r
  have hu : (P1.fin x).under = 0 := Ps.fin_under hx (by rw [hs]; exact hn)
  refine ⟨⟨hg, r.inv, by show R.tasks = P1.tasks; rw [ht]; exact h.rt, by show R.first = P1.first; rw [hf]; exact h.rf, by show R.sum = P1.sum; rw [hsm]; exact h.rs, by show R.sh.n = P1.sts.n; rw [hs]; exact h.rn, fun j hj => ?_, h.fl, fun e => absurd hu e⟩, Fr.of s (r.but.wide fun _ hk => .inl hk) (fun _ hk => .inl hk) (fun k hk => (hg.dl k (.inl hk)).2.1)⟩
  have hj' : j < P1.sts.n := hj
  rw [hs] at hj'
  show ((if j = P.sts.n - 1 then y else R.sh.item j).id = P1.first + (j : Int)) ∧ ((if j = P.sts.n - 1 then y else R.sh.item j).st = (if j = P1.sts.n - 1 then x else P1.sts.item j))
  rw [hs, hf]
  by_cases e : j = P.sts.n - 1
  · rw [if_pos e, if_pos e]
    exact ⟨by rw [hid, e]; exact (h.rx _ (by omega)).1, hy⟩
  · rw [if_neg e, if_neg e]
    exact h.rx j hj'
/-- a snapshot that is ready is settled -/
theorem PR.settled {w0 w w1 w2 : World} {b rb : Nat} {P : Ps} {R : Rp} {ts : List (Nat × PtT)} {pt : LT PtT} {tk : LT Int} {m : Nat} {F : Nat → Prop} {i : Nat} {x : Int} (h : PR w0 w b rb P R ts pt tk m F) (s : QSet w b P w1 (P.setSt i x)) (hi : i < P.sts.n) (h2 : P.sts.item i = 2) (hx : x ≠ 1) (r : RSet w1 rb R w2 (R.put i ((R.sh.item i).set x))) :
    PR w0 w2 b rb (P.setSt i x) (R.put i ((R.sh.item i).set x)) ts pt tk m F ∧ Fr w (Pc P b R rb pt tk) w2 (Pc (P.setSt i x) b (R.put i ((R.sh.item i).set x)) rb pt tk) := by
  have sq := s.qs h.g.i h.g.inb rfl rfl
  obtain ⟨m0, m1, m2, m3⟩ := h.g.mem sq
  have hun : (P.setSt i x).under = P.under := Ps.under_setSt hi (by rw [h2]; omega) hx
  have hv := h.g.inv.settled hi (by rw [h2]; omega) hx
  have hg1 : RG w0 w1 b (P.setSt i x) ts (CnR pt tk) (fun k => Dr R rb pt tk k ∨ F k) := ⟨sq.inv, sq.inb, h.g.nd, h.g.one, fun e => h.g.un (by rw [← hun]; exact e), hv.la, h.g.pw, m0, m1, m2, m3, fun q hq => ⟨(h.g.pts q hq).1, (h.g.pts q hq).2.qs sq⟩, fun t ht e => ⟨(h.g.got t ht e).1, (h.g.got t ht e).2.qs sq⟩⟩
  have hg := hg1.rset r
  have hd := Dr.qs h sq
  refine ⟨⟨hg, r.inv, h.rt, h.rf, h.rs, h.rn, fun j hj => ?_, h.fl, fun e => ?_⟩, Fr.of sq (r.but.wide fun _ hk => .inl hk) (fun _ hk => .inl hk) (fun k hk => (hg.dl k (.inl hk)).2.1)⟩
  · show ((if j = i then (R.sh.item i).set x else R.sh.item j).id = P.first + (j : Int)) ∧ ((if j = i then (R.sh.item i).set x else R.sh.item j).st = (if j = i then x else P.sts.item j))
    by_cases e : j = i
    · rw [if_pos e, if_pos e]
      exact ⟨by rw [e]; exact (h.rx i hi).1, rfl⟩
    · rw [if_neg e, if_neg e]; exact h.rx j hj
  · rw [hun] at e
    have hu := h.un e
    obtain ⟨l0, l1⟩ := Ps.last1 e
    have hne : ¬ R.sh.n - 1 = i := fun e2 => by
      rw [h.rn] at e2
      rw [e2, h2] at l1; cases l1
    have hru := hd.2 _ hu.ru
    have hit : (R.put i ((R.sh.item i).set x)).sh.item (R.sh.n - 1) = R.sh.item (R.sh.n - 1) := by
      show (if R.sh.n - 1 = i then _ else _) = _
      rw [if_neg hne]
    have hkp : ∀ k, k < w1.heap.size → ¬ R.C rb k → w2.heap[k]? = w1.heap[k]? := fun k hl hn => r.but.block k hl hn
    refine ⟨⟨hru.hn, ?_, hru.m, hru.m12, ownsRow_keep hru.pown (fun k hk hl => hkp k hl (hru.pne k hk).1), ownsRow_keep hru.town (fun k hk hl => hkp k hl (hru.tne k hk)), hru.pne, hru.tne, ?_, hru.tb, hru.nd⟩, ?_, hu.len, hu.ord, hu.p2, hu.p0, (by rw [show (P.setSt i x).wants = P.wants from Ps.wantsU_same _ (fun _ _ => Iff.rfl)]; exact hu.wl), fun j hj => ⟨?_, (hu.pi j hj).2⟩⟩
    · show (R.put i ((R.sh.item i).set x)).sh.item (R.sh.n - 1) = ⟨R.first + ((R.sh.n - 1 : Nat) : Int), 1, pt.p, pt.n, pt.c, tk.p, tk.n, tk.c, ((R.put i ((R.sh.item i).set x)).sh.item (R.sh.n - 1)).pk⟩
      rw [hit]; exact hru.x
    · show 0 ≤ ((R.put i ((R.sh.item i).set x)).sh.item (R.sh.n - 1)).pk ∧ ((R.put i ((R.sh.item i).set x)).sh.item (R.sh.n - 1)).pk ≤ (pt.n : Int)
      rw [hit]; exact hru.pk
    · show ((R.put i ((R.sh.item i).set x)).sh.item (R.sh.n - 1)).pk = _
      rw [hit]; exact hu.pk
    · exact ((hu.pi j hj).1.qs sq).kept r.but.size (fun k hk hl => hkp k hl (fun e3 => hk.2.2 (.inl (.inl e3))))
theorem inT_mono {tk : LT Int} {m n : Nat} {t : Int} (h : m ≤ n) (hi : inT tk m t = true) : inT tk n t = true := by
  unfold inT at hi ⊢
  rw [List.any_eq_true] at hi ⊢
  obtain ⟨i, h1, h2⟩ := hi
  exact ⟨i, List.mem_range.2 (Nat.lt_of_lt_of_le (List.mem_range.1 h1) h), h2⟩
/-- one part more is gathered -/
theorem PR.more {w0 w w1 w2 : World} {b rb : Nat} {P : Ps} {R : Rp} {ts : List (Nat × PtT)} {pt : LT PtT} {tk : LT Int} {m : Nat} {F : Nat → Prop} {q : Nat × PtT} (h : PR w0 w b rb P R (q :: ts) pt tk m F) (s : QS w b P w1 (P.gath q.1 q.2) (lets ts)) (r : RSet w1 rb R w2 (R.put (P.sts.n - 1) { R.sh.item (P.sts.n - 1) with pk := (m : Int) + 1 })) :
    PR w0 w2 b rb (P.gath q.1 q.2) (R.put (P.sts.n - 1) { R.sh.item (P.sts.n - 1) with pk := (m : Int) + 1 }) ts pt tk (m + 1) F ∧ Fr w (Pc P b R rb pt tk) w2 (Pc (P.gath q.1 q.2) b (R.put (P.sts.n - 1) { R.sh.item (P.sts.n - 1) with pk := (m : Int) + 1 }) rb pt tk) := by
  have hg1 := (h.g.gath s).1 rfl
  have hg := hg1.rset r
  have hd := Dr.qs h s
  have hun : ¬ P.under = 0 := fun e => by have := (h.g.un e).1; cases this
  have hu := h.un hun
  have hru := hd.2 _ hu.ru
  have hkp : ∀ k, k < w1.heap.size → ¬ R.C rb k → w2.heap[k]? = w1.heap[k]? := fun k hl hn => r.but.block k hl hn
  have hit : (R.put (P.sts.n - 1) { R.sh.item (P.sts.n - 1) with pk := (m : Int) + 1 }).sh.item (R.sh.n - 1) = { R.sh.item (R.sh.n - 1) with pk := (m : Int) + 1 } := by
    show (if R.sh.n - 1 = P.sts.n - 1 then _ else _) = _
    rw [h.rn, if_pos rfl]
  have hq0 : tk.item m = (q.1 : Int) := by
    have := hu.ord 0 q.1 q.2 rfl
    simpa using this
  have hlen := hu.len
  simp only [List.length_cons] at hlen
  have hq1 := (h.g.one q (List.mem_cons_self ..)).1
  refine ⟨⟨hg, r.inv, h.rt, h.rf, h.rs, h.rn, fun j hj => ?_, h.fl, fun _ => ?_⟩, Fr.of s (r.but.wide fun _ hk => .inl hk) (fun _ hk => .inl hk) (fun k hk => (hg.dl k (.inl hk)).2.1)⟩
  · have hj' : j < P.sts.n := hj
    show ((if j = P.sts.n - 1 then ({ R.sh.item (P.sts.n - 1) with pk := (m : Int) + 1 } : Rs) else R.sh.item j).id = P.first + (j : Int)) ∧ ((if j = P.sts.n - 1 then ({ R.sh.item (P.sts.n - 1) with pk := (m : Int) + 1 } : Rs) else R.sh.item j).st = P.sts.item j)
    by_cases e : j = P.sts.n - 1
    · rw [if_pos e, e]; exact h.rx _ (by omega)
    · rw [if_neg e]; exact h.rx j hj'
  · refine ⟨⟨hru.hn, ?_, hru.m, hru.m12, ownsRow_keep hru.pown (fun k hk hl => hkp k hl (hru.pne k hk).1), ownsRow_keep hru.town (fun k hk hl => hkp k hl (hru.tne k hk)), hru.pne, hru.tne, ?_, hru.tb, hru.nd⟩, ?_, by omega, fun j t x e => ?_, fun t ht => ?_, fun t ht => ?_, ?_, fun j hj => ⟨?_, (hu.pi j hj).2⟩⟩
    · show (R.put (P.sts.n - 1) { R.sh.item (P.sts.n - 1) with pk := (m : Int) + 1 }).sh.item (R.sh.n - 1) = ⟨R.first + ((R.sh.n - 1 : Nat) : Int), 1, pt.p, pt.n, pt.c, tk.p, tk.n, tk.c, ((R.put (P.sts.n - 1) { R.sh.item (P.sts.n - 1) with pk := (m : Int) + 1 }).sh.item (R.sh.n - 1)).pk⟩
      rw [hit, hru.x]
    · show 0 ≤ ((R.put (P.sts.n - 1) { R.sh.item (P.sts.n - 1) with pk := (m : Int) + 1 }).sh.item (R.sh.n - 1)).pk ∧ ((R.put (P.sts.n - 1) { R.sh.item (P.sts.n - 1) with pk := (m : Int) + 1 }).sh.item (R.sh.n - 1)).pk ≤ (pt.n : Int)
      rw [hit]
      have := hru.m
      show 0 ≤ (m : Int) + 1 ∧ (m : Int) + 1 ≤ (pt.n : Int)
      omega
    · show ((R.put (P.sts.n - 1) { R.sh.item (P.sts.n - 1) with pk := (m : Int) + 1 }).sh.item (R.sh.n - 1)).pk = ((m + 1 : Nat) : Int)
      rw [hit]
      rfl
    · have := hu.ord (j + 1) t x (by simpa using e)
      rw [show m + 1 + j = m + (j + 1) by omega]
      exact this
    · have ht' : (t : Int) < P.tasks := ht
      rw [inT_succ, hq0]
      show ((if t = q.1 then (2 : Int) else P.pl t) = 2) ↔ _
      by_cases e : t = q.1
      · rw [if_pos e, e]; simp
      · rw [if_neg e, hu.p2 t ht']
        have : ((q.1 : Int) == (t : Int)) = false := by rw [beq_eq_false_iff_ne]; omega
        rw [this, Bool.or_false]
    · have ht' : (t : Int) < P.tasks := ht
      show ((if t = q.1 then (2 : Int) else P.pl t) ≠ 0) ↔ _
      by_cases e : t = q.1
      · rw [if_pos e, e]
        refine ⟨fun _ => inT_mono (m := m + 1) (by omega) ?_, fun _ => by omega⟩
        rw [inT_succ, hq0]; simp
      · rw [if_neg e]; exact hu.p0 t ht'
    · have h1 := h.g.wants1
      have h2 := hu.wl
      show (P.gath q.1 q.2).wants.length + (m + 1) = P.tasks.toNat
      omega
    · exact ((hu.pi j hj).1.qs s).kept r.but.size (fun k hk hl => hkp k hl (fun e3 => hk.2.2 (.inl (.inl e3))))
end Go.Proofs.Ytldkepokcbjlpaa

namespace Go.Proofs.Ytldkepokcbjlpaa
open Go.RowKit Go.Conc
set_option maxRecDepth 8000
theorem VT.Alike.total : ∀ {t u : VT}, VT.Alike t u → u.total = t.total := by
  intro t
  induction t with
  | nil => intro u h; have h : u = .nil := h; rw [h]
  | mk k i s n p c f ih =>
    intro u h
    have hn : u.n = n := h.n
    rw [VT.total_eq u, hn]
    show n + _ = n + _
    congr 1
    congr 1
    apply List.map_congr_left
    intro j hj
    exact ih j (h.item (List.mem_range.1 hj))
theorem RT.Alike.size {r u : RT} (h : RT.Alike r u) : u.size = r.size := by
  unfold RT.size
  rw [h.n, h.v.total]
theorem RT.Alike.trans_ {r q s : RT} (h : RT.Alike r q) (k : RT.Alike q s) : RT.Alike r s := ⟨k.key.trans h.key, h.v.trans k.v, k.n.trans h.n, fun j hj => (k.loop j (by rw [h.n]; exact hj)).trans (h.loop j hj)⟩
theorem PtAlk.trans {t u v : PtT} (h : PtAlk t u) (g : PtAlk u v) : PtAlk t v := by
  refine ⟨g.num.trans h.num, ⟨g.cl.n.trans h.cl.n, fun j hj => (h.cl.item j hj).trans (g.cl.item j (by rw [h.cl.n]; exact hj))⟩, ⟨g.lg.n.trans h.lg.n, fun j hj => ?_⟩, ⟨g.pd.n.trans h.pd.n, fun j hj => (h.pd.item j hj).trans_ (g.pd.item j (by rw [h.pd.n]; exact hj))⟩⟩
  have h1 := h.lg.item j hj
  have g1 := g.lg.item j (by rw [h.lg.n]; exact hj)
  exact ⟨g1.n.trans h1.n, fun q hq => (h1.item q hq).trans_ (g1.item q (by rw [h1.n]; exact hq))⟩
theorem PtSz.alk {t u : PtT} (h : PtSz t) (a : PtAlk t u) : PtSz u := by
  refine ⟨by rw [a.cl.n]; exact h.c0, fun j hj => ?_, by rw [a.lg.n]; exact h.l0, fun j hj => ?_, fun j hj i hi => ?_, by rw [a.pd.n]; exact h.p0, fun j hj => ?_⟩
  · rw [a.cl.n] at hj
    rw [(a.cl.item j hj).total]; exact h.c1 j hj
  · rw [a.lg.n] at hj
    rw [(a.lg.item j hj).n]; exact h.l1 j hj
  · rw [a.lg.n] at hj
    have h1 := a.lg.item j hj
    rw [h1.n] at hi
    rw [(h1.item i hi).size]; exact h.l2 j hj i hi
  · rw [a.pd.n] at hj
    rw [(a.pd.item j hj).size]; exact h.p1 j hj
theorem RG.move {w0 w w' : World} {b : Nat} {P : Ps} {ts : List (Nat × PtT)} {Cn : Nat → PtT → Prop} {D D' : Nat → Prop} (h : RG w0 w b P ts Cn D) (hb : But D w w') (hf : ∀ k, D' k → D k ∨ w.heap.size ≤ k) (h0 : ∀ k, D' k → w0.heap.size ≤ k ∧ k < w'.heap.size) : RG w0 w' b P ts Cn D' ∧ ∀ u, PtIn w (Out P b D) u → PtIn w' (Out P b D') u := by
  have hP : ∀ u, PtIn w (Out P b D) u → PtIn w' (Out P b D') u := fun u hu =>
    ((hu.mono (S' := fun k => Out P b D k ∧ k < w.heap.size) (fun k hk hl => ⟨hk, hl⟩)).kept hb.size (fun k hk hl => hb.block k hl hk.1.2.2)).mono (fun k hk _ => ⟨hk.1.1, hk.1.2.1, fun e => by
      rcases hf k e with e2 | e2
      · exact hk.1.2.2 e2
      · omega⟩)
  have h2 := h.put hb
  refine ⟨⟨h2.i, h2.inb, h2.nd, h2.one, h2.un, h2.la, h2.pw, h2.bel, h2.cb, h2.ch, fun k hk => ⟨(h0 k hk).1, (h0 k hk).2, fun e => ?_, fun e => ?_⟩, fun q hq => ⟨(h.pts q hq).1, hP _ (h.pts q hq).2⟩, fun t ht e => ⟨(h.got t ht e).1, hP _ (h.got t ht e).2⟩⟩, hP⟩
  · rcases hf k hk with e2 | e2
    · exact (h.dl k e2).2.2.1 e
    · have := h.i.lt e; omega
  · rcases hf k hk with e2 | e2
    · exact (h.dl k e2).2.2.2 e
    · have := h.inb.lt; omega
theorem inT_push {tk : LT Int} {p : Option Addr} {c m : Nat} {x t : Int} (h : m ≤ tk.n) : inT (tk.push p c x) m t = inT tk m t := by
  unfold inT
  rw [Bool.eq_iff_iff, List.any_eq_true, List.any_eq_true]
  have he : ∀ i, i < m → (tk.push p c x).item i = tk.item i := fun i hi => by
    show (if i < tk.n then tk.item i else x) = _
    rw [if_pos (by omega)]
  constructor
  · rintro ⟨i, h1, h2⟩
    exact ⟨i, h1, by rw [← he i (List.mem_range.1 h1)]; exact h2⟩
  · rintro ⟨i, h1, h2⟩
    exact ⟨i, h1, by rw [he i (List.mem_range.1 h1)]; exact h2⟩
/-- a part is taken in, by both -/
theorem PR.hand {w0 w w1 w2 : World} {b rb : Nat} {P P1 : Ps} {R : Rp} {ts : List (Nat × PtT)} {pt : LT PtT} {tk : LT Int} {m : Nat} {F : Nat → Prop} {id : Int} {i : Nat} {xo xr u : PtT} {e : Ending} {L1 : List Value} {pp tp : Option Addr} {cp ct : Nat} (h : PR w0 w b rb P R ts pt tk m F) (q : HandQ id (i : Int) xo w b P (lets ts) e w1 P1 L1) (hr : P.refE id (i : Int) = 0) (hxr : PtAlk xo xr) (hsz : PtSz xr) (r : RHdQ (i : Int) xr w1 rb R (R.sh.n - 1) pt tk w2 u pp cp tp ct) :
    ∃ ts', PR w0 w2 b rb P1 (R.put (R.sh.n - 1) ⟨R.first + ((R.sh.n - 1 : Nat) : Int), 1, pp, pt.n + 1, cp, tp, tk.n + 1, ct, (R.sh.item (R.sh.n - 1)).pk⟩) ts' (pt.push pp cp u) (tk.push tp ct (i : Int)) m F ∧ Fr w (Pc P b R rb pt tk) w2 (Pc P1 b (R.put (R.sh.n - 1) ⟨R.first + ((R.sh.n - 1 : Nat) : Int), 1, pp, pt.n + 1, cp, tp, tk.n + 1, ct, (R.sh.item (R.sh.n - 1)).pk⟩) rb (pt.push pp cp u) (tk.push tp ct (i : Int))) := by
  have s := q.s
  obtain ⟨z0, z1, z2, z3⟩ := Ps.refE_zero hr
  rw [Int.toNat_natCast] at z3
  have hu := h.un z2
  have hau : PtAlk xo u := hxr.trans r.al
  obtain ⟨i', u', hi', hi12, rfl, hg1⟩ := h.g.hand q hr (CnR (pt.push pp cp u) (tk.push tp ct (i : Int))) (fun i2 v e2 hv => ⟨tk.n, by show tk.n < tk.n + 1; omega, by
      show (if tk.n < tk.n then _ else (i : Int)) = _
      rw [if_neg (by omega)]; exact e2, by
      show PtAlk (if tk.n < pt.n then _ else u) v
      rw [if_neg (by have := hu.ru.m; omega)]
      exact hau.two hv r.pi⟩) (fun i2 j v e2 hj hc => by
      obtain ⟨k, hk, hk1, hk2⟩ := hc
      refine ⟨k, by show k < tk.n + 1; omega, ?_, ?_⟩
      · show (if k < tk.n then tk.item k else (i : Int)) = _
        rw [if_pos hk]; exact hk1
      · show PtAlk (if k < pt.n then pt.item k else u) v
        rw [if_pos (by have := hu.ru.m; omega)]; exact hk2)
  obtain rfl : i = i' := by omega
  have hD' : ∀ k, Dr (R.put (R.sh.n - 1) ⟨R.first + ((R.sh.n - 1 : Nat) : Int), 1, pp, pt.n + 1, cp, tp, tk.n + 1, ct, (R.sh.item (R.sh.n - 1)).pk⟩) rb (pt.push pp cp u) (tk.push tp ct (i : Int)) k → Dr R rb pt tk k ∨ w1.heap.size ≤ k := fun k hk => by
    rcases hk with e2 | e2 | e2
    · exact .inl (.inl e2)
    · rcases r.pb k e2 with e3 | e3
      · exact .inl (.inr (.inl e3))
      · exact .inr e3
    · rcases r.tb k e2 with e3 | e3
      · exact .inl (.inr (.inr e3))
      · exact .inr e3
  have hlt2 : ∀ k, Dr (R.put (R.sh.n - 1) ⟨R.first + ((R.sh.n - 1 : Nat) : Int), 1, pp, pt.n + 1, cp, tp, tk.n + 1, ct, (R.sh.item (R.sh.n - 1)).pk⟩) rb (pt.push pp cp u) (tk.push tp ct (i : Int)) k → k < w2.heap.size := fun k hk => by
    rcases hk with e2 | e2 | e2
    · exact r.inv.lt e2
    · exact (r.ru.pown.lt k e2).2
    · exact (r.ru.town.lt k e2).2
  obtain ⟨hg2, hP⟩ := hg1.move (D' := fun k => Dr (R.put (R.sh.n - 1) ⟨R.first + ((R.sh.n - 1 : Nat) : Int), 1, pp, pt.n + 1, cp, tp, tk.n + 1, ct, (R.sh.item (R.sh.n - 1)).pk⟩) rb (pt.push pp cp u) (tk.push tp ct (i : Int)) k ∨ F k) (r.but.wide fun k hk => .inl hk) (fun k hk => by
      rcases hk with e2 | e2
      · rcases hD' k e2 with e3 | e3
        · exact .inl (.inl e3)
        · exact .inr e3
      · exact .inl (.inr e2)) (fun k hk => by
      rcases hk with e2 | e2
      · refine ⟨?_, hlt2 k e2⟩
        rcases hD' k e2 with e3 | e3
        · exact (hg1.dl k (.inl e3)).1
        · exact Nat.le_trans hg1.bel.size e3
      · exact ⟨(hg1.dl k (.inr e2)).1, Nat.lt_of_lt_of_le (hg1.dl k (.inr e2)).2.1 r.but.size⟩)
  have hlen := hu.len
  have hwl : (P.hand i).wants = P.wants := Ps.wantsU_same _ (fun j _ => by
    show ((if j = i then (1 : Int) else P.pl j) = 2 ↔ P.pl j = 2)
    by_cases e : j = i
    · rw [if_pos e, e, z3]; omega
    · rw [if_neg e])
  have hnn := hu.ru.hn
  refine ⟨ts ++ [(i, u')], ⟨hg2, r.inv, h.rt, h.rf, h.rs, h.rn, fun j hj => ?_, fun k hk e2 => ?_, fun _ => ⟨r.ru, ?_, ?_, fun j t x ht => ?_, fun t ht => ?_, fun t ht => ?_, by rw [hwl]; exact hu.wl, fun j hj => ?_⟩⟩, Fr.of s (r.but) (fun k hk => hD' k hk) hlt2⟩
  · have hj' : j < P.sts.n := hj
    show ((if j = R.sh.n - 1 then (⟨R.first + ((R.sh.n - 1 : Nat) : Int), 1, pp, pt.n + 1, cp, tp, tk.n + 1, ct, (R.sh.item (R.sh.n - 1)).pk⟩ : Rs) else R.sh.item j).id = P.first + (j : Int)) ∧ ((if j = R.sh.n - 1 then (⟨R.first + ((R.sh.n - 1 : Nat) : Int), 1, pp, pt.n + 1, cp, tp, tk.n + 1, ct, (R.sh.item (R.sh.n - 1)).pk⟩ : Rs) else R.sh.item j).st = P.sts.item j)
    by_cases e : j = R.sh.n - 1
    · rw [if_pos e]
      refine ⟨by show R.first + ((R.sh.n - 1 : Nat) : Int) = _; rw [h.rf, e], ?_⟩
      rw [← (h.rx j hj').2, e]
      exact hu.ru.st.1.symm
    · rw [if_neg e]; exact h.rx j hj'
  · rcases hD' k e2 with e3 | e3
    · exact h.fl k hk e3
    · have := (hg1.dl k (.inr hk)).2.1; omega
  · show ((if R.sh.n - 1 = R.sh.n - 1 then (⟨R.first + ((R.sh.n - 1 : Nat) : Int), 1, pp, pt.n + 1, cp, tp, tk.n + 1, ct, (R.sh.item (R.sh.n - 1)).pk⟩ : Rs) else R.sh.item (R.sh.n - 1)).pk = (m : Int))
    rw [if_pos rfl]; exact hu.pk
  · show m + (ts ++ [(i, u')]).length = tk.n + 1
    simp; omega
  · show (if m + j < tk.n then tk.item (m + j) else (i : Int)) = (t : Int)
    rcases Nat.lt_or_ge j ts.length with hj | hj
    · rw [List.getElem?_append_left hj] at ht
      rw [if_pos (by omega)]
      exact hu.ord j t x ht
    · rw [List.getElem?_append_right hj] at ht
      have hj0 : j - ts.length = 0 := by
        rcases Nat.eq_zero_or_pos (j - ts.length) with h1 | h1
        · exact h1
        · rw [List.getElem?_eq_none (by simp; omega)] at ht; cases ht
      rw [hj0] at ht
      simp at ht
      rw [if_neg (by omega), ht.1]
  · have ht' : (t : Int) < P.tasks := ht
    rw [inT_push (by omega), ← hu.p2 t ht']
    show ((if t = i then (1 : Int) else P.pl t) = 2 ↔ P.pl t = 2)
    by_cases e : t = i
    · rw [if_pos e, e, z3]; omega
    · rw [if_neg e]
  · have ht' : (t : Int) < P.tasks := ht
    show ((if t = i then (1 : Int) else P.pl t) ≠ 0) ↔ inT (tk.push tp ct (i : Int)) (tk.n + 1) (t : Int) = true
    rw [inT_succ, inT_push (Nat.le_refl _)]
    have hl : (tk.push tp ct (i : Int)).item tk.n = (i : Int) := by
      show (if tk.n < tk.n then _ else (i : Int)) = _
      rw [if_neg (by omega)]
    rw [hl]
    by_cases e : t = i
    · rw [if_pos e, e]; simp
    · have : ((i : Int) == (t : Int)) = false := by rw [beq_eq_false_iff_ne]; omega
      rw [if_neg e, this, Bool.or_false]
      exact hu.p0 t ht'
  · have hj' : j < pt.n + 1 := hj
    show PtIn w2 _ (if j < pt.n then pt.item j else u) ∧ PtSz (if j < pt.n then pt.item j else u)
    by_cases hj2 : j < pt.n
    · rw [if_pos hj2]
      exact ⟨hP _ ((hu.pi j hj2).1.qs s), (hu.pi j hj2).2⟩
    · rw [if_neg hj2]
      refine ⟨r.pi.mono (fun k hk _ => ⟨fun e2 => ?_, fun e2 => ?_, fun e2 => ?_⟩), hsz.alk r.al⟩
      · have := hg1.i.lt e2; omega
      · have := hg1.inb.lt; omega
      · rcases e2 with e2 | e2
        · rcases e2 with e3 | e3 | e3
          · have h9 : R.C rb k := e3
            have := (hg1.dl k (.inl (.inl h9))).2.1; omega
          · exact hk.2.1 e3
          · exact hk.2.2 e3
        · have := (hg1.dl k (.inr e2)).2.1; omega
end Go.Proofs.Ytldkepokcbjlpaa
