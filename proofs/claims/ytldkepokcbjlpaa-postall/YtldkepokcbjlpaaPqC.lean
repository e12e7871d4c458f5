import Derived.Test.YtldkepokcbjlpaaPqA
namespace Go.Proofs.Ytldkepokcbjlpaa
open Go.RowKit Go.Conc
set_option maxRecDepth 8000
def Out (P : Ps) (b : Nat) (D : Nat → Prop) (k : Nat) : Prop := ¬ P.C b k ∧ k ≠ P.ch ∧ ¬ D k
def lets (ts : List (Nat × PtT)) : List Value := ts.map fun q => letV q.1 q.2
/-- a coordinator with its parts: what is in the inbox and what is gathered tells its number, in memory that nobody writes -/
structure RJ (w0 w : World) (b : Nat) (P : Ps) (ts : List (Nat × PtT)) (num : Nat → Int) (D : Nat → Prop) : Prop where
  i : PsI w b P
  inb : Inb w P (lets ts)
  nd : (ts.map (·.1)).Nodup
  one : ∀ q ∈ ts, (q.1 : Int) < P.tasks ∧ P.pl q.1 = 1
  un : P.under = 0 → ts = [] ∧ ∀ i, i < 12 → P.pl i = 0
  la : ∀ j, j + 1 < P.sts.n → P.sts.item j ≠ 1
  pw : ∀ j : Nat, (j : Int) < P.tasks → P.pl j = 1 → j ∈ ts.map (·.1)
  bel : Below w0.heap.size w0 w
  cb : ∀ k, P.C b k → w0.heap.size ≤ k
  ch : w0.heap.size ≤ P.ch
  dl : ∀ k, D k → w0.heap.size ≤ k ∧ k < w.heap.size ∧ ¬ P.C b k ∧ k ≠ P.ch
  pts : ∀ q ∈ ts, IsP (num q.1) q.2 ∧ PtIn w (Out P b D) q.2
  got : ∀ t, t < 12 → P.pl t = 2 → IsP (num t) (P.pt t) ∧ PtIn w (Out P b D) (P.pt t)
theorem RJ.inv {w0 w : World} {b : Nat} {P : Ps} {ts : List (Nat × PtT)} {num : Nat → Int} {D : Nat → Prop} (h : RJ w0 w b P ts num D) : PInv P (lets ts) :=
  ⟨⟨ts, rfl, h.nd, h.one⟩, fun e => ⟨by rw [(h.un e).1]; rfl, (h.un e).2⟩, h.la⟩
theorem PtIn.qs {w w' : World} {b : Nat} {P P' : Ps} {L' : List Value} {D : Nat → Prop} {u : PtT} (h : PtIn w (Out P b D) u) (s : QS w b P w' P' L') : PtIn w' (Out P b D) u :=
  h.kept s.but.size (fun k hk hl => s.but.block k hl (fun e => by rcases e with e | e; exact hk.1 e; exact hk.2.1 e))
/-- what a step keeps of the memory -/
theorem RJ.mem {w0 w w' : World} {b : Nat} {P P' : Ps} {ts : List (Nat × PtT)} {num : Nat → Int} {D : Nat → Prop} {L' : List Value} (h : RJ w0 w b P ts num D) (s : QS w b P w' P' L') :
    Below w0.heap.size w0 w' ∧ (∀ k, P'.C b k → w0.heap.size ≤ k) ∧ w0.heap.size ≤ P'.ch ∧ ∀ k, D k → w0.heap.size ≤ k ∧ k < w'.heap.size ∧ ¬ P'.C b k ∧ k ≠ P'.ch := by
  refine ⟨h.bel.trans (s.but.below h.bel.size (fun k hk e => ?_)), fun k hk => ?_, by rw [s.chE]; exact h.ch, fun k hk => ?_⟩
  · rcases e with e | e
    · have := h.cb k e; omega
    · have := h.ch; omega
  · rcases s.cs k hk with h1 | h1
    · exact h.cb k h1
    · exact Nat.le_trans h.bel.size h1
  · obtain ⟨d0, d1, d2, d3⟩ := h.dl k hk
    refine ⟨d0, Nat.lt_of_lt_of_le d1 s.but.size, fun e => ?_, by rw [s.chE]; exact d3⟩
    rcases s.cs k e with h1 | h1
    · exact d2 h1
    · omega
theorem RJ.below {w0 w w' : World} {b : Nat} {P : Ps} {ts : List (Nat × PtT)} {num : Nat → Int} {D : Nat → Prop} (h : RJ w0 w b P ts num D) (hb : Below w.heap.size w w') : RJ w0 w' b P ts num D := by
  have s : QS w b P w' P (lets ts) := (QSet.same h.i hb).qs h.i h.inb rfl rfl
  obtain ⟨m0, m1, m2, m3⟩ := h.mem s
  exact ⟨s.inv, s.inb, h.nd, h.one, h.un, h.la, h.pw, m0, m1, m2, m3, fun q hq => ⟨(h.pts q hq).1, (h.pts q hq).2.qs s⟩, fun t ht e => ⟨(h.got t ht e).1, (h.got t ht e).2.qs s⟩⟩
/-- the law writes what is its own -/
theorem RJ.put {w0 w w' : World} {b : Nat} {P : Ps} {ts : List (Nat × PtT)} {num : Nat → Int} {D : Nat → Prop} (h : RJ w0 w b P ts num D) (hb : But D w w') : RJ w0 w' b P ts num D := by
  have hk : ∀ k, Out P b D k → k < w.heap.size → w'.heap[k]? = w.heap[k]? := fun k hk hl => hb.block k hl hk.2.2
  refine ⟨h.i.kept fun k hk hl => hb.block k hl (fun e => (h.dl k e).2.2.1 hk), h.inb.to rfl rfl (hb.block _ h.inb.lt (fun e => (h.dl _ e).2.2.2 rfl)), h.nd, h.one, h.un, h.la, h.pw, h.bel.trans (hb.below h.bel.size (fun k hk e => by have := (h.dl k e).1; omega)), h.cb, h.ch, fun k hk => ⟨(h.dl k hk).1, Nat.lt_of_lt_of_le (h.dl k hk).2.1 hb.size, (h.dl k hk).2.2⟩, fun q hq => ⟨(h.pts q hq).1, (h.pts q hq).2.kept hb.size hk⟩, fun t ht e => ⟨(h.got t ht e).1, (h.got t ht e).2.kept hb.size hk⟩⟩
/-- more is the law's own -/
theorem RJ.more {w0 w : World} {b : Nat} {P : Ps} {ts : List (Nat × PtT)} {num : Nat → Int} {D D' : Nat → Prop} (h : RJ w0 w b P ts num D) (h0 : ∀ t, t < 12 → P.pl t = 0) (hd : ∀ k, D' k → w0.heap.size ≤ k ∧ k < w.heap.size ∧ ¬ P.C b k ∧ k ≠ P.ch) (ht : ts = []) (num' : Nat → Int) : RJ w0 w b P ts num' D' :=
  ⟨h.i, h.inb, h.nd, h.one, h.un, h.la, h.pw, h.bel, h.cb, h.ch, hd, fun q hq => by subst ht; simp at hq, fun t ht e => by rw [h0 t ht] at e; cases e⟩
theorem RJ.hand {w0 w w' : World} {b : Nat} {P P' : Ps} {ts : List (Nat × PtT)} {num : Nat → Int} {D : Nat → Prop} {id task n : Int} {x : PtT} {e : Ending} {L' : List Value} (h : RJ w0 w b P ts num D) (q : HandQ id task x w b P (lets ts) e w' P' L') (hr : P.refE id task = 0) (hx : IsP n x) :
    ∃ i : Nat, ∃ u, task = (i : Int) ∧ i < 12 ∧ P' = P.hand i ∧ RJ w0 w' b (P.hand i) (ts ++ [(i, u)]) (fun j => if j = i then n else num j) D := by
  have s := q.s
  obtain ⟨i, u, rfl, hi, rfl, rfl, ha, hu⟩ := q.y hr
  obtain ⟨r0, r1, r2, r3⟩ := Ps.refE_zero hr
  rw [Int.toNat_natCast] at r3
  obtain ⟨m0, m1, m2, m3⟩ := h.mem s
  have hni : ∀ p ∈ ts, p.1 ≠ i := fun p hp e => by have := (h.one p hp).2; rw [e, r3] at this; cases this
  have hls : lets ts ++ [letV i u] = lets (ts ++ [(i, u)]) := by simp [lets]
  rw [hls] at s
  refine ⟨i, u, rfl, hi, rfl, s.inv, s.inb, ?_, fun p hp => ?_, fun e => absurd e r2, h.la, fun j hj hj1 => ?_, m0, m1, m2, m3, fun p hp => ?_, fun t ht e => ?_⟩
  · rw [List.map_append, List.nodup_append]
    refine ⟨h.nd, by simp, fun a ha b hb e => ?_⟩
    simp only [List.map_cons, List.map_nil, List.mem_singleton] at hb
    obtain ⟨p, hp, rfl⟩ := List.mem_map.1 ha
    exact hni p hp (e.trans hb)
  · rcases List.mem_append.1 hp with h4 | h4
    · refine ⟨(h.one p h4).1, ?_⟩
      show (if p.1 = i then 1 else P.pl p.1) = 1
      rw [if_neg (hni p h4)]
      exact (h.one p h4).2
    · simp only [List.mem_singleton] at h4
      subst h4
      exact ⟨r1, by show (if i = i then (1 : Int) else P.pl i) = 1; rw [if_pos rfl]⟩
  · rw [List.map_append, List.mem_append]
    by_cases e : j = i
    · exact .inr (by simp [e])
    · refine .inl (h.pw j hj ?_)
      have : (if j = i then (1 : Int) else P.pl j) = 1 := hj1
      rwa [if_neg e] at this
  · rcases List.mem_append.1 hp with h4 | h4
    · show IsP (if p.1 = i then n else num p.1) p.2 ∧ _
      rw [if_neg (hni p h4)]
      exact ⟨(h.pts p h4).1, (h.pts p h4).2.qs s⟩
    · simp only [List.mem_singleton] at h4
      subst h4
      show IsP (if i = i then n else num i) u ∧ _
      rw [if_pos rfl]
      refine ⟨hx.alk ha, hu.mono (fun k hk hl => ⟨fun e => ?_, fun e => ?_, fun e => ?_⟩)⟩
      · have : P.C b k := e
        have := h.i.lt this
        omega
      · have : k = P.ch := e
        have := h.inb.lt
        omega
      · have := (h.dl k e).2.1; omega
  · have e' : (if t = i then (1 : Int) else P.pl t) = 2 := e
    by_cases ti : t = i
    · rw [if_pos ti] at e'; cases e'
    · rw [if_neg ti] at e'
      show IsP (if t = i then n else num t) (P.pt t) ∧ _
      rw [if_neg ti]
      exact ⟨(h.got t ht e').1, (h.got t ht e').2.qs s⟩
theorem RJ.refused {w0 w w' : World} {b : Nat} {P P' : Ps} {ts : List (Nat × PtT)} {num : Nat → Int} {D : Nat → Prop} {id task : Int} {x : PtT} {e : Ending} {L' : List Value} (h : RJ w0 w b P ts num D) (q : HandQ id task x w b P (lets ts) e w' P' L') (hr : ¬ P.refE id task = 0) : P' = P ∧ RJ w0 w' b P ts num D := by
  have s := q.s
  obtain ⟨rfl, rfl⟩ := q.n hr
  obtain ⟨m0, m1, m2, m3⟩ := h.mem s
  exact ⟨rfl, s.inv, s.inb, h.nd, h.one, h.un, h.la, h.pw, m0, m1, m2, m3, fun q hq => ⟨(h.pts q hq).1, (h.pts q hq).2.qs s⟩, fun t ht e => ⟨(h.got t ht e).1, (h.got t ht e).2.qs s⟩⟩
theorem RJ.gath {w0 w w' : World} {b : Nat} {P P' : Ps} {q : Nat × PtT} {ts : List (Nat × PtT)} {num : Nat → Int} {D : Nat → Prop} (h : RJ w0 w b P (q :: ts) num D) (s : QS w b P w' P' (lets ts)) :
    (P' = P.gath q.1 q.2 → RJ w0 w' b (P.gath q.1 q.2) ts num D) ∧ ∀ t, t < 12 → (P.gath q.1 q.2).pl t = 2 → IsP (num t) ((P.gath q.1 q.2).pt t) ∧ PtIn w' (Out P b D) ((P.gath q.1 q.2).pt t) := by
  obtain ⟨m0, m1, m2, m3⟩ := h.mem s
  have hn := h.nd
  rw [List.map_cons, List.nodup_cons] at hn
  have hq : ∀ p ∈ ts, p.1 ≠ q.1 := fun p hp e => hn.1 (by rw [← e]; exact List.mem_map_of_mem hp)
  have hu : ¬ P.under = 0 := fun e => by have := (h.un e).1; cases this
  have hgot : ∀ t, t < 12 → (P.gath q.1 q.2).pl t = 2 → IsP (num t) ((P.gath q.1 q.2).pt t) ∧ PtIn w' (Out P b D) ((P.gath q.1 q.2).pt t) := fun t ht e => by
    have e' : (if t = q.1 then (2 : Int) else P.pl t) = 2 := e
    show IsP (num t) (if t = q.1 then q.2 else P.pt t) ∧ PtIn w' (Out P b D) (if t = q.1 then q.2 else P.pt t)
    by_cases ti : t = q.1
    · rw [if_pos ti, ti]
      exact ⟨(h.pts q (List.mem_cons_self ..)).1, (h.pts q (List.mem_cons_self ..)).2.qs s⟩
    · rw [if_neg ti] at e' ⊢
      exact ⟨(h.got t ht e').1, (h.got t ht e').2.qs s⟩
  refine ⟨fun hP => ?_, hgot⟩
  subst hP
  refine ⟨s.inv, s.inb, hn.2, fun p hp => ⟨(h.one p (List.mem_cons_of_mem _ hp)).1, ?_⟩, fun e => absurd e hu, h.la, fun j hj hj1 => ?_, m0, m1, m2, m3, fun p hp => ⟨(h.pts p (List.mem_cons_of_mem _ hp)).1, (h.pts p (List.mem_cons_of_mem _ hp)).2.qs s⟩, hgot⟩
  · show (if p.1 = q.1 then (2 : Int) else P.pl p.1) = 1
    rw [if_neg (hq p hp)]
    exact (h.one p (List.mem_cons_of_mem _ hp)).2
  · have e' : (if j = q.1 then (2 : Int) else P.pl j) = 1 := hj1
    by_cases ji : j = q.1
    · rw [if_pos ji] at e'; cases e'
    · rw [if_neg ji] at e'
      have := h.pw j hj e'
      rw [List.map_cons, List.mem_cons] at this
      rcases this with h1 | h1
      · exact absurd h1 ji
      · exact h1
theorem RJ.fin {w0 w w' : World} {b : Nat} {P P1 : Ps} {ts : List (Nat × PtT)} {num : Nat → Int} {D : Nat → Prop} {x : Int} (h : RJ w0 w b P ts num D) (s : QS w b P w' (P1.fin x) []) (hs : P1.sts = P.sts) (num' : Nat → Int) : RJ w0 w' b (P1.fin x) [] num' D := by
  obtain ⟨m0, m1, m2, m3⟩ := h.mem s
  refine ⟨s.inv, s.inb, List.nodup_nil, fun q hq => absurd hq (by simp), fun _ => ⟨rfl, fun _ _ => rfl⟩, fun j hj => ?_, fun j _ e => absurd e (by show ¬ (0 : Int) = 1; omega), m0, m1, m2, m3, fun q hq => absurd hq (by simp), fun t _ e => absurd e (by show ¬ (0 : Int) = 2; omega)⟩
  have hj2 : j + 1 < P1.sts.n := hj
  show (if j = P1.sts.n - 1 then x else P1.sts.item j) ≠ 1
  rw [if_neg (by omega), hs]
  rw [hs] at hj2
  exact h.la j hj2
theorem RJ.trig {w0 w w' : World} {b : Nat} {P : Ps} {ts : List (Nat × PtT)} {num : Nat → Int} {D : Nat → Prop} {p : Option Addr} {c : Nat} (h : RJ w0 w b P ts num D) (s : QSet w b P w' (P.push p c 1)) (hu : P.under = 0) (num' : Nat → Int) : ts = [] ∧ (∀ i, i < 12 → P.pl i = 0) ∧ RJ w0 w' b (P.push p c 1) [] num' D := by
  obtain ⟨rfl, h0⟩ := h.un hu
  have s' := s.qs h.i h.inb rfl rfl
  obtain ⟨m0, m1, m2, m3⟩ := h.mem s'
  refine ⟨rfl, h0, s'.inv, s'.inb, List.nodup_nil, fun q hq => absurd hq (by simp), fun _ => ⟨rfl, h0⟩, (h.inv.trig h.i.f0 hu p c).2.la, fun j hj e => ?_, m0, m1, m2, m3, fun q hq => absurd hq (by simp), fun t ht e => ?_⟩
  · have h12 : j < 12 := by have := h.i.t1; have hj' : (j : Int) < P.tasks := hj; omega
    have : P.pl j = 1 := e
    rw [h0 j h12] at this; cases this
  · have : P.pl t = 2 := e
    rw [h0 t ht] at this; cases this
theorem RJ.new {w0 w w' : World} {T A m : Int} (hb : Below w0.heap.size w0 w) (hI : PsI w' (w.heap.size + 1) (Ps.new T A m w.heap.size)) (hc : Inb w' (Ps.new T A m w.heap.size) []) (hb' : Below w.heap.size w w') (num : Nat → Int) : RJ w0 w' (w.heap.size + 1) (Ps.new T A m w.heap.size) [] num (fun _ => False) :=
  ⟨hI, hc, List.nodup_nil, fun q hq => absurd hq (by simp), fun _ => ⟨rfl, fun _ _ => rfl⟩, fun j hj => absurd hj (by show ¬ j + 1 < 0; omega), fun j _ e => absurd e (by show ¬ (0 : Int) = 1; omega), hb.trans (hb'.mono hb.size), fun k hk => (by
    have := hb.size
    rcases hk with e | e
    · omega
    · simp [Ps.lv, Ps.new, Value.ownBlock] at e), hb.size, fun _ h => h.elim, fun q hq => absurd hq (by simp), fun t _ e => absurd e (by show ¬ (0 : Int) = 2; omega)⟩
/-- how many are wanted -/
theorem Ps.wantsU_gath {P : Ps} {t : Nat} {x : PtT} (h : P.pl t ≠ 2) : ∀ k, ((P.gath t x).wantsU k).length + (if t < k then 1 else 0) = (P.wantsU k).length
  | 0 => by simp [Ps.wantsU]
  | k + 1 => by
    have ih := Ps.wantsU_gath (P := P) (x := x) h k
    rw [Ps.wantsU, Ps.wantsU]
    show (if (if k = t then (2 : Int) else P.pl k) = 2 then (P.gath t x).wantsU k else (P.gath t x).wantsU k ++ [(k : Int)]).length + _ = _
    by_cases e : k = t
    · subst e
      rw [if_pos (by rw [if_pos rfl]), if_neg h, if_pos (by omega), List.length_append]
      rw [if_neg (by omega)] at ih
      simp; omega
    · rw [if_neg e]
      by_cases h2 : P.pl k = 2
      · rw [if_pos h2, if_pos h2]
        by_cases e2 : t < k
        · rw [if_pos e2] at ih; rw [if_pos (by omega)]; exact ih
        · rw [if_neg e2] at ih; rw [if_neg (by omega)]; exact ih
      · rw [if_neg h2, if_neg h2, List.length_append, List.length_append]
        by_cases e2 : t < k
        · rw [if_pos e2] at ih; rw [if_pos (by omega)]; simp; omega
        · rw [if_neg e2] at ih; rw [if_neg (by omega)]; simp; omega
theorem Ps.wantsU_same {P Q : Ps} : ∀ k, (∀ j, j < k → (Q.pl j = 2 ↔ P.pl j = 2)) → Q.wantsU k = P.wantsU k
  | 0, _ => rfl
  | k + 1, h => by
    rw [Ps.wantsU, Ps.wantsU, Ps.wantsU_same k (fun j hj => h j (by omega))]
    by_cases e : P.pl k = 2
    · rw [if_pos e, if_pos ((h k (by omega)).2 e)]
    · rw [if_neg e, if_neg (fun e2 => e ((h k (by omega)).1 e2))]
theorem Ps.wantsU_all {P : Ps} : ∀ k, (∀ j, j < k → P.pl j ≠ 2) → (P.wantsU k).length = k
  | 0, _ => rfl
  | k + 1, h => by
    rw [Ps.wantsU, if_neg (h k (by omega)), List.length_append, Ps.wantsU_all k (fun j hj => h j (by omega))]
    rfl
theorem Ps.wantsU_some {P : Ps} : ∀ k, P.wantsU k ≠ [] → ∃ j, j < k ∧ P.pl j ≠ 2
  | 0, h => absurd rfl h
  | k + 1, h => by
    by_cases e : P.pl k = 2
    · rw [Ps.wantsU, if_pos e] at h
      obtain ⟨j, hj, h2⟩ := Ps.wantsU_some k h
      exact ⟨j, by omega, h2⟩
    · exact ⟨k, by omega, e⟩
end Go.Proofs.Ytldkepokcbjlpaa
