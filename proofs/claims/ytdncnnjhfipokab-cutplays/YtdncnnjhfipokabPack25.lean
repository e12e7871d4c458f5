import Derived.Test.YtdncnnjhfipokabKrH
namespace Go.Proofs.Ytdncnnjhfipokab
open Go.RowKit
set_option maxRecDepth 8000
theorem LT.push_item {α : Type} (l : LT α) (p : Option Addr) (c : Nat) (u : α) {j : Nat} (h : j < l.n) : (l.push p c u).item j = l.item j := by simp only [LT.push]; rw [if_pos h]
theorem LT.push_last {α : Type} (l : LT α) (p : Option Addr) (c : Nat) (u : α) : (l.push p c u).item l.n = u := by simp only [LT.push]; rw [if_neg (by omega)]
theorem Rb.push_item {R : Rb} {pp : Option Addr} {c : Nat} {t : TD} {j : Nat} (h : j < R.ls.n) : (R.push pp c t).ls.item j = R.ls.item j := LT.push_item _ _ _ _ h
theorem Rb.push_last {R : Rb} {pp : Option Addr} {c : Nat} {t : TD} : (R.push pp c t).ls.item R.ls.n = t := LT.push_last _ _ _ _
theorem Rb.push_n {R : Rb} {pp : Option Addr} {c : Nat} {t : TD} : (R.push pp c t).ls.n = R.ls.n + 1 := rfl
/-- the new thing's own hit -/
def Rb.hitT (R : Rb) (t : TD) (p : Int) : Bool := (t.mark == R.last) && (decide (0 < t.mark) && (t.port == p))
theorem Rb.push_cl {R : Rb} {pp : Option Addr} {c : Nat} {t : TD} (p : Int) : (R.push pp c t).cl p = if 0 ≤ R.cl p then R.cl p else if R.hitT t p then (R.ls.n : Int) else -1 := by
  unfold Rb.cl
  rw [Rb.push_n]
  have e : cln ((R.push pp c t).hit p) R.ls.n = cln (R.hit p) R.ls.n := cln_congr fun j hj => by
    unfold Rb.hit; rw [Rb.push_item hj]; rfl
  have e2 : (R.push pp c t).hit p R.ls.n = R.hitT t p := by unfold Rb.hit Rb.hitT; rw [Rb.push_last]; rfl
  simp only [cln, e, e2]
theorem Rb.push_cl_no {R : Rb} {pp : Option Addr} {c : Nat} {t : TD} {p : Int} (h : R.hitT t p = false) : (R.push pp c t).cl p = R.cl p := by
  rw [Rb.push_cl, h]
  rcases R.cl_range p with e | e
  · rw [e]; rfl
  · rw [if_pos e.1]
theorem Rb.push_cl_yes {R : Rb} {pp : Option Addr} {c : Nat} {t : TD} {p : Int} (h : R.hitT t p = true) (hc : R.cl p < 0) : (R.push pp c t).cl p = (R.ls.n : Int) := by
  rw [Rb.push_cl, h, if_neg (by omega), if_pos rfl]
theorem Rb.cpg_congr {R R' : Rb} (hb : R'.back = R.back) : ∀ {k : Nat}, (∀ p : Nat, p < k → (p : Int) ≠ R.back → R'.cl (p : Int) = R.cl (p : Int)) → R'.cpg k = R.cpg k
  | 0, _ => rfl
  | k + 1, h => by
    simp only [Rb.cpg, hb]
    rw [Rb.cpg_congr hb (k := k) (fun p hp hne => h p (by omega) hne)]
    split
    · rfl
    · rename_i hne; rw [h k (by omega) hne]
theorem Rb.cpg_iff {R : Rb} : ∀ {k : Nat}, 0 ≤ R.cpg k ↔ ∀ p : Nat, p < k → (p : Int) = R.back ∨ 0 ≤ R.cl (p : Int)
  | 0 => ⟨fun _ p hp => absurd hp (by omega), fun _ => Int.le_refl _⟩
  | k + 1 => by
    have ih := Rb.cpg_iff (R := R) (k := k)
    simp only [Rb.cpg]
    by_cases hb : (k : Int) = R.back
    · rw [if_pos hb, ih]
      constructor
      · intro h p hp
        rcases Nat.lt_or_ge p k with h1 | h1
        · exact h p h1
        · left; rw [show p = k by omega]; exact hb
      · intro h p hp; exact h p (by omega)
    · rw [if_neg hb]
      by_cases h1 : R.cpg k < 0
      · rw [if_pos h1]
        constructor
        · intro h; omega
        · intro h
          have := ih.2 (fun p hp => h p (by omega))
          omega
      · rw [if_neg h1]
        have h2 := ih.1 (by omega)
        by_cases h3 : R.cl (k : Int) < 0
        · rw [if_pos h3]
          constructor
          · intro h; omega
          · intro h
            rcases h k (by omega) with h4 | h4
            · exact absurd h4 hb
            · omega
        · rw [if_neg h3]
          constructor
          · intro _ p hp
            rcases Nat.lt_or_ge p k with h4 | h4
            · exact h2 p h4
            · right; rw [show p = k by omega]; omega
          · intro _; omega
theorem Rb.cpg_ge {R : Rb} {q : Nat} (hq : (q : Int) ≠ R.back) : ∀ {k : Nat}, q < k → 0 ≤ R.cpg k → R.cl (q : Int) ≤ R.cpg k
  | 0, h, _ => absurd h (by omega)
  | k + 1, h, h0 => by
    simp only [Rb.cpg] at h0 ⊢
    by_cases hb : (k : Int) = R.back
    · rw [if_pos hb] at h0 ⊢
      have hqk : q ≠ k := fun e => hq (by rw [e]; exact hb)
      exact Rb.cpg_ge hq (by omega) h0
    · rw [if_neg hb] at h0 ⊢
      by_cases h1 : R.cpg k < 0
      · rw [if_pos h1] at h0; omega
      · rw [if_neg h1] at h0 ⊢
        by_cases h3 : R.cl (k : Int) < 0
        · rw [if_pos h3] at h0; omega
        · rw [if_neg h3]
          rcases Nat.lt_or_ge q k with h4 | h4
          · have := Rb.cpg_ge hq h4 (by omega); omega
          · rw [show q = k by omega]; omega
theorem Rb.recs_congr {R R' : Rb} {p c : Int} : ∀ {k : Nat}, (∀ j, j < k → R'.ls.item j = R.ls.item j) → R'.recs p c k = R.recs p c k
  | 0, _ => rfl
  | k + 1, h => by simp only [Rb.recs]; rw [Rb.recs_congr (k := k) (fun j hj => h j (by omega)), h k (by omega)]
/-- the log of a port, closed or not -/
def Rb.logO (R : Rb) (p : Int) : List RT := if 0 ≤ R.cl p then R.logL p else R.recs p R.cp R.ls.n
theorem Rb.push_recs {R : Rb} {pp : Option Addr} {c : Nat} {t : TD} {p d : Int} {k : Nat} (h : k ≤ R.ls.n) : (R.push pp c t).recs p d k = R.recs p d k := Rb.recs_congr fun _ hj => Rb.push_item (by omega)
theorem Rb.push_recs1 {R : Rb} {pp : Option Addr} {c : Nat} {t : TD} {p d : Int} : (R.push pp c t).recs p d (R.ls.n + 1) = R.recs p d R.ls.n ++ (if d < (R.ls.n : Int) ∧ t.mark = 0 ∧ t.port = p then [t.r] else []) := by
  simp only [Rb.recs]
  rw [Rb.push_recs (Nat.le_refl _), Rb.push_last]
/-- what is closed already stays as it is -/
theorem Rb.push_logL {R : Rb} {pp : Option Addr} {c : Nat} {t : TD} {p : Int} (h : 0 ≤ R.cl p) (hcl : (R.push pp c t).cl p = R.cl p) (hcp : (R.push pp c t).cp = R.cp) : (R.push pp c t).logL p = R.logL p := by
  have hlt : (R.cl p).toNat < R.ls.n := by rcases R.cl_range p with e | e <;> omega
  unfold Rb.logL
  rw [hcl, hcp, Rb.push_recs (by omega), Rb.push_item hlt]
  rfl
theorem ofL_alk_nil {l : LT RT} (h : l.n = 0) : LT.Alk RT.Alike (ofL [] none 0) l := ⟨h, fun _ hj => absurd hj (Nat.not_lt_zero _)⟩
theorem ofL_n (L : List RT) : (ofL L none 0).n = L.length := rfl
theorem ofL_item {L : List RT} {j : Nat} (h : j < L.length) : (ofL L none 0).item j = L[j] := by
  show L.getD j rt0 = L[j]
  rw [List.getD_eq_getElem?_getD, List.getElem?_eq_getElem h]
  rfl
theorem ofL_alk_push {L : List RT} {l : LT RT} {p : Option Addr} {c : Nat} {u v : RT} (h : LT.Alk RT.Alike (ofL L none 0) l) (hu : RT.Alike u v) : LT.Alk RT.Alike (ofL (L ++ [u]) none 0) (l.push p c v) := by
  have hn : l.n = L.length := h.n
  refine ⟨by rw [ofL_n, List.length_append]; simp only [LT.push]; rw [hn]; rfl, fun j hj => ?_⟩
  rw [ofL_n] at hj
  rw [ofL_item hj]
  simp only [LT.push]
  by_cases h1 : j < L.length
  · rw [if_pos (by omega), List.getElem_append_left h1, ← ofL_item h1]
    exact h.item j h1
  · rw [if_neg (by omega), List.getElem_append_right (by omega)]
    simp only [List.length_append, List.length_singleton] at hj
    simpa [show j - L.length = 0 by omega] using hu
theorem ofL_alk_join {L : List RT} {l m a : LT RT} {p : Option Addr} {c : Nat} (h : LT.Alk RT.Alike (ofL L none 0) l) (hu : LT.Alk RT.Alike a m) : LT.Alk RT.Alike (ofL (L ++ a.toL) none 0) (l.join m p c) := by
  have hn : l.n = L.length := h.n
  have hm := hu.n
  have hal : a.toL.length = a.n := by simp [LT.toL]
  refine ⟨by rw [ofL_n, List.length_append]; simp only [LT.join]; omega, fun j hj => ?_⟩
  rw [ofL_n] at hj
  rw [ofL_item hj]
  simp only [LT.join]
  by_cases h1 : j < L.length
  · rw [if_pos (by omega), List.getElem_append_left h1, ← ofL_item h1]
    exact h.item j h1
  · rw [if_neg (by omega), List.getElem_append_right (by omega), hn]
    simp only [List.length_append] at hj
    have := hu.item (j - L.length) (by omega)
    simpa [LT.toL] using this
end Go.Proofs.Ytdncnnjhfipokab

namespace Go.Proofs.Ytdncnnjhfipokab
open Go.RowKit
set_option maxRecDepth 8000
/-- the book and the document's -/
structure EP (N : Nat) (K : Bk) (R : Rb) : Prop where
  mode : R.mode = K.mode
  ports : R.ports = K.ports
  back : R.back = K.back
  now : R.last = K.now
  st : ∀ p : Nat, p < 4 → (K.st p = 0 ↔ R.cl (p : Int) < 0)
  s2 : ∀ p : Nat, p < 4 → (K.st p = 2 ↔ (R.mode = 1 ∧ R.cp < 0 ∧ 0 ≤ R.cl (p : Int)))
  cp : K.cp = (decide (0 ≤ R.cp) && !R.hd)
  hd : R.hd = true → 0 ≤ R.cp ∧ ∀ p : Nat, p < N → 0 ≤ R.cl (p : Int)
  nl : R.cp < 0 → ∀ p : Nat, p < 4 → (K.lg p).n = 0
  lg : 0 ≤ R.cp → R.hd = false → ∀ p : Nat, p < 4 → LT.Alk RT.Alike (ofL (R.logO (p : Int)) none 0) (K.lg p)
  sn : 0 ≤ R.cp → R.hd = false → K.num = (R.ls.item R.cp.toNat).num ∧ LT.Alk VT.Alike (R.ls.item R.cp.toNat).l K.cl ∧ LT.Alk RT.Alike (R.ls.item R.cp.toNat).q K.pd
theorem EP.held {N : Nat} {K : Bk} {R : Rb} (e : EP N K R) (x : Int) (h0 : 0 ≤ x) (h4 : x < K.ports) (hp : K.ports ≤ 4) : R.heldB x = K.held x := by
  obtain ⟨i, rfl⟩ : ∃ i : Nat, x = (i : Int) := ⟨x.toNat, by omega⟩
  have h := e.s2 i (by omega)
  unfold Rb.heldB Bk.held
  rw [show K.has (i : Int) = true by unfold Bk.has; rw [decide_eq_true h0, decide_eq_true h4]; rfl, Bool.true_and, show ((i : Int)).toNat = i by omega]
  apply Bool.eq_iff_iff.2
  simp only [Bool.and_eq_true, beq_iff_eq, decide_eq_true_eq]
  exact h.symm
theorem EP.tookE {N : Nat} {K : Bk} {R : Rb} (e : EP N K R) (hp : K.ports ≤ 4) (x : Int) : R.tookE x = K.tookE x := by
  unfold Rb.tookE Bk.tookE
  by_cases h : x < 0 ∨ R.ports ≤ x
  · rw [if_pos h]
    have hh : K.has x = false := by
      unfold Bk.has
      rw [e.ports] at h
      rcases h with h | h
      · rw [decide_eq_false (by omega)]; rfl
      · rw [decide_eq_false (by omega : ¬ x < K.ports), Bool.and_false]
    rw [if_pos hh]
  · have hx : 0 ≤ x ∧ x < K.ports := by rw [e.ports] at h; omega
    have hh : K.has x = true := by unfold Bk.has; rw [decide_eq_true hx.1, decide_eq_true hx.2]; rfl
    rw [if_neg h, e.held x hx.1 hx.2 hp, hh]
    simp
theorem EP.refE {N : Nat} {K : Bk} {R : Rb} (e : EP N K R) (hp : K.ports ≤ 4) (x id : Int) : R.refE x id = K.refE x id := by
  unfold Rb.refE Bk.refE
  by_cases h : x < 0 ∨ R.ports ≤ x
  · rw [if_pos h]
    have hh : K.has x = false := by
      unfold Bk.has
      rw [e.ports] at h
      rcases h with h | h
      · rw [decide_eq_false (by omega)]; rfl
      · rw [decide_eq_false (by omega : ¬ x < K.ports), Bool.and_false]
    rw [if_pos hh]
  · have hx : 0 ≤ x ∧ x < K.ports := by rw [e.ports] at h; omega
    have hh : K.has x = true := by unfold Bk.has; rw [decide_eq_true hx.1, decide_eq_true hx.2]; rfl
    rw [if_neg h, e.held x hx.1 hx.2 hp, hh]
    simp
theorem tdT_no {R : Rb} {x p : Int} {u : RT} : R.hitT (tdT x u) p = false := by unfold Rb.hitT tdT; simp
theorem EP.took {N i : Nat} {K K' : Bk} {R : Rb} {r u : RT} {pp : Option Addr} {c : Nat} {w : World} {S : Nat → Prop} {w1 w1' : World} {b : Nat} (e : EP N K R) (hi : i < 4) (hn : 0 < R.ls.n) (hte : K.tookE (i : Int) = 0) (hu : RT.In w S u) (hal : RT.Alike r u) (q : TookQ (i : Int) r w1 b K w1' K') : EP N K' (R.push pp c (tdT (i : Int) u)) := by
  have htn : ((i : Int)).toNat = i := by omega
  have hcl : ∀ p : Int, (R.push pp c (tdT (i : Int) u)).cl p = R.cl p := fun p => Rb.push_cl_no tdT_no
  have hcp : (R.push pp c (tdT (i : Int) u)).cp = R.cp := by
    have h1 : ¬ (R.push pp c (tdT (i : Int) u)).ls.n = 0 := by rw [Rb.push_n]; omega
    have h2 : ¬ R.ls.n = 0 := by omega
    simp only [Rb.cp, if_neg h1, if_neg h2]
    rw [Rb.cpg_congr (R := R) (R' := R.push pp c (tdT (i : Int) u)) rfl (fun p _ _ => hcl p)]
    rfl
  have hlt : 0 ≤ R.cp → R.cp < (R.ls.n : Int) := fun _ => R.cp_lt hn
  have hit : 0 ≤ R.cp → (R.push pp c (tdT (i : Int) u)).ls.item R.cp.toNat = R.ls.item R.cp.toNat := fun h => Rb.push_item (by have := hlt h; omega)
  have hlo : ∀ p : Int, 0 ≤ R.cp → (R.push pp c (tdT (i : Int) u)).logO p = if 0 ≤ R.cl p then R.logO p else R.logO p ++ (if (i : Int) = p then [u] else []) := fun p h => by
    unfold Rb.logO
    rw [hcl, hcp]
    by_cases h1 : 0 ≤ R.cl p
    · rw [if_pos h1, if_pos h1, if_pos h1]
      exact Rb.push_logL h1 (hcl p) hcp
    · rw [if_neg h1, if_neg h1, if_neg h1, Rb.push_n, Rb.push_recs1]
      congr 1
      by_cases h2 : (i : Int) = p
      · rw [if_pos h2, if_pos ⟨hlt h, rfl, h2⟩]; rfl
      · rw [if_neg h2, if_neg (fun h => h2 h.2.2)]
  have hK : K'.mode = K.mode ∧ K'.ports = K.ports ∧ K'.back = K.back ∧ K'.now = K.now ∧ K'.st = K.st ∧ K'.cp = K.cp ∧ K'.num = K.num ∧ K'.cl = K.cl ∧ K'.pd = K.pd := by
    rcases h : K.lays (i : Int) with _ | _
    · rw [q.n h]; exact ⟨rfl, rfl, rfl, rfl, rfl, rfl, rfl, rfl, rfl⟩
    · obtain ⟨u1, p1, c1, _, _, rfl⟩ := q.y h
      exact ⟨rfl, rfl, rfl, rfl, rfl, rfl, rfl, rfl, rfl⟩
  obtain ⟨k1, k2, k3, k4, k5, k6, k7, k8, k9⟩ := hK
  have hly : K.lays (i : Int) = (K.cp && (K.st i == 0)) := by
    unfold Bk.lays
    rw [htn, Bk.has_took hte]
    have : K.held (i : Int) = false := by
      rcases h : K.held (i : Int) with _ | _
      · rfl
      · rw [Bk.tookE, if_neg (by rw [Bk.has_took hte]; decide), if_pos h] at hte; cases hte
    rw [this]; rfl
  refine ⟨e.mode.trans k1.symm, e.ports.trans k2.symm, e.back.trans k3.symm, e.now.trans k4.symm, fun p hp => ?_, fun p hp => ?_, ?_, fun h => ?_, fun h p hp => ?_, fun h h2 p hp => ?_, fun h h2 => ?_⟩
  · rw [k5, hcl]; exact e.st p hp
  · rw [k5, hcl, hcp]; exact e.s2 p hp
  · rw [k6, hcp]; exact e.cp
  · rw [hcp]; exact ⟨(e.hd h).1, fun p hp => by rw [hcl]; exact (e.hd h).2 p hp⟩
  · rw [hcp] at h
    rcases h3 : K.lays (i : Int) with _ | _
    · rw [q.n h3]; exact e.nl h p hp
    · rw [hly, e.cp, decide_eq_false (by omega)] at h3; cases h3
  · rw [hcp] at h
    have h2 : R.hd = false := h2
    have e0 := e.lg h h2 p hp
    rw [hlo p h]
    rcases h3 : K.lays (i : Int) with _ | _
    · rw [q.n h3]
      by_cases h1 : 0 ≤ R.cl (p : Int)
      · rw [if_pos h1]; exact e0
      · rw [if_neg h1]
        by_cases h4 : (i : Int) = (p : Int)
        · exfalso
          have h5 : i = p := by omega
          subst h5
          rw [hly, e.cp, decide_eq_true h, h2, beq_iff_eq.2 ((e.st i hp).2 (by omega))] at h3
          cases h3
        · rw [if_neg h4, List.append_nil]; exact e0
    · obtain ⟨u1, p1, c1, hal1, _, rfl⟩ := q.y h3
      rw [htn]
      simp only [Bk.setLog]
      by_cases h4 : p = i
      · subst h4
        have h5 : ¬ 0 ≤ R.cl (p : Int) := by
          rw [hly, Bool.and_eq_true, beq_iff_eq] at h3
          have := (e.st p hp).1 h3.2
          omega
        rw [if_pos rfl, if_neg h5, if_pos rfl]
        exact ofL_alk_push e0 (ra2 hu hal hal1)
      · rw [if_neg h4]
        by_cases h1 : 0 ≤ R.cl (p : Int)
        · rw [if_pos h1]; exact e0
        · rw [if_neg h1, if_neg (by omega), List.append_nil]; exact e0
  · rw [hcp] at h
    rw [hcp, hit h, k7, k8, k9]
    exact e.sn h h2
theorem EP.none {N i : Nat} {K K' : Bk} {R : Rb} {r : RT} {w1 w1' : World} {b : Nat} (e : EP N K R) (hn : ¬ K.tookE (i : Int) = 0 ∨ R.ls.n = 0) (q : TookQ (i : Int) r w1 b K w1' K') : EP N K' R := by
  have : K.lays (i : Int) = false := by
    rcases hn with h | h
    · exact Bk.lays_no h
    · have : R.cp = -1 := by unfold Rb.cp; rw [if_pos h]
      unfold Bk.lays
      rw [e.cp, this]
      simp
  rw [q.n this]; exact e
theorem EP.done {N : Nat} {K : Bk} {R : Rb} (e : EP N K R) (hN : N ≤ 4) (hp : K.ports = (N : Int)) : R.doneB N = (K.cp && !K.opn) := by
  unfold Rb.doneB
  rw [e.cp]
  congr 1
  unfold Bk.opn
  rw [show K.ports.toNat = N by omega]
  apply Bool.eq_iff_iff.2
  simp only [List.all_eq_true, List.mem_range, decide_eq_true_eq, Bool.not_eq_true', List.any_eq_false, beq_iff_eq]
  refine forall_congr' fun p => forall_congr' fun hlt => ?_
  have := e.st p (by omega)
  constructor
  · intro h h2; have := this.1 h2; omega
  · intro h
    rcases R.cl_range (p : Int) with h2 | h2
    · exact absurd (this.2 (by omega)) h
    · exact h2.1
theorem EP.part {N : Nat} {K : Bk} {R : Rb} (e : EP N K R) (h : R.doneB N = true) : EP N K.part R.hand := by
  unfold Rb.doneB at h
  simp only [Bool.and_eq_true, decide_eq_true_eq, List.all_eq_true, List.mem_range] at h
  have hc : R.hand.cp = R.cp := R.cp_hand
  refine ⟨e.mode, e.ports, e.back, e.now, e.st, fun p hp2 => by rw [hc]; exact e.s2 p hp2, ?_, fun _ => ⟨by rw [hc]; exact h.1.1, fun p hlt => h.2 p hlt⟩, fun h2 => by rw [hc] at h2; omega, fun _ h2 => (by cases h2), fun _ h2 => (by cases h2)⟩
  show false = (decide (0 ≤ R.hand.cp) && !true)
  simp
end Go.Proofs.Ytdncnnjhfipokab

namespace Go.Proofs.Ytdncnnjhfipokab
open Go.RowKit
set_option maxRecDepth 8000
/-- a marker that counts: from the two begun books on -/
theorem EP.shut {N i : Nat} {id : Int} {a a1 : LT RT} {num : Int} {l l1 : LT VT} {q q1 : LT RT} {w w' u : World} {S : Nat → Prop} {b : Nat} {K K' : Bk} {R : Rb} {pp : Option Addr} {c : Nat} (e : EP N K R) (hi : i < 4) (hiN : i < N) (hN4 : N ≤ 4) (hp : K.ports = (N : Int)) (hid : R.last = id) (h1 : 1 ≤ id) (hcl : R.cl (i : Int) < 0) (hhd : R.hd = false) (hQ : ShutQ i a num l q w b K w' K') (hT : TD.In u S (tdM (i : Int) id a1 num l1 q1)) (ha : LT.Alk RT.Alike a a1) (hl : LT.Alk VT.Alike l l1) (hq : LT.Alk RT.Alike q q1) :
    EP N K' (R.push pp c (tdM (i : Int) id a1 num l1 q1)) ∧ K.shutR i = (decide (R.cp < 0) && decide (0 ≤ (R.push pp c (tdM (i : Int) id a1 num l1 q1)).cp)) := by
  obtain ⟨R', hR'⟩ : ∃ x, x = R.push pp c (tdM (i : Int) id a1 num l1 q1) := ⟨_, rfl⟩
  have hitY : R.hitT (tdM (i : Int) id a1 num l1 q1) (i : Int) = true := by
    unfold Rb.hitT tdM
    rw [hid]
    simp; omega
  have hitN : ∀ p : Nat, p ≠ i → R.hitT (tdM (i : Int) id a1 num l1 q1) (p : Int) = false := fun p hpi => by
    unfold Rb.hitT tdM
    have : ¬ (i : Int) = (p : Int) := by omega
    simp [this]
  have clI : R'.cl (i : Int) = (R.ls.n : Int) := by rw [hR']; exact Rb.push_cl_yes hitY hcl
  have clO : ∀ p : Nat, p ≠ i → R'.cl (p : Int) = R.cl (p : Int) := fun p hpi => by rw [hR']; exact Rb.push_cl_no (hitN p hpi)
  have hn' : R'.ls.n = R.ls.n + 1 := by rw [hR']; rfl
  have hm' : R'.mode = R.mode := by rw [hR']; rfl
  have hb' : R'.back = R.back := by rw [hR']; rfl
  have hpt : R.ports.toNat = N := by rw [e.ports, hp]; omega
  have hp' : R'.ports.toNat = N := by rw [hR']; exact hpt
  have cp' : R'.cp = if R.mode ≠ 1 then 0 else R'.cpg N := by
    have h2 : ¬ R'.ls.n = 0 := by omega
    simp only [Rb.cp, if_neg h2, hm', hp']
  have cp0 : ¬ R.ls.n = 0 → R.cp = if R.mode ≠ 1 then 0 else R.cpg N := fun h2 => by simp only [Rb.cp, if_neg h2, hpt]
  have cpz : R.ls.n = 0 → R.cp = -1 := fun h2 => by unfold Rb.cp; rw [if_pos h2]
  have clt : ∀ p : Nat, R'.cl (p : Int) < 0 ↔ (R.cl (p : Int) < 0 ∧ p ≠ i) := fun p => by
    by_cases h2 : p = i
    · subst h2; rw [clI]; constructor
      · intro h; omega
      · intro h; exact absurd rfl h.2
    · rw [clO p h2]; exact ⟨fun h => ⟨h, h2⟩, fun h => h.1⟩
  -- the copy
  have cB : 0 ≤ R.cp → 0 ≤ R'.cp := fun h => by
    have h0 : ¬ R.ls.n = 0 := fun h2 => by rw [cpz h2] at h; omega
    rw [cp'] ; rw [cp0 h0] at h
    by_cases hm : R.mode ≠ 1
    · rw [if_pos hm]; exact Int.le_refl _
    · rw [if_neg hm] at h ⊢
      rw [Rb.cpg_iff] at h ⊢
      intro p hlt
      rw [hb']
      rcases h p hlt with h2 | h2
      · exact .inl h2
      · right
        by_cases h3 : p = i
        · subst h3; rw [clI]; omega
        · rw [clO p h3]; exact h2
  have cD : 0 ≤ R.cp → R'.cp = R.cp := fun h => by
    have h0 : ¬ R.ls.n = 0 := fun h2 => by rw [cpz h2] at h; omega
    rw [cp', cp0 h0]; rw [cp0 h0] at h
    by_cases hm : R.mode ≠ 1
    · rw [if_pos hm, if_pos hm]
    · rw [if_neg hm] at h
      rw [if_neg hm, if_neg hm]
      rw [Rb.cpg_iff] at h
      have hib : (i : Int) = R.back := by
        rcases h i hiN with h2 | h2
        · exact h2
        · omega
      exact Rb.cpg_congr hb' fun p _ hne => clO p (fun h2 => hne (by rw [h2]; exact hib))
  have cC : R.cp < 0 → 0 ≤ R'.cp → R'.cp = (R.ls.n : Int) := fun h h2 => by
    have hlt := R'.cp_lt (by omega)
    by_cases hm : R.mode ≠ 1
    · have h0 : R.ls.n = 0 := by
        rcases Nat.eq_zero_or_pos R.ls.n with h3 | h3
        · exact h3
        · rw [cp0 (by omega), if_pos hm] at h; omega
      rw [cp', if_pos hm]; omega
    · rw [cp', if_neg hm] at h2 hlt ⊢
      by_cases hib : (i : Int) = R.back
      · have hcg : R'.cpg N = R.cpg N := Rb.cpg_congr hb' fun p _ hne => clO p (fun h3 => hne (by rw [h3]; exact hib))
        rcases Nat.eq_zero_or_pos R.ls.n with h3 | h3
        · omega
        · rw [cp0 (by omega), if_neg hm, ← hcg] at h; omega
      · have := Rb.cpg_ge (R := R') (q := i) (by rw [hb']; exact hib) hiN h2
        rw [clI] at this
        omega
  have hKcp : K.cp = decide (0 ≤ R.cp) := by rw [e.cp, hhd]; simp
  have hAl : K.mode = 1 → (K.setSt i 2).alig = decide (0 ≤ R'.cp) := fun hm => by
    have hm2 : ¬ R.mode ≠ 1 := by rw [e.mode, hm]; simp
    rw [cp', if_neg hm2]
    apply Bool.eq_iff_iff.2
    rw [decide_eq_true_eq, Rb.cpg_iff]
    unfold Bk.alig
    rw [show (K.setSt i 2).ports = K.ports from rfl, show K.ports.toNat = N by omega, List.all_eq_true]
    constructor
    · intro h p hlt
      have h2 := h p (List.mem_range.2 hlt)
      unfold Bk.okP at h2
      rw [hb', e.back]
      simp only [Bk.setSt, Bool.or_eq_true, beq_iff_eq, Bool.not_eq_true', beq_eq_false_iff_ne] at h2
      rcases h2 with h2 | h2
      · exact .inl h2
      · right
        by_cases h3 : p = i
        · subst h3; rw [clI]; omega
        · rw [if_neg h3] at h2
          rw [clO p h3]
          have := e.st p (by omega)
          rcases R.cl_range (p : Int) with h4 | h4
          · exact absurd (this.2 (by omega)) h2
          · exact h4.1
    · intro h p hlt
      have hlt := List.mem_range.1 hlt
      unfold Bk.okP
      simp only [Bk.setSt, Bool.or_eq_true, beq_iff_eq, Bool.not_eq_true', beq_eq_false_iff_ne]
      rcases h p hlt with h2 | h2
      · left; rw [hb', e.back] at h2; exact h2
      · right
        by_cases h3 : p = i
        · rw [if_pos h3]; decide
        · rw [if_neg h3]
          rw [clO p h3] at h2
          intro h4
          have := (e.st p (by omega)).1 h4
          omega
  have hR : K.shutR i = (decide (R.cp < 0) && decide (0 ≤ R'.cp)) := by
    unfold Bk.shutR
    by_cases hm : K.mode = 1
    · rw [if_pos hm, hAl hm, hKcp]
      by_cases h2 : 0 ≤ R.cp
      · rw [decide_eq_true h2, decide_eq_false (by omega : ¬ R.cp < 0)]; simp
      · rw [decide_eq_false h2, decide_eq_true (by omega : R.cp < 0)]; simp
    · rw [if_neg hm, hKcp]
      have h3 : 0 ≤ R'.cp := by rw [cp', if_pos (by rw [e.mode]; exact hm)]; exact Int.le_refl _
      rw [decide_eq_true h3]
      by_cases h2 : 0 ≤ R.cp
      · rw [decide_eq_true h2, decide_eq_false (by omega : ¬ R.cp < 0)]; rfl
      · rw [decide_eq_false h2, decide_eq_true (by omega : R.cp < 0)]; rfl
  rw [← hR']
  refine ⟨?_, hR⟩
  have hzero : ∀ p, K'.st p = 0 ↔ (K.st p = 0 ∧ p ≠ i) := fun p => by rw [hQ.st]; exact Bk.shutS_zero _ _ _
  have hhd' : R'.hd = false := by rw [hR']; exact hhd
  have hm3 : R.mode = 3 ↔ K.mode = 3 := by rw [e.mode]
  refine ⟨by rw [hm', e.mode, hQ.b.mode], by rw [hR', hQ.b.ports]; exact e.ports, by rw [hb', e.back, hQ.b.back], by rw [hR', hQ.b.now]; exact e.now, fun p hp4 => ?_, fun p hp4 => ?_, ?_, fun h => absurd (hhd'.symm.trans h) (by decide), fun h p hp4 => ?_, fun h _ p hp4 => ?_, fun h _ => ?_⟩
  · rw [hzero, clt, e.st p hp4]
  · rw [hm']
    by_cases hm : K.mode = 1
    · have hmR : R.mode = 1 := by rw [e.mode]; exact hm
      obtain ⟨t1, t2⟩ := Bk.shutS_two K hm i p hp4
      rw [hQ.st]
      rcases hA : (K.setSt i 2).alig with _ | _
      · have hneg : R'.cp < 0 := by rw [hAl hm] at hA; have := of_decide_eq_false hA; omega
        have hneg0 : R.cp < 0 := by
          rcases R.cp_range with h2 | h2
          · omega
          · have := cB h2; omega
        rw [t2 hA]
        by_cases hpi : p = i
        · subst hpi
          rw [if_pos rfl, clI]
          exact ⟨fun _ => ⟨hmR, hneg, by omega⟩, fun _ => rfl⟩
        · rw [if_neg hpi, clO p hpi, e.s2 p hp4]
          exact ⟨fun h => ⟨hmR, hneg, h.2.2⟩, fun h => ⟨hmR, hneg0, h.2.2⟩⟩
      · have hge : 0 ≤ R'.cp := by rw [hAl hm] at hA; exact of_decide_eq_true hA
        constructor
        · intro h; exact absurd h (t1 hA)
        · rintro ⟨_, h, _⟩; omega
    · have hmR : ¬ R.mode = 1 := by rw [e.mode]; exact hm
      constructor
      · intro h
        exfalso
        rw [hQ.st, Bk.shutS, if_neg hm] at h
        simp only [Bk.setSt] at h
        by_cases hpi : p = i
        · rw [if_pos hpi] at h; cases h
        · rw [if_neg hpi] at h
          exact hmR ((e.s2 p hp4).1 h).1
      · rintro ⟨h, _⟩; exact absurd h hmR
  · rw [hQ.b.cp, hKcp, hR, hhd']
    by_cases h2 : 0 ≤ R.cp
    · rw [decide_eq_true h2, decide_eq_true (cB h2)]; rfl
    · rw [decide_eq_false h2, decide_eq_true (by omega : R.cp < 0)]; simp
  · have hm : K.mode = 1 := by
      by_cases h2 : K.mode = 1
      · exact h2
      · rw [cp', if_pos (by rw [e.mode]; exact h2)] at h; omega
    have hneg0 : R.cp < 0 := by
      rcases R.cp_range with h2 | h2
      · omega
      · have := cB h2; omega
    by_cases hpi : p = i
    · subst hpi; rw [hQ.b.lgi (by rw [hm]; decide)]; exact e.nl hneg0 p hp4
    · rw [hQ.b.lgo p hpi]; exact e.nl hneg0 p hp4
  · by_cases hneg : R.cp < 0
    · have hc := cC hneg h
      have hnl := e.nl hneg
      by_cases hcp : 0 ≤ R'.cl (p : Int)
      · have hrec : R'.recs (p : Int) R'.cp (R'.cl (p : Int)).toNat = [] := Rb.recs_le (by
          rcases R'.cl_range (p : Int) with h2 | h2
          · omega
          · rw [hc]; omega)
        have hlo : R'.logO (p : Int) = (if R'.mode = 3 then (R'.ls.item (R'.cl (p : Int)).toNat).a.toL else []) := by
          unfold Rb.logO Rb.logL
          rw [if_pos hcp, hrec, List.nil_append]
        rw [hlo]
        by_cases h3 : K.mode = 3
        · have hm1 : R.mode ≠ 1 := by rw [e.mode, h3]; decide
          have hn0 : R.ls.n = 0 := by
            rcases Nat.eq_zero_or_pos R.ls.n with h4 | h4
            · exact h4
            · rw [cp0 (by omega), if_pos hm1] at hneg; omega
          have hpi : p = i := by
            by_cases h4 : p = i
            · exact h4
            · rw [clO p h4] at hcp
              rcases R.cl_range (p : Int) with h5 | h5 <;> omega
          subst hpi
          rw [if_pos (by rw [hm']; exact hm3.2 h3), clI, show ((R.ls.n : Int)).toNat = R.ls.n by omega]
          have hlast : R'.ls.item R.ls.n = tdM (p : Int) id a1 num l1 q1 := by rw [hR']; exact Rb.push_last
          rw [hlast]
          obtain ⟨mm, p2, c2, f1, f2, _⟩ := hQ.b.lg3 h3
          rw [f1]
          have h9 := ofL_alk_join (L := []) (p := p2) (c := c2) (ofL_alk_nil (hnl p hp4)) (Alk.two ha f2 fun x hx g1 g2 => ra2 (hT.a.each x hx) g1 g2)
          rw [List.nil_append] at h9
          exact h9
        · rw [if_neg (by rw [hm']; exact fun h4 => h3 (hm3.1 h4))]
          by_cases hpi : p = i
          · subst hpi; rw [hQ.b.lgi h3]; exact ofL_alk_nil (hnl p hp4)
          · rw [hQ.b.lgo p hpi]; exact ofL_alk_nil (hnl p hp4)
      · have hpi : p ≠ i := fun h2 => by subst h2; rw [clI] at hcp; omega
        have hlo : R'.logO (p : Int) = [] := by
          unfold Rb.logO
          rw [if_neg hcp]
          exact Rb.recs_le (by rw [hc, hn']; omega)
        rw [hlo, hQ.b.lgo p hpi]
        exact ofL_alk_nil (hnl p hp4)
    · have hge : 0 ≤ R.cp := by omega
      have hc := cD hge
      have e0 := e.lg hge hhd p hp4
      by_cases hpi : p = i
      · subst hpi
        have hlo0 : R.logO (p : Int) = R.recs (p : Int) R.cp R.ls.n := by unfold Rb.logO; rw [if_neg (by omega)]
        have hlast : R'.ls.item R.ls.n = tdM (p : Int) id a1 num l1 q1 := by rw [hR']; exact Rb.push_last
        have hlo : R'.logO (p : Int) = R.recs (p : Int) R.cp R.ls.n ++ (if R.mode = 3 then a1.toL else []) := by
          unfold Rb.logO Rb.logL
          rw [if_pos (by rw [clI]; omega), clI, show ((R.ls.n : Int)).toNat = R.ls.n by omega, hc, hlast, hm', hR', Rb.push_recs (Nat.le_refl _)]
          rfl
        rw [hlo]
        rw [hlo0] at e0
        by_cases h3 : K.mode = 3
        · obtain ⟨mm, p2, c2, f1, f2, _⟩ := hQ.b.lg3 h3
          rw [f1, if_pos (hm3.2 h3)]
          exact ofL_alk_join e0 (Alk.two ha f2 fun x hx g1 g2 => ra2 (hT.a.each x hx) g1 g2)
        · rw [hQ.b.lgi h3, if_neg (fun h4 => h3 (hm3.1 h4)), List.append_nil]; exact e0
      · rw [hQ.b.lgo p hpi]
        have hlo : R'.logO (p : Int) = R.logO (p : Int) := by
          unfold Rb.logO
          rw [clO p hpi]
          by_cases h2 : 0 ≤ R.cl (p : Int)
          · rw [if_pos h2, if_pos h2, hR']
            exact Rb.push_logL h2 (by rw [← hR']; exact clO p hpi) (by rw [← hR']; exact hc)
          · rw [if_neg h2, if_neg h2, hc, hn', hR', Rb.push_recs1, if_neg (fun h3 => by have h4 : id = 0 := h3.2.1; omega), List.append_nil]
        rw [hlo]; exact e0
  · by_cases hneg : R.cp < 0
    · have hc := cC hneg h
      have hsr : K.shutR i = true := by rw [hR, decide_eq_true hneg, decide_eq_true h]; rfl
      obtain ⟨g1, g2, g3, _, _⟩ := hQ.b.cpd hsr
      have hlast : R'.ls.item R.ls.n = tdM (i : Int) id a1 num l1 q1 := by rw [hR']; exact Rb.push_last
      rw [hc, show ((R.ls.n : Int)).toNat = R.ls.n by omega, hlast]
      exact ⟨g1, Alk.two hl g2 fun x hx k1 k2 => va2 (hT.l.each x hx) k1 k2, Alk.two hq g3 fun x hx k1 k2 => ra2 (hT.q.each x hx) k1 k2⟩
    · have hge : 0 ≤ R.cp := by omega
      have hc := cD hge
      have hsr : K.shutR i = false := by rw [hR, decide_eq_false hneg]; rfl
      have h0 : 0 < R.ls.n := by
        rcases Nat.eq_zero_or_pos R.ls.n with h2 | h2
        · rw [cpz h2] at hge; omega
        · exact h2
      have hlt := R.cp_lt h0
      obtain ⟨g1, g2, g3⟩ := hQ.b.ncp hsr
      rw [hc, g1, g2, g3, show R'.ls.item R.cp.toNat = R.ls.item R.cp.toNat from by rw [hR']; exact Rb.push_item (by omega)]
      exact e.sn hge hhd
theorem EP.begin {N : Nat} {K : Bk} {R : Rb} {id : Int} (e : EP N K R) : EP N (K.begin id) (R.begin id) := by
  have hcl : ∀ p : Int, (R.begin id).cl p = -1 := fun _ => rfl
  have hcp : (R.begin id).cp = -1 := if_pos rfl
  refine ⟨e.mode, e.ports, e.back, rfl, fun p _ => by rw [hcl]; simp [Bk.begin], fun p _ => by rw [hcl]; simp [Bk.begin], by rw [hcp]; rfl, fun h => (by cases h), fun _ _ _ => rfl, fun h => (by rw [hcp] at h; omega), fun h => (by rw [hcp] at h; omega)⟩
theorem EP.mark {N i : Nat} {id : Int} {a : LT RT} {num : Int} {l : LT VT} {q : LT RT} {w w' u u' : World} {b rb : Nat} {K K' : Bk} {R R' : Rb} {r r2 : Bool} (e : EP N K R) (hi : i < 4) (hiN : i < N) (hN4 : N ≤ 4) (hp : K.ports = (N : Int)) (hre : K.refE (i : Int) id = 0) (m : MarkQ (i : Int) id a num l q w b K w' K' r) (m2 : RMarkQ (i : Int) id a num l q u rb R u' R' r2) : EP N K' R' ∧ r = r2 := by
  have htn : ((i : Int)).toNat = i := by omega
  have hre2 : R.refE (i : Int) id = 0 := by rw [e.refE (by omega)]; exact hre
  have hid0 : 1 ≤ id := by
    have h := hre
    rw [Bk.refE, if_neg (by rw [Bk.has_ref hre]; decide)] at h
    by_cases h2 : id < 1 ∨ 9999 < id
    · rw [if_pos h2] at h; cases h
    · omega
  have hsk : K.marks (i : Int) id = true ↔ ¬ R.skip (i : Int) id := by
    unfold Bk.marks Rb.skip
    rw [hre, htn, e.now]
    have hst := e.st i hi
    simp only [beq_self_eq_true, Bool.true_and, Bool.or_eq_true, decide_eq_true_eq, Bool.and_eq_true, beq_iff_eq]
    constructor
    · rintro (h | ⟨h2, h3⟩) (h4 | ⟨h4, h5⟩)
      · omega
      · omega
      · omega
      · have := hst.1 h3; omega
    · intro h
      rcases (by omega : K.now < id ∨ id = K.now ∨ id < K.now) with h2 | h2 | h2
      · exact .inl h2
      · right
        refine ⟨h2, hst.2 ?_⟩
        rcases R.cl_range (i : Int) with h3 | h3
        · omega
        · exact absurd (.inr ⟨h2, h3.1⟩) h
      · exact absurd (.inl h2) h
  rcases hk : K.marks (i : Int) id with _ | _
  · have hs : R.skip (i : Int) id := by
      by_cases h : R.skip (i : Int) id
      · exact h
      · rw [hsk.2 h] at hk; cases hk
    obtain ⟨g1, g2⟩ := m.n hk
    obtain ⟨g3, g4⟩ := m2.n (.inr hs)
    rw [g1, g2, g3, g4]
    exact ⟨e, rfl⟩
  · obtain ⟨w1, _, hr, hQ⟩ := m.y hk
    obtain ⟨a1, l1, q1, pp, c, ha, hl, hq, hT, hR', hr2⟩ := m2.y hre2 (hsk.1 hk)
    rw [htn] at hr hQ
    rw [hR', hr, hr2, hR']
    have hb : EP N (K.base id) (R.base id) ∧ (R.base id).last = id ∧ (R.base id).cl (i : Int) < 0 ∧ (R.base id).hd = false ∧ (K.base id).ports = K.ports := by
      unfold Bk.base Rb.base
      rw [e.now]
      split
      · exact ⟨e.begin, rfl, by show (-1 : Int) < 0; decide, rfl, rfl⟩
      · rename_i hgt
        have hns := hsk.1 hk
        simp only [Bk.marks, htn, Bool.and_eq_true, Bool.or_eq_true, decide_eq_true_eq, beq_iff_eq] at hk
        rcases hk.2 with h2 | h2
        · exact absurd h2 hgt
        · have hlt := (e.st i hi).1 h2.2
          refine ⟨e, by rw [e.now]; exact h2.1.symm, hlt, ?_, rfl⟩
          rcases h3 : R.hd with _ | _
          · rfl
          · have := (e.hd h3).2 i hiN; omega
    obtain ⟨e0, hla, hcl, hhd, hpo⟩ := hb
    exact e0.shut hi hiN hN4 (by rw [hpo]; exact hp) hla hid0 hcl hhd hQ hT ha hl hq
end Go.Proofs.Ytdncnnjhfipokab
