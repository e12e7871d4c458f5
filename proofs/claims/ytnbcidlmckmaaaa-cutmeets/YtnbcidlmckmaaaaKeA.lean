import Derived.Test.YtnbcidlmckmaaaaKcE
namespace Go.Proofs.Ytnbcidlmckmaaaa
open Go.RowKit
set_option maxRecDepth 8000
theorem SetLog.out {w w' : World} {b k : Nat} {K K' : Bk} (g : SetLog w b K w' K') (hk : k < w.heap.size) (hn : ¬ K.C b k) : w'.heap[k]? = w.heap[k]? ∧ ¬ K'.C b k ∧ k < w'.heap.size :=
  ⟨g.but.block k hk hn, fun e => by rcases g.cs k e with h | h; exact hn h; omega, Nat.lt_of_lt_of_le hk g.but.size⟩
theorem Bok.lift {w0 w w' : World} {b : Nat} {K : Bk} (h : Bok w w' b K) (g : Below w0.heap.size w0 w) : Bok w0 w' b K :=
  ⟨h.i, g.trans (h.bel.mono g.size), fun k hk => Nat.le_trans g.size (h.c k hk)⟩
/-- how many of N are not done -/
def cntU (d : Nat → Bool) (N : Nat) : Nat := ((List.range N).map fun p => if d p then 0 else 1).sum
theorem cntU_succ (d : Nat → Bool) (N : Nat) : cntU d (N + 1) = cntU d N + if d N then 0 else 1 := by simp [cntU, List.range_succ]
theorem cntU_all (d : Nat → Bool) : ∀ N, cntU d N = 0 → ∀ p, p < N → d p = true := by
  intro N
  induction N with
  | zero => intro _ p hp; omega
  | succ N ih =>
    intro h p hp
    rw [cntU_succ] at h
    rcases Nat.lt_or_ge p N with h1 | h1
    · exact ih (by omega) p h1
    · obtain rfl : p = N := by omega
      rcases e : d p with _ | _
      · rw [e] at h; simp at h
      · rfl
theorem cntU_le (d : Nat → Bool) : ∀ N, cntU d N ≤ N := by
  intro N
  induction N with
  | zero => exact Nat.le_refl _
  | succ N ih => rw [cntU_succ]; split <;> omega
def setD (d : Nat → Bool) (p : Nat) : Nat → Bool := fun q => if q = p then true else d q
theorem cntU_out (d : Nat → Bool) (p : Nat) : ∀ N, N ≤ p → cntU (setD d p) N = cntU d N := by
  intro N
  induction N with
  | zero => intro _; rfl
  | succ N ih => intro h; rw [cntU_succ, cntU_succ, ih (by omega)]; simp only [setD, if_neg (show ¬ N = p by omega)]
theorem cntU_set (d : Nat → Bool) (p : Nat) (hd : d p = false) : ∀ N, p < N → cntU (setD d p) N + 1 = cntU d N := by
  intro N
  induction N with
  | zero => intro h; omega
  | succ N ih =>
    intro h
    rw [cntU_succ, cntU_succ]
    by_cases e : N = p
    · subst e; rw [cntU_out d N N (Nat.le_refl _)]; simp [setD, hd]
    · have := ih (by omega); simp only [setD, if_neg e] at this ⊢; omega
/-- the book while the last snapshot's markers come -/
structure MJ (K : Bk) (old : Int) (N : Nat) (d : Nat → Bool) : Prop where
  ports : K.ports = (N : Int)
  o0 : 0 ≤ old
  o1 : old < 9999
  a : (∀ p, p < N → d p = false) → K.now = old ∧ ∀ p : Nat, p < N → K.held (p : Int) = false
  b : (∃ p, p < N ∧ d p = true) → K.now = old + 1 ∧ (∀ p, p < N → (K.st p = 0 ↔ d p = false)) ∧ (K.cp = true → K.num = 5) ∧ (K.cp = true ∨ (K.mode = 1 ∧ K.alig = false))
theorem MJ.cases {K : Bk} {old : Int} {N : Nat} {d : Nat → Bool} (_ : MJ K old N d) : (∀ p, p < N → d p = false) ∨ ∃ p, p < N ∧ d p = true := by
  by_cases h : ∃ p, p < N ∧ d p = true
  · exact .inr h
  · refine .inl fun p hp => ?_
    rcases e : d p with _ | _
    · rfl
    · exact absurd ⟨p, hp, e⟩ h
theorem MJ.hasP {K : Bk} {old : Int} {N : Nat} {d : Nat → Bool} (j : MJ K old N d) {p : Nat} (hp : p < N) : K.has (p : Int) = true := by
  simp only [Bk.has, Bool.and_eq_true, decide_eq_true_eq]; rw [j.ports]; omega
theorem MJ.held {K : Bk} {old : Int} {N : Nat} {d : Nat → Bool} (j : MJ K old N d) {p : Nat} (hp : p < N) (hd : d p = false) : K.held (p : Int) = false := by
  rcases j.cases with h | h
  · exact (j.a h).2 p hp
  · have := ((j.b h).2.1 p hp).2 hd
    simp [Bk.held, this]
theorem MJ.tookE {K : Bk} {old : Int} {N : Nat} {d : Nat → Bool} (j : MJ K old N d) {p : Nat} (hp : p < N) (hd : d p = false) : K.tookE (p : Int) = 0 := by
  rw [Bk.tookE, if_neg (by rw [j.hasP hp]; decide), if_neg (by rw [j.held hp hd]; decide)]
theorem MJ.took {x : Int} {r : RT} {w w' : World} {b : Nat} {K K' : Bk} {old : Int} {N : Nat} {d : Nat → Bool} (j : MJ K old N d) (q : TookQ x r w b K w' K') : MJ K' old N d := by
  rcases e : K.lays x with _ | _
  · rw [q.n e]; exact j
  · obtain ⟨u, p, cc, _, _, rfl⟩ := q.y e
    exact ⟨j.ports, j.o0, j.o1, j.a, j.b⟩
theorem Bk.shutS_zero (K : Bk) (p q : Nat) : K.shutS p q = 0 ↔ (K.st q = 0 ∧ q ≠ p) := by
  unfold Bk.shutS
  by_cases hm : K.mode = 1
  · rw [if_pos hm]
    split
    · simp only [Bk.rel, Bk.setSt]
      by_cases h : q = p
      · subst h; simp; omega
      · simp only [if_neg h]
        by_cases h2 : K.st q = 2
        · simp [h, h2]; omega
        · simp [h, h2]
    · simp only [Bk.setSt]
      by_cases h : q = p
      · subst h; simp
      · simp [h]
  · rw [if_neg hm]
    simp only [Bk.setSt]
    by_cases h : q = p
    · subst h; simp
    · simp [h]
theorem MJ.mark {p : Nat} {a : LT RT} {l : LT VT} {q : LT RT} {w w' : World} {b : Nat} {K K' : Bk} {r : Bool} {old : Int} {N : Nat} {d : Nat → Bool} (j : MJ K old N d) (hp : p < N) (hd : d p = false) (m : MarkQ (p : Int) (old + 1) a 5 l q w b K w' K' r) : MJ K' old N (setD d p) := by
  have hre : K.refE (p : Int) (old + 1) = 0 := by
    have h0 := j.o0
    have h1 := j.o1
    rw [Bk.refE, if_neg (by rw [j.hasP hp]; decide), if_neg (by omega), if_neg (by rw [j.held hp hd]; decide)]
  have htn : ((p : Int)).toNat = p := by omega
  have hK1 : K.marks (p : Int) (old + 1) = true ∧ (K.base (old + 1)).now = old + 1 ∧ (∀ q, q < N → ((K.base (old + 1)).st q = 0 ↔ d q = false)) ∧ ((K.base (old + 1)).cp = true → (K.base (old + 1)).num = 5) ∧ (K.base (old + 1)).ports = (N : Int) := by
    rcases j.cases with h | h
    · have h1 := (j.a h).1
      have hb : K.base (old + 1) = K.begin (old + 1) := by rw [Bk.base, if_pos (by omega)]
      rw [hb]
      refine ⟨?_, rfl, fun q hq => ⟨fun _ => h q hq, fun _ => rfl⟩, fun e => (by cases e), j.ports⟩
      simp only [Bk.marks, hre, beq_self_eq_true, Bool.true_and, Bool.or_eq_true, decide_eq_true_eq]
      exact .inl (by omega)
    · obtain ⟨h1, h2, h3, _⟩ := j.b h
      have hb : K.base (old + 1) = K := by rw [Bk.base, if_neg (by omega)]
      rw [hb]
      refine ⟨?_, h1, h2, h3, j.ports⟩
      simp only [Bk.marks, hre, beq_self_eq_true, Bool.true_and, Bool.or_eq_true, Bool.and_eq_true, beq_iff_eq]
      exact .inr ⟨h1.symm, by rw [htn]; exact (h2 p hp).2 hd⟩
  obtain ⟨hmk, k1, k2, k3, k4⟩ := hK1
  obtain ⟨w1, _, hr, hQ⟩ := m.y hmk
  rw [htn] at hr hQ
  refine ⟨hQ.b.ports.trans k4, j.o0, j.o1, fun h => ?_, fun _ => ⟨hQ.b.now.trans k1, fun q hq => ?_, fun e => ?_, ?_⟩⟩
  · have := h p hp; simp [setD] at this
  · rw [hQ.st, Bk.shutS_zero, k2 q hq]
    by_cases e : q = p
    · subst e; simp [setD]
    · simp [setD, e]
  · rcases hR : (K.base (old + 1)).shutR p with _ | _
    · have h1 := hQ.b.cp
      rw [hR, Bool.or_false] at h1
      rw [(hQ.b.ncp hR).1]; exact k3 (h1 ▸ e)
    · exact (hQ.b.cpd hR).1
  · by_cases hm : (K.base (old + 1)).mode = 1
    · rcases hA : ((K.base (old + 1)).setSt p 2).alig with _ | _
      · refine .inr ⟨hQ.b.mode.trans hm, ?_⟩
        have hs : K'.st = ((K.base (old + 1)).setSt p 2).st := by rw [hQ.st, Bk.shutS, if_pos hm, hA]; rfl
        have : K'.alig = ((K.base (old + 1)).setSt p 2).alig := by
          unfold Bk.alig Bk.okP
          rw [hs, hQ.b.ports, hQ.b.back]; rfl
        rw [this]; exact hA
      · refine .inl ?_
        rw [hQ.b.cp, Bk.shutR, if_pos hm, hA]
        cases (K.base (old + 1)).cp <;> rfl
    · refine .inl ?_
      rw [hQ.b.cp, Bk.shutR, if_neg hm]
      cases (K.base (old + 1)).cp <;> rfl
theorem MJ.end_ {K : Bk} {old : Int} {N : Nat} {d : Nat → Bool} (j : MJ K old N d) (hN : 0 < N) (h : ∀ p, p < N → d p = true) : K.now = old + 1 ∧ K.num = 5 ∧ (K.cp && !K.opn) = true := by
  obtain ⟨h1, h2, h3, h4⟩ := j.b ⟨0, hN, h 0 hN⟩
  have hst : ∀ p, p < N → K.st p ≠ 0 := fun p hp e => by have := (h2 p hp).1 e; rw [h p hp] at this; cases this
  have hop : K.opn = false := by
    rcases e : K.opn with _ | _
    · rfl
    · obtain ⟨p, hp, h0⟩ := K.opn_iff.1 e
      rw [j.ports] at hp
      exact absurd h0 (hst p (by omega))
  have hcp : K.cp = true := by
    rcases h4 with h4 | ⟨_, h4⟩
    · exact h4
    · exfalso
      unfold Bk.alig at h4
      rw [List.all_eq_false] at h4
      obtain ⟨p, hp, h5⟩ := h4
      have hp := List.mem_range.1 hp
      rw [j.ports] at hp
      apply h5
      simp [Bk.okP, hst p (by omega)]
  exact ⟨h1, h3 hcp, by rw [hcp, hop]; rfl⟩
theorem MJ.start {K : Bk} {N : Nat} (hp : K.ports = (N : Int)) (h0 : 0 ≤ K.now) (h1 : K.now < 9999) (h : ∀ p : Nat, p < 4 → K.held (p : Int) = false) (h4 : N ≤ 4) : MJ K K.now N (fun _ => false) :=
  ⟨hp, h0, h1, fun _ => ⟨rfl, fun p hp => h p (by omega)⟩, fun ⟨_, _, e⟩ => by cases e⟩
end Go.Proofs.Ytnbcidlmckmaaaa
