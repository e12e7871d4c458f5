import Derived.Test.YtdncnnjhfipokabPack14
namespace Go.Proofs.Ytdncnnjhfipokab
open Go.RowKit
set_option maxRecDepth 8000
/-- what is known of the copies and the parts -/
structure RJ (K : Bk) (c h : Int) : Prop where
  h0 : 0 ≤ h
  hc : h ≤ c
  cn : c ≤ K.now
  cp : K.cp = true → c = K.now ∧ h < c
  op : c = K.now → c = 0 ∨ K.cp = true ∨ K.opn = false
theorem Bk.opn_eq {K K' : Bk} (h1 : K'.st = K.st) (h2 : K'.ports = K.ports) : K'.opn = K.opn := by unfold Bk.opn; rw [h1, h2]
theorem RJ.same {K K' : Bk} {c h : Int} (j : RJ K c h) (h1 : K'.st = K.st) (h2 : K'.ports = K.ports) (h3 : K'.now = K.now) (h4 : K'.cp = K.cp) : RJ K' c h :=
  ⟨j.h0, j.hc, by rw [h3]; exact j.cn, fun e => by rw [h3]; exact j.cp (h4 ▸ e), fun e => by rw [h4, Bk.opn_eq h1 h2]; exact j.op (by rw [← h3]; exact e)⟩
theorem RJ.took {x : Int} {r : RT} {w w' : World} {b : Nat} {K K' : Bk} {c h : Int} (j : RJ K c h) (q : TookQ x r w b K w' K') : RJ K' c h := by
  rcases e : K.lays x with _ | _
  · rw [q.n e]; exact j
  · obtain ⟨u, p, cc, _, _, rfl⟩ := q.y e
    exact j.same rfl rfl rfl rfl
theorem Bk.has_lt {K : Bk} {x : Int} (h : K.has x = true) : x.toNat < K.ports.toNat := by
  have : 0 ≤ x ∧ x < K.ports := by simpa [Bk.has] using h
  omega
theorem RJ.mark {x id : Int} {a : LT RT} {num : Int} {l : LT VT} {q : LT RT} {w w' : World} {b : Nat} {K K' : Bk} {r : Bool} {c h : Int} (j : RJ K c h) (m : MarkQ x id a num l q w b K w' K' r) :
    (r = true → c < id ∧ K'.now = id ∧ RJ K' id h) ∧ (r = false → RJ K' c h) := by
  rcases e : K.marks x id with _ | _
  · obtain ⟨rfl, rfl⟩ := m.n e
    exact ⟨fun h => (by cases h), fun _ => j⟩
  obtain ⟨w1, _, hr, hQ⟩ := m.y e
  simp only [Bk.marks, Bool.and_eq_true, beq_iff_eq, Bool.or_eq_true, decide_eq_true_eq] at e
  obtain ⟨e0, e1⟩ := e
  have hh : K.has x = true := by
    rcases h : K.has x with _ | _
    · rw [Bk.refE, if_pos h] at e0; cases e0
    · rfl
  have hid0 : 1 ≤ id := by
    rw [Bk.refE, if_neg (by rw [hh]; decide)] at e0
    by_cases h : id < 1 ∨ 9999 < id
    · rw [if_pos h] at e0; cases e0
    · omega
  have hn := hQ.b.now
  have hcp := hQ.b.cp
  rw [← hr] at hcp
  by_cases hgt : K.now < id
  · have hbs : K.base id = K.begin id := by rw [Bk.base, if_pos hgt]
    rw [hbs] at hn hcp hr
    have hn : K'.now = id := hn
    have hcp : K'.cp = r := by rw [hcp]; rfl
    have hcn := j.cn
    have hhc := j.hc
    refine ⟨fun ht => ⟨by omega, hn, ⟨j.h0, by omega, by omega, fun _ => ⟨hn.symm, by omega⟩, fun _ => .inr (.inl (by rw [hcp, ht]))⟩⟩, fun hf => ⟨j.h0, j.hc, by omega, fun e => (by rw [hcp, hf] at e; cases e), fun e => by omega⟩⟩
  · have hbs : K.base id = K := by rw [Bk.base, if_neg hgt]
    rw [hbs] at hn hcp hr hQ
    rcases e1 with e1 | e1
    · exact absurd e1 hgt
    obtain ⟨rfl, hst⟩ := e1
    have hop : K.opn = true := K.opn_iff.2 ⟨x.toNat, Bk.has_lt hh, hst⟩
    have hcn := j.cn
    have hhc := j.hc
    refine ⟨fun ht => ?_, fun hf => ⟨j.h0, j.hc, by omega, fun e => ?_, fun e => ?_⟩⟩
    · have hKc : K.cp = false := by
        rw [ht] at hr
        unfold Bk.shutR at hr
        split at hr
        · simp at hr; exact hr.2
        · simpa using hr.symm
      have hlt : c < K.now := by
        rcases (by omega : c < K.now ∨ c = K.now) with h1 | h1
        · exact h1
        · rcases j.op h1 with h2 | h2 | h2
          · omega
          · rw [hKc] at h2; cases h2
          · rw [hop] at h2; cases h2
      exact ⟨hlt, hn, ⟨j.h0, by omega, by omega, fun _ => ⟨hn.symm, by omega⟩, fun _ => .inr (.inl (by rw [hcp, ht]; simp))⟩⟩
    · rw [hcp, hf, Bool.or_false] at e
      rw [hn]; exact j.cp e
    · rw [hn] at e
      rcases j.op e with h2 | h2 | h2
      · omega
      · exact .inr (.inl (by rw [hcp, h2]; rfl))
      · rw [hop] at h2; cases h2
theorem RJ.part {K : Bk} {c h : Int} (j : RJ K c h) (hd : (K.cp && !K.opn) = true) : c = K.now ∧ h < K.now ∧ RJ K.part c K.now := by
  simp only [Bool.and_eq_true, Bool.not_eq_true'] at hd
  have h1 := j.cp hd.1
  have h0 := j.h0
  refine ⟨h1.1, by omega, ⟨by omega, by omega, j.cn, fun e => (by cases e), fun _ => .inr (.inr ?_)⟩⟩
  rw [← hd.2]; rfl
/-- the logs are not too long -/
def LgN (K : Bk) (N : Nat) : Prop := ∀ i, i < 4 → (K.lg i).n ≤ N
theorem LgN.took {x : Int} {r : RT} {w w' : World} {b : Nat} {K K' : Bk} {N : Nat} (h : LgN K N) (q : TookQ x r w b K w' K') : LgN K' (N + 10000) := by
  intro i hi
  have := h i hi
  rcases e : K.lays x with _ | _
  · rw [q.n e]; omega
  · obtain ⟨u, p, cc, _, _, rfl⟩ := q.y e
    by_cases hx : i = x.toNat
    · subst hx; simp only [Bk.setLog, if_true, LT.push]; omega
    · simp only [Bk.setLog, if_neg hx]; omega
theorem LgN.mark {x id : Int} {a : LT RT} {num : Int} {l : LT VT} {q : LT RT} {w w' : World} {b : Nat} {K K' : Bk} {r : Bool} {N : Nat} (h : LgN K N) (sa : SzR a) (m : MarkQ x id a num l q w b K w' K' r) : LgN K' (N + 10000) := by
  intro i hi
  have := h i hi
  rcases e : K.marks x id with _ | _
  · rw [(m.n e).1]; omega
  obtain ⟨w1, _, hr, hQ⟩ := m.y e
  have hb : ((K.base id).lg i).n ≤ N := by
    unfold Bk.base
    split
    · exact Nat.zero_le _
    · exact this
  by_cases hx : i = x.toNat
  · subst hx
    by_cases h3 : (K.base id).mode = 3
    · obtain ⟨m, p, c, e1, e2, _⟩ := hQ.b.lg3 h3
      rw [e1]
      have := e2.n
      have := sa.n
      simp only [LT.join]; omega
    · rw [hQ.b.lgi h3]; omega
  · rw [hQ.b.lgo i hx]; omega
theorem LgN.part {K : Bk} (N : Nat) : LgN K.part N := fun _ _ => Nat.zero_le _
theorem LgN.le {K : Bk} {N M : Nat} (h : LgN K N) (hm : N ≤ M) : LgN K M := fun i hi => Nat.le_trans (h i hi) hm
end Go.Proofs.Ytdncnnjhfipokab

namespace Go.Proofs.Ytdncnnjhfipokab
open Go.RowKit
set_option maxRecDepth 8000
theorem SetLog.out {w w' : World} {b k : Nat} {K K' : Bk} (g : SetLog w b K w' K') (hk : k < w.heap.size) (hn : ¬ K.C b k) : w'.heap[k]? = w.heap[k]? ∧ ¬ K'.C b k ∧ k < w'.heap.size :=
  ⟨g.but.block k hk hn, fun e => by rcases g.cs k e with h | h; exact hn h; omega, Nat.lt_of_lt_of_le hk g.but.size⟩
theorem Bok.lift {w0 w w' : World} {b : Nat} {K : Bk} (h : Bok w w' b K) (g : Below w0.heap.size w0 w) : Bok w0 w' b K :=
  ⟨h.i, g.trans (h.bel.mono g.size), fun k hk => Nat.le_trans g.size (h.c k hk)⟩
/-- how many of N are not done -/
def cntU (d : Nat → Bool) (N : Nat) : Nat := ((List.range N).map fun p => if d p then 0 else 1).sum
theorem cntU_succ (d : Nat → Bool) (N : Nat) : cntU d (N + 1) = cntU d N + if d N then 0 else 1 := by simp [cntU, List.range_succ]
theorem cntU_all (d : Nat → Bool) : ∀ N, cntU d N = 0 → ∀ p, p < N → d p = true := by
  intro N
  induction N with
  | zero => intro _ p hp; omega
  | succ N ih =>
    intro h p hp
    rw [cntU_succ] at h
    rcases Nat.lt_or_ge p N with h1 | h1
    · exact ih (by omega) p h1
    · obtain rfl : p = N := by omega
      rcases e : d p with _ | _
      · rw [e] at h; simp at h
      · rfl
theorem cntU_le (d : Nat → Bool) : ∀ N, cntU d N ≤ N := by
  intro N
  induction N with
  | zero => exact Nat.le_refl _
  | succ N ih => rw [cntU_succ]; split <;> omega
def setD (d : Nat → Bool) (p : Nat) : Nat → Bool := fun q => if q = p then true else d q
theorem cntU_out (d : Nat → Bool) (p : Nat) : ∀ N, N ≤ p → cntU (setD d p) N = cntU d N := by
  intro N
  induction N with
  | zero => intro _; rfl
  | succ N ih => intro h; rw [cntU_succ, cntU_succ, ih (by omega)]; simp only [setD, if_neg (show ¬ N = p by omega)]
theorem cntU_set (d : Nat → Bool) (p : Nat) (hd : d p = false) : ∀ N, p < N → cntU (setD d p) N + 1 = cntU d N := by
  intro N
  induction N with
  | zero => intro h; omega
  | succ N ih =>
    intro h
    rw [cntU_succ, cntU_succ]
    by_cases e : N = p
    · subst e; rw [cntU_out d N N (Nat.le_refl _)]; simp [setD, hd]
    · have := ih (by omega); simp only [setD, if_neg e] at this ⊢; omega
/-- the book while the last snapshot's markers come -/
structure MJ (K : Bk) (old : Int) (N : Nat) (d : Nat → Bool) : Prop where
  ports : K.ports = (N : Int)
  o0 : 0 ≤ old
  o1 : old < 9999
  a : (∀ p, p < N → d p = false) → K.now = old ∧ ∀ p : Nat, p < N → K.held (p : Int) = false
  b : (∃ p, p < N ∧ d p = true) → K.now = old + 1 ∧ (∀ p, p < N → (K.st p = 0 ↔ d p = false)) ∧ (K.cp = true → K.num = 5) ∧ (K.cp = true ∨ (K.mode = 1 ∧ K.alig = false))
theorem MJ.cases {K : Bk} {old : Int} {N : Nat} {d : Nat → Bool} (_ : MJ K old N d) : (∀ p, p < N → d p = false) ∨ ∃ p, p < N ∧ d p = true := by
  by_cases h : ∃ p, p < N ∧ d p = true
  · exact .inr h
  · refine .inl fun p hp => ?_
    rcases e : d p with _ | _
    · rfl
    · exact absurd ⟨p, hp, e⟩ h
theorem MJ.hasP {K : Bk} {old : Int} {N : Nat} {d : Nat → Bool} (j : MJ K old N d) {p : Nat} (hp : p < N) : K.has (p : Int) = true := by
  simp only [Bk.has, Bool.and_eq_true, decide_eq_true_eq]; rw [j.ports]; omega
theorem MJ.held {K : Bk} {old : Int} {N : Nat} {d : Nat → Bool} (j : MJ K old N d) {p : Nat} (hp : p < N) (hd : d p = false) : K.held (p : Int) = false := by
  rcases j.cases with h | h
  · exact (j.a h).2 p hp
  · have := ((j.b h).2.1 p hp).2 hd
    simp [Bk.held, this]
theorem MJ.tookE {K : Bk} {old : Int} {N : Nat} {d : Nat → Bool} (j : MJ K old N d) {p : Nat} (hp : p < N) (hd : d p = false) : K.tookE (p : Int) = 0 := by
  rw [Bk.tookE, if_neg (by rw [j.hasP hp]; decide), if_neg (by rw [j.held hp hd]; decide)]
theorem MJ.took {x : Int} {r : RT} {w w' : World} {b : Nat} {K K' : Bk} {old : Int} {N : Nat} {d : Nat → Bool} (j : MJ K old N d) (q : TookQ x r w b K w' K') : MJ K' old N d := by
  rcases e : K.lays x with _ | _
  · rw [q.n e]; exact j
  · obtain ⟨u, p, cc, _, _, rfl⟩ := q.y e
    exact ⟨j.ports, j.o0, j.o1, j.a, j.b⟩
theorem Bk.shutS_zero (K : Bk) (p q : Nat) : K.shutS p q = 0 ↔ (K.st q = 0 ∧ q ≠ p) := by
  unfold Bk.shutS
  by_cases hm : K.mode = 1
  · rw [if_pos hm]
    split
    · simp only [Bk.rel, Bk.setSt]
      by_cases h : q = p
      · subst h; simp; omega
      · simp only [if_neg h]
        by_cases h2 : K.st q = 2
        · simp [h, h2]; omega
        · simp [h, h2]
    · simp only [Bk.setSt]
      by_cases h : q = p
      · subst h; simp
      · simp [h]
  · rw [if_neg hm]
    simp only [Bk.setSt]
    by_cases h : q = p
    · subst h; simp
    · simp [h]
theorem MJ.mark {p : Nat} {a : LT RT} {l : LT VT} {q : LT RT} {w w' : World} {b : Nat} {K K' : Bk} {r : Bool} {old : Int} {N : Nat} {d : Nat → Bool} (j : MJ K old N d) (hp : p < N) (hd : d p = false) (m : MarkQ (p : Int) (old + 1) a 5 l q w b K w' K' r) : MJ K' old N (setD d p) := by
  have hre : K.refE (p : Int) (old + 1) = 0 := by
    have h0 := j.o0
    have h1 := j.o1
    rw [Bk.refE, if_neg (by rw [j.hasP hp]; decide), if_neg (by omega), if_neg (by rw [j.held hp hd]; decide)]
  have htn : ((p : Int)).toNat = p := by omega
  have hK1 : K.marks (p : Int) (old + 1) = true ∧ (K.base (old + 1)).now = old + 1 ∧ (∀ q, q < N → ((K.base (old + 1)).st q = 0 ↔ d q = false)) ∧ ((K.base (old + 1)).cp = true → (K.base (old + 1)).num = 5) ∧ (K.base (old + 1)).ports = (N : Int) := by
    rcases j.cases with h | h
    · have h1 := (j.a h).1
      have hb : K.base (old + 1) = K.begin (old + 1) := by rw [Bk.base, if_pos (by omega)]
      rw [hb]
      refine ⟨?_, rfl, fun q hq => ⟨fun _ => h q hq, fun _ => rfl⟩, fun e => (by cases e), j.ports⟩
      simp only [Bk.marks, hre, beq_self_eq_true, Bool.true_and, Bool.or_eq_true, decide_eq_true_eq]
      exact .inl (by omega)
    · obtain ⟨h1, h2, h3, _⟩ := j.b h
      have hb : K.base (old + 1) = K := by rw [Bk.base, if_neg (by omega)]
      rw [hb]
      refine ⟨?_, h1, h2, h3, j.ports⟩
      simp only [Bk.marks, hre, beq_self_eq_true, Bool.true_and, Bool.or_eq_true, Bool.and_eq_true, beq_iff_eq]
      exact .inr ⟨h1.symm, by rw [htn]; exact (h2 p hp).2 hd⟩
  obtain ⟨hmk, k1, k2, k3, k4⟩ := hK1
  obtain ⟨w1, _, hr, hQ⟩ := m.y hmk
  rw [htn] at hr hQ
  refine ⟨hQ.b.ports.trans k4, j.o0, j.o1, fun h => ?_, fun _ => ⟨hQ.b.now.trans k1, fun q hq => ?_, fun e => ?_, ?_⟩⟩
  · have := h p hp; simp [setD] at this
  · rw [hQ.st, Bk.shutS_zero, k2 q hq]
    by_cases e : q = p
    · subst e; simp [setD]
    · simp [setD, e]
  · rcases hR : (K.base (old + 1)).shutR p with _ | _
    · have h1 := hQ.b.cp
      rw [hR, Bool.or_false] at h1
      rw [(hQ.b.ncp hR).1]; exact k3 (h1 ▸ e)
    · exact (hQ.b.cpd hR).1
  · by_cases hm : (K.base (old + 1)).mode = 1
    · rcases hA : ((K.base (old + 1)).setSt p 2).alig with _ | _
      · refine .inr ⟨hQ.b.mode.trans hm, ?_⟩
        have hs : K'.st = ((K.base (old + 1)).setSt p 2).st := by rw [hQ.st, Bk.shutS, if_pos hm, hA]; rfl
        have : K'.alig = ((K.base (old + 1)).setSt p 2).alig := by
          unfold Bk.alig Bk.okP
          rw [hs, hQ.b.ports, hQ.b.back]; rfl
        rw [this]; exact hA
      · refine .inl ?_
        rw [hQ.b.cp, Bk.shutR, if_pos hm, hA]
        cases (K.base (old + 1)).cp <;> rfl
    · refine .inl ?_
      rw [hQ.b.cp, Bk.shutR, if_neg hm]
      cases (K.base (old + 1)).cp <;> rfl
theorem MJ.end_ {K : Bk} {old : Int} {N : Nat} {d : Nat → Bool} (j : MJ K old N d) (hN : 0 < N) (h : ∀ p, p < N → d p = true) : K.now = old + 1 ∧ K.num = 5 ∧ (K.cp && !K.opn) = true := by
  obtain ⟨h1, h2, h3, h4⟩ := j.b ⟨0, hN, h 0 hN⟩
  have hst : ∀ p, p < N → K.st p ≠ 0 := fun p hp e => by have := (h2 p hp).1 e; rw [h p hp] at this; cases this
  have hop : K.opn = false := by
    rcases e : K.opn with _ | _
    · rfl
    · obtain ⟨p, hp, h0⟩ := K.opn_iff.1 e
      rw [j.ports] at hp
      exact absurd h0 (hst p (by omega))
  have hcp : K.cp = true := by
    rcases h4 with h4 | ⟨_, h4⟩
    · exact h4
    · exfalso
      unfold Bk.alig at h4
      rw [List.all_eq_false] at h4
      obtain ⟨p, hp, h5⟩ := h4
      have hp := List.mem_range.1 hp
      rw [j.ports] at hp
      apply h5
      simp [Bk.okP, hst p (by omega)]
  exact ⟨h1, h3 hcp, by rw [hcp, hop]; rfl⟩
theorem MJ.start {K : Bk} {N : Nat} (hp : K.ports = (N : Int)) (h0 : 0 ≤ K.now) (h1 : K.now < 9999) (h : ∀ p : Nat, p < 4 → K.held (p : Int) = false) (h4 : N ≤ 4) : MJ K K.now N (fun _ => false) :=
  ⟨hp, h0, h1, fun _ => ⟨rfl, fun p hp => h p (by omega)⟩, fun ⟨_, _, e⟩ => by cases e⟩
end Go.Proofs.Ytdncnnjhfipokab

namespace Go.Proofs.Ytdncnnjhfipokab
open Go.RowKit
set_option maxRecDepth 8000
def elCells : El (LT VT) where
  ty := 40
  size := 1
  cells := fun l => [.slice l.p l.n l.c]
  len := fun _ => rfl
  one := fun x u hu => by simp only [List.mem_singleton] at hu; subst hu; rfl
  In := LT.In elCell
  kept := fun h hs hb => h.kept hs hb
  mono := fun h hb => h.mono hb
theorem Bk.shutS_two (K : Bk) (hm : K.mode = 1) (i : Nat) (p : Nat) (hp : p < 4) : ((K.setSt i 2).alig = true → K.shutS i p ≠ 2) ∧ ((K.setSt i 2).alig = false → K.shutS i p = if p = i then 2 else K.st p) := by
  unfold Bk.shutS
  rw [if_pos hm]
  constructor
  · intro h
    rw [if_pos h]
    simp only [Bk.rel]
    split
    · decide
    · rename_i hc; exact fun e => hc ⟨hp, e⟩
  · intro h
    rw [if_neg (by rw [h]; decide)]
    rfl
theorem Alk.two {α : Type} {R : α → α → Prop} {y a b : LT α} (h : LT.Alk R y a) (k : LT.Alk R y b) (hc : ∀ j, j < a.n → R (y.item j) (a.item j) → R (y.item j) (b.item j) → R (a.item j) (b.item j)) : LT.Alk R a b :=
  ⟨k.n.trans h.n.symm, fun j hj => hc j hj (h.item j (by rw [← h.n]; exact hj)) (k.item j (by rw [← h.n]; exact hj))⟩
theorem va2 {w : World} {S : Nat → Prop} {y a b : VT} (ha : VT.In w S a) (h : VT.Alike y a) (k : VT.Alike y b) : VT.Alike a b := (h.symm ha).trans k
theorem ra2 {w : World} {S : Nat → Prop} {y a b : RT} (ha : RT.In w S a) (h : RT.Alike y a) (k : RT.Alike y b) : RT.Alike a b :=
  ⟨k.key.trans h.key.symm, va2 ha.v h.v k.v, k.n.trans h.n.symm, fun j hj => (k.loop j (by rw [← h.n]; exact hj)).trans (h.loop j (by rw [← h.n]; exact hj)).symm⟩
theorem own_in {α : Type} {E : El α} {base : Nat} {w : World} {v : Value} {n : Nat} {g : Nat → α} {S : Nat → Prop} (own : w.ownsRow base E.ty E.size v n ((List.range n).flatMap fun j => E.cells (g j))) (hS : ∀ k, v.ownBlock = some k → S k) (each : ∀ j, j < n → E.In w S (g j)) (hnn : n ≤ 140737488355328) :
    ∃ p c, v = .slice p n c ∧ LT.In E w S ⟨p, n, c, g⟩ := by
  have hlt := own.lt
  have hce := @World.ownsRow.cells _ _ _ _ _ _ _ own
  obtain ⟨_, ⟨hv, h0⟩ | ⟨gb, cap, cur, hv, hbg, hh, hnc, hcm, hcs, htake⟩⟩ := id own
  · subst h0
    exact ⟨none, 0, hv, LT.In.none_ E w _ none 0 g (Nat.zero_le _) (fun _ => rfl)⟩
  · refine ⟨_, cap, hv, fun hn => ⟨gb, 0, rfl, hS gb (by rw [hv]; rfl), (hlt gb (by rw [hv]; rfl)).2, fun j hj r u hu => ?_⟩, each, hnc, hnn, hcm, fun h => by cases h⟩
    have hr : r < E.size := by
      rcases Nat.lt_or_ge r E.size with h1 | h1
      · exact h1
      · rw [List.getElem?_eq_none (by rw [E.len]; exact h1)] at hu; cases hu
    have := hce (g := gb) (by rw [hv]; rfl) (j * E.size + r) u (by rw [range_flat_get E g n j r hj hr]; exact hu)
    rw [Go.WideShapes.add_plain] at this
    rw [show (0 : Nat) + j * E.size + r = 0 + (j * E.size + r) by omega]
    exact this
theorem own_in' {α : Type} {E : El α} {base : Nat} {w : World} {l : LT α} {S : Nat → Prop} (own : w.ownsRow base E.ty E.size (.slice l.p l.n l.c) l.n ((List.range l.n).flatMap fun j => E.cells (l.item j))) (hS : ∀ k, (Value.slice l.p l.n l.c).ownBlock = some k → S k) (each : ∀ j, j < l.n → E.In w S (l.item j)) (hnn : l.n ≤ 140737488355328) : LT.In E w S l := by
  obtain ⟨p, c, e, h⟩ := own_in own hS each hnn
  obtain ⟨lp, ln, lc, li⟩ := l
  simp only [Value.slice.injEq, true_and] at e
  obtain ⟨rfl, rfl⟩ := e
  exact h
theorem Bk.lays_no {K : Bk} {x : Int} (h : ¬ K.tookE x = 0) : K.lays x = false := by
  unfold Bk.lays
  unfold Bk.tookE at h
  by_cases h1 : K.has x = false
  · rw [h1]; rfl
  · rw [if_neg h1] at h
    by_cases h2 : K.held x = true
    · rw [h2]; simp
    · rw [if_neg h2] at h; exact absurd rfl h
theorem Bk.has_took {K : Bk} {x : Int} (h : K.tookE x = 0) : K.has x = true := by
  rcases e : K.has x with _ | _
  · rw [Bk.tookE, if_pos e] at h; cases h
  · rfl
theorem Bk.has_ref {K : Bk} {x id : Int} (h : K.refE x id = 0) : K.has x = true := by
  rcases e : K.has x with _ | _
  · rw [Bk.refE, if_pos e] at h; cases h
  · rfl
end Go.Proofs.Ytdncnnjhfipokab
