import Derived.Test.YtdncnnjhfipokaaPack11
import Derived.Test.YtdncnnjhfipokaaPack0
namespace Go.Proofs.Ytdncnnjhfipokaa
open Go.RowKit
set_option maxRecDepth 8000
/-- what is known of the copies and the parts -/
structure RJ (K : Bk) (c h : Int) : Prop where
  h0 : 0 ≤ h
  hc : h ≤ c
  cn : c ≤ K.now
  cp : K.cp = true → c = K.now ∧ h < c
  op : c = K.now → c = 0 ∨ K.cp = true ∨ K.opn = false
theorem Bk.opn_eq {K K' : Bk} (h1 : K'.st = K.st) (h2 : K'.ports = K.ports) : K'.opn = K.opn := by unfold Bk.opn; rw [h1, h2]
theorem RJ.same {K K' : Bk} {c h : Int} (j : RJ K c h) (h1 : K'.st = K.st) (h2 : K'.ports = K.ports) (h3 : K'.now = K.now) (h4 : K'.cp = K.cp) : RJ K' c h :=
  ⟨j.h0, j.hc, by rw [h3]; exact j.cn, fun e => by rw [h3]; exact j.cp (h4 ▸ e), fun e => by rw [h4, Bk.opn_eq h1 h2]; exact j.op (by rw [← h3]; exact e)⟩
theorem RJ.took {x : Int} {r : RT} {w w' : World} {b : Nat} {K K' : Bk} {c h : Int} (j : RJ K c h) (q : TookQ x r w b K w' K') : RJ K' c h := by
  rcases e : K.lays x with _ | _
  · rw [q.n e]; exact j
  · obtain ⟨u, p, cc, _, _, rfl⟩ := q.y e
    exact j.same rfl rfl rfl rfl
theorem Bk.has_lt {K : Bk} {x : Int} (h : K.has x = true) : x.toNat < K.ports.toNat := by
  have : 0 ≤ x ∧ x < K.ports := by simpa [Bk.has] using h
  omega
theorem RJ.mark {x id : Int} {a : LT RT} {num : Int} {l : LT VT} {q : LT RT} {w w' : World} {b : Nat} {K K' : Bk} {r : Bool} {c h : Int} (j : RJ K c h) (m : MarkQ x id a num l q w b K w' K' r) :
    (r = true → c < id ∧ K'.now = id ∧ RJ K' id h) ∧ (r = false → RJ K' c h) := by
  rcases e : K.marks x id with _ | _
  · obtain ⟨rfl, rfl⟩ := m.n e
    exact ⟨fun h => (by cases h), fun _ => j⟩
  obtain ⟨w1, _, hr, hQ⟩ := m.y e
  simp only [Bk.marks, Bool.and_eq_true, beq_iff_eq, Bool.or_eq_true, decide_eq_true_eq] at e
  obtain ⟨e0, e1⟩ := e
  have hh : K.has x = true := by
    rcases h : K.has x with _ | _
    · rw [Bk.refE, if_pos h] at e0; cases e0
    · rfl
  have hid0 : 1 ≤ id := by
    rw [Bk.refE, if_neg (by rw [hh]; decide)] at e0
    by_cases h : id < 1 ∨ 9999 < id
    · rw [if_pos h] at e0; cases e0
    · omega
  have hn := hQ.b.now
  have hcp := hQ.b.cp
  rw [← hr] at hcp
  by_cases hgt : K.now < id
  · have hbs : K.base id = K.begin id := by rw [Bk.base, if_pos hgt]
    rw [hbs] at hn hcp hr
    have hn : K'.now = id := hn
    have hcp : K'.cp = r := by rw [hcp]; rfl
    have hcn := j.cn
    have hhc := j.hc
    refine ⟨fun ht => ⟨by omega, hn, ⟨j.h0, by omega, by omega, fun _ => ⟨hn.symm, by omega⟩, fun _ => .inr (.inl (by rw [hcp, ht]))⟩⟩, fun hf => ⟨j.h0, j.hc, by omega, fun e => (by rw [hcp, hf] at e; cases e), fun e => by omega⟩⟩
  · have hbs : K.base id = K := by rw [Bk.base, if_neg hgt]
    rw [hbs] at hn hcp hr hQ
    rcases e1 with e1 | e1
    · exact absurd e1 hgt
    obtain ⟨rfl, hst⟩ := e1
    have hop : K.opn = true := K.opn_iff.2 ⟨x.toNat, Bk.has_lt hh, hst⟩
    have hcn := j.cn
    have hhc := j.hc
    refine ⟨fun ht => ?_, fun hf => ⟨j.h0, j.hc, by omega, fun e => ?_, fun e => ?_⟩⟩
    · have hKc : K.cp = false := by
        rw [ht] at hr
        unfold Bk.shutR at hr
        split at hr
        · simp at hr; exact hr.2
        · simpa using hr.symm
      have hlt : c < K.now := by
        rcases (by omega : c < K.now ∨ c = K.now) with h1 | h1
        · exact h1
        · rcases j.op h1 with h2 | h2 | h2
          · omega
          · rw [hKc] at h2; cases h2
          · rw [hop] at h2; cases h2
      exact ⟨hlt, hn, ⟨j.h0, by omega, by omega, fun _ => ⟨hn.symm, by omega⟩, fun _ => .inr (.inl (by rw [hcp, ht]; simp))⟩⟩
    · rw [hcp, hf, Bool.or_false] at e
      rw [hn]; exact j.cp e
    · rw [hn] at e
      rcases j.op e with h2 | h2 | h2
      · omega
      · exact .inr (.inl (by rw [hcp, h2]; rfl))
      · rw [hop] at h2; cases h2
theorem RJ.part {K : Bk} {c h : Int} (j : RJ K c h) (hd : (K.cp && !K.opn) = true) : c = K.now ∧ h < K.now ∧ RJ K.part c K.now := by
  simp only [Bool.and_eq_true, Bool.not_eq_true'] at hd
  have h1 := j.cp hd.1
  have h0 := j.h0
  refine ⟨h1.1, by omega, ⟨by omega, by omega, j.cn, fun e => (by cases e), fun _ => .inr (.inr ?_)⟩⟩
  rw [← hd.2]; rfl
/-- the logs are not too long -/
def LgN (K : Bk) (N : Nat) : Prop := ∀ i, i < 4 → (K.lg i).n ≤ N
theorem LgN.took {x : Int} {r : RT} {w w' : World} {b : Nat} {K K' : Bk} {N : Nat} (h : LgN K N) (q : TookQ x r w b K w' K') : LgN K' (N + 10000) := by
  intro i hi
  have := h i hi
  rcases e : K.lays x with _ | _
  · rw [q.n e]; omega
  · obtain ⟨u, p, cc, _, _, rfl⟩ := q.y e
    by_cases hx : i = x.toNat
    · subst hx; simp only [Bk.setLog, if_true, LT.push]; omega
    · simp only [Bk.setLog, if_neg hx]; omega
theorem LgN.mark {x id : Int} {a : LT RT} {num : Int} {l : LT VT} {q : LT RT} {w w' : World} {b : Nat} {K K' : Bk} {r : Bool} {N : Nat} (h : LgN K N) (sa : SzR a) (m : MarkQ x id a num l q w b K w' K' r) : LgN K' (N + 10000) := by
  intro i hi
  have := h i hi
  rcases e : K.marks x id with _ | _
  · rw [(m.n e).1]; omega
  obtain ⟨w1, _, hr, hQ⟩ := m.y e
  have hb : ((K.base id).lg i).n ≤ N := by
    unfold Bk.base
    split
    · exact Nat.zero_le _
    · exact this
  by_cases hx : i = x.toNat
  · subst hx
    by_cases h3 : (K.base id).mode = 3
    · obtain ⟨m, p, c, e1, e2, _⟩ := hQ.b.lg3 h3
      rw [e1]
      have := e2.n
      have := sa.n
      simp only [LT.join]; omega
    · rw [hQ.b.lgi h3]; omega
  · rw [hQ.b.lgo i hx]; omega
theorem LgN.part {K : Bk} (N : Nat) : LgN K.part N := fun _ _ => Nat.zero_le _
theorem LgN.le {K : Bk} {N M : Nat} (h : LgN K N) (hm : N ≤ M) : LgN K M := fun i hi => Nat.le_trans (h i hi) hm
end Go.Proofs.Ytdncnnjhfipokaa

namespace Go.Proofs.Ytdncnnjhfipokaa
open Go.RowKit
set_option maxRecDepth 8000
theorem SetLog.out {w w' : World} {b k : Nat} {K K' : Bk} (g : SetLog w b K w' K') (hk : k < w.heap.size) (hn : ¬ K.C b k) : w'.heap[k]? = w.heap[k]? ∧ ¬ K'.C b k ∧ k < w'.heap.size :=
  ⟨g.but.block k hk hn, fun e => by rcases g.cs k e with h | h; exact hn h; omega, Nat.lt_of_lt_of_le hk g.but.size⟩
theorem Bok.lift {w0 w w' : World} {b : Nat} {K : Bk} (h : Bok w w' b K) (g : Below w0.heap.size w0 w) : Bok w0 w' b K :=
  ⟨h.i, g.trans (h.bel.mono g.size), fun k hk => Nat.le_trans g.size (h.c k hk)⟩
/-- how many of N are not done -/
def cntU (d : Nat → Bool) (N : Nat) : Nat := ((List.range N).map fun p => if d p then 0 else 1).sum
theorem cntU_succ (d : Nat → Bool) (N : Nat) : cntU d (N + 1) = cntU d N + if d N then 0 else 1 := by simp [cntU, List.range_succ]
theorem cntU_all (d : Nat → Bool) : ∀ N, cntU d N = 0 → ∀ p, p < N → d p = true := by
  intro N
  induction N with
  | zero => intro _ p hp; omega
  | succ N ih =>
    intro h p hp
    rw [cntU_succ] at h
    rcases Nat.lt_or_ge p N with h1 | h1
    · exact ih (by omega) p h1
    · obtain rfl : p = N := by omega
      rcases e : d p with _ | _
      · rw [e] at h; simp at h
      · rfl
theorem cntU_le (d : Nat → Bool) : ∀ N, cntU d N ≤ N := by
  intro N
  induction N with
  | zero => exact Nat.le_refl _
  | succ N ih => rw [cntU_succ]; split <;> omega
def setD (d : Nat → Bool) (p : Nat) : Nat → Bool := fun q => if q = p then true else d q
theorem cntU_out (d : Nat → Bool) (p : Nat) : ∀ N, N ≤ p → cntU (setD d p) N = cntU d N := by
  intro N
  induction N with
  | zero => intro _; rfl
  | succ N ih => intro h; rw [cntU_succ, cntU_succ, ih (by omega)]; simp only [setD, if_neg (show ¬ N = p by omega)]
theorem cntU_set (d : Nat → Bool) (p : Nat) (hd : d p = false) : ∀ N, p < N → cntU (setD d p) N + 1 = cntU d N := by
  intro N
  induction N with
  | zero => intro h; omega
  | succ N ih =>
    intro h
    rw [cntU_succ, cntU_succ]
    by_cases e : N = p
    · subst e; rw [cntU_out d N N (Nat.le_refl _)]; simp [setD, hd]
    · have := ih (by omega); simp only [setD, if_neg e] at this ⊢; omega
/-- the book while the last snapshot's markers come -/
structure MJ (K : Bk) (old : Int) (N : Nat) (d : Nat → Bool) : Prop where
  ports : K.ports = (N : Int)
  o0 : 0 ≤ old
  o1 : old < 9999
  a : (∀ p, p < N → d p = false) → K.now = old ∧ ∀ p : Nat, p < N → K.held (p : Int) = false
  b : (∃ p, p < N ∧ d p = true) → K.now = old + 1 ∧ (∀ p, p < N → (K.st p = 0 ↔ d p = false)) ∧ (K.cp = true → K.num = 5) ∧ (K.cp = true ∨ (K.mode = 1 ∧ K.alig = false))
theorem MJ.cases {K : Bk} {old : Int} {N : Nat} {d : Nat → Bool} (_ : MJ K old N d) : (∀ p, p < N → d p = false) ∨ ∃ p, p < N ∧ d p = true := by
  by_cases h : ∃ p, p < N ∧ d p = true
  · exact .inr h
  · refine .inl fun p hp => ?_
    rcases e : d p with _ | _
    · rfl
    · exact absurd ⟨p, hp, e⟩ h
theorem MJ.hasP {K : Bk} {old : Int} {N : Nat} {d : Nat → Bool} (j : MJ K old N d) {p : Nat} (hp : p < N) : K.has (p : Int) = true := by
  simp only [Bk.has, Bool.and_eq_true, decide_eq_true_eq]; rw [j.ports]; omega
theorem MJ.held {K : Bk} {old : Int} {N : Nat} {d : Nat → Bool} (j : MJ K old N d) {p : Nat} (hp : p < N) (hd : d p = false) : K.held (p : Int) = false := by
  rcases j.cases with h | h
  · exact (j.a h).2 p hp
  · have := ((j.b h).2.1 p hp).2 hd
    simp [Bk.held, this]
theorem MJ.tookE {K : Bk} {old : Int} {N : Nat} {d : Nat → Bool} (j : MJ K old N d) {p : Nat} (hp : p < N) (hd : d p = false) : K.tookE (p : Int) = 0 := by
  rw [Bk.tookE, if_neg (by rw [j.hasP hp]; decide), if_neg (by rw [j.held hp hd]; decide)]
theorem MJ.took {x : Int} {r : RT} {w w' : World} {b : Nat} {K K' : Bk} {old : Int} {N : Nat} {d : Nat → Bool} (j : MJ K old N d) (q : TookQ x r w b K w' K') : MJ K' old N d := by
  rcases e : K.lays x with _ | _
  · rw [q.n e]; exact j
  · obtain ⟨u, p, cc, _, _, rfl⟩ := q.y e
    exact ⟨j.ports, j.o0, j.o1, j.a, j.b⟩
theorem Bk.shutS_zero (K : Bk) (p q : Nat) : K.shutS p q = 0 ↔ (K.st q = 0 ∧ q ≠ p) := by
  unfold Bk.shutS
  by_cases hm : K.mode = 1
  · rw [if_pos hm]
    split
    · simp only [Bk.rel, Bk.setSt]
      by_cases h : q = p
      · subst h; simp; omega
      · simp only [if_neg h]
        by_cases h2 : K.st q = 2
        · simp [h, h2]; omega
        · simp [h, h2]
    · simp only [Bk.setSt]
      by_cases h : q = p
      · subst h; simp
      · simp [h]
  · rw [if_neg hm]
    simp only [Bk.setSt]
    by_cases h : q = p
    · subst h; simp
    · simp [h]
theorem MJ.mark {p : Nat} {a : LT RT} {l : LT VT} {q : LT RT} {w w' : World} {b : Nat} {K K' : Bk} {r : Bool} {old : Int} {N : Nat} {d : Nat → Bool} (j : MJ K old N d) (hp : p < N) (hd : d p = false) (m : MarkQ (p : Int) (old + 1) a 5 l q w b K w' K' r) : MJ K' old N (setD d p) := by
  have hre : K.refE (p : Int) (old + 1) = 0 := by
    have h0 := j.o0
    have h1 := j.o1
    rw [Bk.refE, if_neg (by rw [j.hasP hp]; decide), if_neg (by omega), if_neg (by rw [j.held hp hd]; decide)]
  have htn : ((p : Int)).toNat = p := by omega
  have hK1 : K.marks (p : Int) (old + 1) = true ∧ (K.base (old + 1)).now = old + 1 ∧ (∀ q, q < N → ((K.base (old + 1)).st q = 0 ↔ d q = false)) ∧ ((K.base (old + 1)).cp = true → (K.base (old + 1)).num = 5) ∧ (K.base (old + 1)).ports = (N : Int) := by
    rcases j.cases with h | h
    · have h1 := (j.a h).1
      have hb : K.base (old + 1) = K.begin (old + 1) := by rw [Bk.base, if_pos (by omega)]
      rw [hb]
      refine ⟨?_, rfl, fun q hq => ⟨fun _ => h q hq, fun _ => rfl⟩, fun e => (by cases e), j.ports⟩
      simp only [Bk.marks, hre, beq_self_eq_true, Bool.true_and, Bool.or_eq_true, decide_eq_true_eq]
      exact .inl (by omega)
    · obtain ⟨h1, h2, h3, _⟩ := j.b h
      have hb : K.base (old + 1) = K := by rw [Bk.base, if_neg (by omega)]
      rw [hb]
      refine ⟨?_, h1, h2, h3, j.ports⟩
      simp only [Bk.marks, hre, beq_self_eq_true, Bool.true_and, Bool.or_eq_true, Bool.and_eq_true, beq_iff_eq]
      exact .inr ⟨h1.symm, by rw [htn]; exact (h2 p hp).2 hd⟩
  obtain ⟨hmk, k1, k2, k3, k4⟩ := hK1
  obtain ⟨w1, _, hr, hQ⟩ := m.y hmk
  rw [htn] at hr hQ
  refine ⟨hQ.b.ports.trans k4, j.o0, j.o1, fun h => ?_, fun _ => ⟨hQ.b.now.trans k1, fun q hq => ?_, fun e => ?_, ?_⟩⟩
  · have := h p hp; simp [setD] at this
  · rw [hQ.st, Bk.shutS_zero, k2 q hq]
    by_cases e : q = p
    · subst e; simp [setD]
    · simp [setD, e]
  · rcases hR : (K.base (old + 1)).shutR p with _ | _
    · have h1 := hQ.b.cp
      rw [hR, Bool.or_false] at h1
      rw [(hQ.b.ncp hR).1]; exact k3 (h1 ▸ e)
    · exact (hQ.b.cpd hR).1
  · by_cases hm : (K.base (old + 1)).mode = 1
    · rcases hA : ((K.base (old + 1)).setSt p 2).alig with _ | _
      · refine .inr ⟨hQ.b.mode.trans hm, ?_⟩
        have hs : K'.st = ((K.base (old + 1)).setSt p 2).st := by rw [hQ.st, Bk.shutS, if_pos hm, hA]; rfl
        have : K'.alig = ((K.base (old + 1)).setSt p 2).alig := by
          unfold Bk.alig Bk.okP
          rw [hs, hQ.b.ports, hQ.b.back]; rfl
        rw [this]; exact hA
      · refine .inl ?_
        rw [hQ.b.cp, Bk.shutR, if_pos hm, hA]
        cases (K.base (old + 1)).cp <;> rfl
    · refine .inl ?_
      rw [hQ.b.cp, Bk.shutR, if_neg hm]
      cases (K.base (old + 1)).cp <;> rfl
theorem MJ.end_ {K : Bk} {old : Int} {N : Nat} {d : Nat → Bool} (j : MJ K old N d) (hN : 0 < N) (h : ∀ p, p < N → d p = true) : K.now = old + 1 ∧ K.num = 5 ∧ (K.cp && !K.opn) = true := by
  obtain ⟨h1, h2, h3, h4⟩ := j.b ⟨0, hN, h 0 hN⟩
  have hst : ∀ p, p < N → K.st p ≠ 0 := fun p hp e => by have := (h2 p hp).1 e; rw [h p hp] at this; cases this
  have hop : K.opn = false := by
    rcases e : K.opn with _ | _
    · rfl
    · obtain ⟨p, hp, h0⟩ := K.opn_iff.1 e
      rw [j.ports] at hp
      exact absurd h0 (hst p (by omega))
  have hcp : K.cp = true := by
    rcases h4 with h4 | ⟨_, h4⟩
    · exact h4
    · exfalso
      unfold Bk.alig at h4
      rw [List.all_eq_false] at h4
      obtain ⟨p, hp, h5⟩ := h4
      have hp := List.mem_range.1 hp
      rw [j.ports] at hp
      apply h5
      simp [Bk.okP, hst p (by omega)]
  exact ⟨h1, h3 hcp, by rw [hcp, hop]; rfl⟩
theorem MJ.start {K : Bk} {N : Nat} (hp : K.ports = (N : Int)) (h0 : 0 ≤ K.now) (h1 : K.now < 9999) (h : ∀ p : Nat, p < 4 → K.held (p : Int) = false) (h4 : N ≤ 4) : MJ K K.now N (fun _ => false) :=
  ⟨hp, h0, h1, fun _ => ⟨rfl, fun p hp => h p (by omega)⟩, fun ⟨_, _, e⟩ => by cases e⟩
end Go.Proofs.Ytdncnnjhfipokaa

namespace Go.Proofs.Ytdncnnjhfipokaa
open Go.RowKit
set_option maxRecDepth 8000

set_option maxHeartbeats 1000000 in
theorem deep_any (t : VT) : ∀ (w : World) (S : Nat → Prop), VT.In w S t → t.total ≤ 10000 →
    Calls Try.prog 42 #[t.val] w fun e w' => ∃ u, e = .returned u.val ∧ VT.Alike t u ∧ VT.In w' (fun b => w.heap.size ≤ b) u ∧ Below w.heap.size w w' := by
  induction t with
  | nil => intro w S hin; exact hin.elim
  | mk k i s n p c f ih =>
    intro w S hin ht
    have hfit := hin.fit
    have hnn := hfit.nn
    simp only [VT.n] at hnn
    have hn1 : n ≤ 10000 := by rw [VT.total_upto] at ht; simp only [VT.n] at ht; omega
    obtain ⟨i0, Kd⟩ := kindV
    simp only [VT.val, VT.kind_mk, VT.int_mk, VT.text_mk, VT.p_mk, VT.n_mk, VT.c_mk]
    have HI : Hid (VT.In w S (.mk k i s n p c f)) := hin
    have HF := hfit
    have HTot : Hid (∀ j, j < n → (f j).total ≤ 10000) := fun j hj => Nat.le_trans (VT.item_total (.mk k i s n p c f) hj) ht
    clear hin hfit ht
    go_enter Try.func42, Try.ntmps42
    go_wp2_with fail
    have hS1 : Box (w.alloc (.cells #[.int .i64 k, .int .i64 i, .string s, .slice p n c] 33)) w.heap.size #[.int .i64 k, .int .i64 i, .string s, .slice p n c] 33 := Box.new _ _ _
    have hS2 := hS1.below ((Below.refl _ _).alloc (Nat.le_refl _) (.cells #[.int .i64 0, .int .i64 0, .string ⟨#[]⟩, .slice none 0 0] 33))
    have hS3 : Box ((w.alloc (.cells #[.int .i64 k, .int .i64 i, .string s, .slice p n c] 33)).alloc (.cells #[.int .i64 0, .int .i64 0, .string ⟨#[]⟩, .slice none 0 0] 33)) (w.heap.size + 1) #[.int .i64 0, .int .i64 0, .string ⟨#[]⟩, .slice none 0 0] 33 := by
      have := Box.new (w.alloc (.cells #[.int .i64 k, .int .i64 i, .string s, .slice p n c] 33)) #[.int .i64 0, .int .i64 0, .string ⟨#[]⟩, .slice none 0 0] 33
      simpa using this
    have hS4 : Below w.heap.size w ((w.alloc (.cells #[.int .i64 k, .int .i64 i, .string s, .slice p n c] 33)).alloc (.cells #[.int .i64 0, .int .i64 0, .string ⟨#[]⟩, .slice none 0 0] 33)) := ((Below.refl _ _).alloc (Nat.le_refl _) _).alloc (by simp) _
    go_loopw [3, 4] (fun v x wr => ∃ (j : Nat) (g : Nat → VT), j ≤ n ∧ x = .int .i64 j ∧ OwnV (w.heap.size + 2) wr v j g ∧ (∀ q, q < j → VT.Alike (f q) (g q)) ∧ Box wr w.heap.size #[.int .i64 k, .int .i64 i, .string s, .slice p n c] 33 ∧
        Box wr (w.heap.size + 1) #[.int .i64 0, .int .i64 0, .string ⟨#[]⟩, .slice none 0 0] 33 ∧ Below w.heap.size w wr) (fun _ x _ => n - (intOf x).toNat)
    case atStart => exact ⟨0, f, Nat.zero_le _, rfl, OwnV.nil _ _ _, fun q hq => absurd hq (by omega), hS2, hS3, hS4⟩
    case round =>
      obtain ⟨j, g, hj, rfl, hO, hal, hB0, hB1, hbel⟩ := hrel
      clear hS1 hS2 hS3 hS4
      have b0 := hB0.cell 0
      have b1 := hB0.cell 1
      have b2 := hB0.cell 2
      have b3 := hB0.cell 3
      simp at b0 b1 b2 b3
      have hlt1 := hB1.lt
      by_cases hlt : j < n
      · have hlt' : (j : Int) < (n : Int) := by omega
        obtain ⟨bb, o, hp, hSb, hbl, hat⟩ := HI.out.at_ (show 0 < (VT.mk k i s n p c f).n from by simp only [VT.n]; omega)
        simp only [VT.p] at hp
        subst hp
        have hA := (hat j hlt).kept (hbel.block bb hbl)
        obtain ⟨c0, c1, c2, c3⟩ := hA
        simp only [VT.item] at c0 c1 c2 c3
        have HC : Hid (Calls Try.prog 42 #[(f j).val] wr fun e w' => ∃ u, e = .returned u.val ∧ VT.Alike (f j) u ∧ VT.In w' (fun b => wr.heap.size ≤ b) u ∧ Below wr.heap.size wr w') :=
          ih j wr (fun b => S b ∧ b < w.heap.size) (((HI.out.sub hlt).mono fun b hb hl => ⟨hb, hl⟩).kept hbel.size (fun b hb _ => hbel.block b hb.2)) (HTot.out j hlt)
        unfold VT.val at HC
        have HAl : Hid (∀ q, q < j → VT.Alike (f q) (g q)) := hal
        clear hat hal
        go_wp2_with (go_at_call 42; refine HC.out.mono ?_)
        rintro e w2 ⟨u, rfl, hal2, hin2, hb2⟩
        obtain ⟨k', i', s', n', p', c', f', rfl⟩ := hin2.mk_
        simp only [VT.kind_mk, VT.int_mk, VT.text_mk, VT.p_mk, VT.n_mk, VT.c_mk]
        have hO2 := hO.below hb2
        have hB02 := hB0.below hb2
        have hB12 := hB1.below hb2
        have hbel2 := hbel.trans (hb2.mono hbel.size)
        have hsz2 := hb2.size
        have hu2 : VT.In w2 (fun b => w.heap.size + 2 ≤ b ∧ u3.ownBlock ≠ some b) (.mk k' i' s' n' p' c' f') := by
          refine hin2.mono fun b hb hl => ⟨by omega, fun e => ?_⟩
          have := (hO.own.lt b e).2
          omega
        have HX : Hid (OwnV (w.heap.size + 2) w2 u3 j g ∧ VT.In w2 (fun b => w.heap.size + 2 ≤ b ∧ u3.ownBlock ≠ some b) (.mk k' i' s' n' p' c' f') ∧ VT.Alike (f j) (.mk k' i' s' n' p' c' f')) := ⟨hO2, hu2, hal2⟩
        have hR := hO2.own
        have hsz1 : w.heap.size + 2 ≤ w2.heap.size := by omega
        have HBe : Hid (Below w.heap.size w w2) := hbel2
        clear hO hin2 hO2 hu2 hal2 hbel hb2 hB0 hB1 b0 b1 b2 b3 c0 c1 c2 c3 HC hbel2
        go_wp2_with (at_builtin; refine wpList_app rfl (.tmp 12) (.tmp 19) 31 33 i0 _ 4 56 Kd rfl (w.heap.size + 2) u3 j _ rfl (hR.alloc _) ⟨w2.heap.size, 0, none⟩ 1 1 [.int .i64 k', .int .i64 i', .string s', .slice p' n' c'] rfl rfl (news4 _ _ _ _ _ _) ?_ ?_ ?_ ?_ ?_)
        · exact oneCell_cells (.mk k' i' s' n' p' c' f')
        · omega
        · omega
        · simp; omega
        · intro v3 w3 ho3 hg3 hn3
          obtain ⟨hO2, hu2, hal2⟩ := HX.out
          have ha : Below w2.heap.size w2 (w2.alloc (.cells #[.int .i64 k', .int .i64 i', .string s', .slice p' n' c'] 33)) := (Below.refl _ _).alloc (Nat.le_refl _) _
          have hO3 := (hO2.below ha).push (hu2.below ha) ho3 hg3 hn3
          have hne : ∀ x, x < w.heap.size + 2 → (w2.alloc (.cells #[.int .i64 k', .int .i64 i', .string s', .slice p' n' c'] 33)).heap[x]? = w3.heap[x]? := fun x hx => (hg3.block x (by simp; omega) (fun e => by have := (hO2.own.lt x e.symm).1; omega)).symm
          have hB03 : Box w3 w.heap.size _ _ := (hB02.below ha).kept (hne _ (by omega)).symm
          have hB13 : Box w3 (w.heap.size + 1) _ _ := (hB12.below ha).kept (hne _ (by omega)).symm
          have hbel3 : Below w.heap.size w w3 := (HBe.out.trans (ha.mono (by omega))).grown hg3 (by simp; omega) (fun k hk => by have := (hO2.own.lt k hk).1; omega)
          have HX3 : Hid (OwnV (w.heap.size + 2) w3 v3 (j + 1) (fun q => if q < j then g q else .mk k' i' s' n' p' c' f')) := hO3
          have HA3 : Hid (∀ q, q < j + 1 → VT.Alike (f q) (if q < j then g q else .mk k' i' s' n' p' c' f')) := by
            intro q hq
            by_cases hqj : q < j
            · rw [if_pos hqj]; exact HAl.out q hqj
            · rw [if_neg hqj]
              obtain rfl : q = j := by omega
              exact hal2
          clear hO3 ho3 hg3 hn3 hne ha hO2 hu2 hal2 hR HX
          go_wp2
          go_roundw
          case rel => exact ⟨j + 1, _, by omega, by go_num, HX3.out, HA3.out, hB03, hB13, hbel3⟩
          case measure => simp [intOf]; omega
      · obtain rfl : j = n := by omega
        obtain ⟨p3, c3, hv, h1, h2, h3, h4, h5⟩ := hO.in_
        have HL : Hid (VT.Alike (.mk k i s j p c f) (.mk k i s j p3 c3 g) ∧ VT.In wr (fun b => w.heap.size + 2 ≤ b) (.mk k i s j p3 c3 g)) :=
          ⟨⟨rfl, rfl, rfl, rfl, hal⟩, ⟨⟨HF.k0, HF.k1, HF.i0, HF.i1, HF.s1, h1, HF.nn, h2, h3⟩, h4, h5⟩⟩
        have f3 := hB0.frozen 3
        have g0 := hB1.frozen 0
        have g1 := hB1.frozen 1
        have g2 := hB1.frozen 2
        have g3 := hB1.frozen 3
        have d0 := hB1.cell 0
        have d1 := hB1.cell 1
        have d2 := hB1.cell 2
        have d3 := hB1.cell 3
        simp at d0 d1 d2 d3
        subst hv
        clear h4 h5 hO HI hal ih
        go_wp2
        have hk : But (fun x => x = w.heap.size ∨ x = w.heap.size + 1) wr (((((wr.setCell ⟨w.heap.size, 3, none⟩ (.slice p3 j c3)).setCell ⟨w.heap.size + 1, 0, none⟩ (.int .i64 k)).setCell ⟨w.heap.size + 1, 1, none⟩ (.int .i64 i)).setCell ⟨w.heap.size + 1, 2, none⟩ (.string s)).setCell ⟨w.heap.size + 1, 3, none⟩ (.slice p3 j c3)) :=
          (((((But.refl _ wr).setCell (fun _ => Or.inl rfl) _).setCell (fun _ => Or.inr rfl) _).setCell (fun _ => Or.inr rfl) _).setCell (fun _ => Or.inr rfl) _).setCell (fun _ => Or.inr rfl) _
        refine bodyPost_ret (v := .agg #[.int .i64 k, .int .i64 i, .string s, .slice p3 j c3]) (by simp [results, Try.results42, go_sem, d0, d1, d2, d3]) rfl ⟨.mk k i s j p3 c3 g, rfl, HL.out.1, ?_, ?_⟩
        · exact (HL.out.2.but hk (fun b hb _ => by omega)).mono fun b hb _ => by omega
        · exact hbel.trans (hk.below (by omega) (fun x hx => by omega))
end Go.Proofs.Ytdncnnjhfipokaa
