import Derived.Test.YtdpfgflofjiheaaPack9
import Derived.Test.YtdpfgflofjiheaaPack10
import Derived.Test.YtdpfgflofjiheaaYO
namespace Go.Proofs.Ytdpfgflofjiheaa
open Go.RowKit
set_option maxRecDepth 8000
/-- how many copies of a task stand among d entries -/
def cpN (f : Nat → TR) (a : Nat) (i : Int) (k : Nat) : Nat → Nat
  | 0 => 0
  | d + 1 => cpN f a i k d + (if (f (a + d)).kind = 3 ∧ (f (a + d)).id = i ∧ (f (a + d)).task = (k : Int) then 1 else 0)
theorem cpN_yes {f : Nat → TR} {a : Nat} {i : Int} {k d : Nat} (h : (f (a + d)).cp i (k : Int)) : cpN f a i k (d + 1) = cpN f a i k d + 1 := by unfold TR.cp at h; rw [cpN, if_pos h]
theorem cpN_no {f : Nat → TR} {a : Nat} {i : Int} {k d : Nat} (h : ¬ (f (a + d)).cp i (k : Int)) : cpN f a i k (d + 1) = cpN f a i k d := by unfold TR.cp at h; rw [cpN, if_neg h]; rfl
theorem cpN_le {f : Nat → TR} {a : Nat} {i : Int} {k d : Nat} : cpN f a i k d ≤ d := by
  induction d with
  | zero => exact Nat.le_refl _
  | succ d ih => rw [cpN]; split <;> omega
theorem cpN_mono {f : Nat → TR} {a : Nat} {i : Int} {k d d' : Nat} (h : d ≤ d') : cpN f a i k d ≤ cpN f a i k d' := by
  induction h with
  | refl => exact Nat.le_refl _
  | step _ ih => rw [cpN]; omega
theorem cpN_zero {f : Nat → TR} {a : Nat} {i : Int} {k : Nat} : ∀ {d : Nat}, cpN f a i k d = 0 ↔ ∀ q, a ≤ q → q < a + d → ¬ (f q).cp i (k : Int) := by
  intro d
  induction d with
  | zero => exact ⟨fun _ q h1 h2 => by omega, fun _ => rfl⟩
  | succ d ih =>
    by_cases h : (f (a + d)).cp i (k : Int)
    · rw [cpN_yes h]
      exact ⟨fun h1 => by omega, fun h1 => (h1 (a + d) (by omega) (by omega) h).elim⟩
    · rw [cpN_no h, ih]
      refine ⟨fun h1 q h2 h3 => ?_, fun h1 q h2 h3 => h1 q h2 (by omega)⟩
      by_cases hq : q = a + d
      · subst hq; exact h
      · exact h1 q h2 (by omega)
theorem cpN_one {f : Nat → TR} {a : Nat} {i : Int} {k : Nat} : ∀ {d : Nat}, cpN f a i k d = 1 ↔ ∃ m, OneCp f a (a + d) i (k : Int) m := by
  intro d
  induction d with
  | zero => exact ⟨fun h => (by cases h), fun ⟨m, h1, h2, _⟩ => by omega⟩
  | succ d ih =>
    by_cases h : (f (a + d)).cp i (k : Int)
    · rw [cpN_yes h]
      constructor
      · intro h1
        have h2 := cpN_zero.1 (show cpN f a i k d = 0 by omega)
        refine ⟨a + d, by omega, by omega, h, fun q h3 h4 h5 => ?_⟩
        by_cases hq : q = a + d
        · exact hq
        · exact (h2 q h3 (by omega) h5).elim
      · rintro ⟨m, h1, h2, h3, h4⟩
        have e := h4 (a + d) (by omega) (by omega) h
        have : cpN f a i k d = 0 := cpN_zero.2 fun q h5 h6 h7 => by have := h4 q h5 (by omega) h7; omega
        omega
    · rw [cpN_no h, ih]
      constructor
      · rintro ⟨m, h1, h2, h3, h4⟩
        refine ⟨m, h1, by omega, h3, fun q h5 h6 h7 => ?_⟩
        by_cases hq : q = a + d
        · subst hq; exact (h h7).elim
        · exact h4 q h5 (by omega) h7
      · rintro ⟨m, h1, h2, h3, h4⟩
        have hm : m ≠ a + d := fun e => by subst e; exact h h3
        exact ⟨m, h1, by omega, h3, fun q h5 h6 h7 => h4 q h5 (by omega) h7⟩
/-- no copy of its task yet -/
def befC (f : Nat → TR) (a : Nat) (i : Int) (first : Bool) (q : Nat) : Bool := decide (cpN f a i (f q).task.toNat (q - a) = 0) == first
theorem befC_befP {f : Nat → TR} {a b : Nat} {n i : Int} {m : Nat → Nat} {first : Bool} (hc : ∀ q, a ≤ q → q < b → Can n (f q)) (h : ∀ k : Nat, k < n.toNat → OneCp f a b i (k : Int) (m k)) : evsF f (befC f a i first) a (b - a) = evsF f (befP f m first) a (b - a) := by
  refine evsF_congr fun q h1 h2 h3 => ?_
  have hq := hc q h1 (by omega)
  have hk : (f q).task.toNat < n.toNat := by have := hq.1; have := hq.2.1; omega
  obtain ⟨g1, g2, g3, g4⟩ := h _ hk
  unfold befC befP
  have e : (cpN f a i (f q).task.toNat (q - a) = 0) ↔ q < m (f q).task.toNat := by
    rw [cpN_zero]
    constructor
    · intro h4
      rcases Nat.lt_trichotomy q (m (f q).task.toNat) with h5 | h5 | h5
      · exact h5
      · rw [← h5] at g3
        have := g3.1
        omega
      · exact (h4 _ g1 (by omega) g3).elim
    · intro h4 r h5 h6 h7
      have := g4 r h5 (by omega) h7
      omega
  by_cases hz : q < m (f q).task.toNat
  · rw [decide_eq_true (e.2 hz), decide_eq_true hz]
  · rw [decide_eq_false (fun h => hz (e.1 h)), decide_eq_false hz]
/-- what read answers -/
def ReadQ (l : LT TR) (S : Nat → Prop) (i : Int) (g T : Nat) (w : World) (e : Ending) (w' : World) : Prop := But (fun k => k = g) w w' ∧ Raw w' g T ∧
  ((NoLife l.item l.n i ∧ e = .returned (.tuple #[.agg #[.int .i64 0, .slice none 0 0, .slice none 0 0, .slice none 0 0, .slice none 0 0], .int .i64 180])) ∨
   (∃ a b, LifeAt l.item l.n i a b ∧ ¬ AllCp l.item a b i T ∧ e = .returned (.tuple #[.agg #[.int .i64 0, .slice none 0 0, .slice none 0 0, .slice none 0 0, .slice none 0 0], .int .i64 181])) ∨
   ∃ (a b : Nat) (m : Nat → Nat) (pa pe : Option Addr) (ca ce : Nat) (v1 v2 : Value), LifeAt l.item l.n i a b ∧ (∀ k : Nat, k < T → OneCp l.item a b i (k : Int) (m k)) ∧ e = .returned (.tuple #[.agg #[.int .i64 (beganOf l.item a), .slice pa (a - 1) ca, .slice pe (b - a) ce, v1, v2], .int .i64 0]) ∧ LT.In elTr w' S ⟨pa, a - 1, ca, l.item⟩ ∧ LT.In elTr w' S ⟨pe, b - a, ce, fun j => l.item (a + j)⟩ ∧ EvRow w.heap.size w' v1 (evsF l.item (befP l.item m true) a (b - a)) ∧ EvRow w.heap.size w' v2 (evsF l.item (befP l.item m false) a (b - a)) ∧ ∀ x, v1.ownBlock = some x → v2.ownBlock ≠ some x)
end Go.Proofs.Ytdpfgflofjiheaa

namespace Go.Proofs.Ytdpfgflofjiheaa
open Go.RowKit
set_option maxRecDepth 8000
/-- events with their sides: the befores, the afters, all -/
def befs (L : List (EV × Bool)) : List EV := (L.filter fun x => x.2).map fun x => x.1
def afts (L : List (EV × Bool)) : List EV := (L.filter fun x => !x.2).map fun x => x.1
def alls (L : List (EV × Bool)) : List EV := L.map fun x => x.1
theorem befs_app (x y : List (EV × Bool)) : befs (x ++ y) = befs x ++ befs y := by simp [befs]
theorem afts_app (x y : List (EV × Bool)) : afts (x ++ y) = afts x ++ afts y := by simp [afts]
theorem alls_app (x y : List (EV × Bool)) : alls (x ++ y) = alls x ++ alls y := by simp [alls]
theorem alls_len (x : List (EV × Bool)) : (alls x).length = x.length := by simp [alls]
theorem sides_len (x : List (EV × Bool)) : (befs x).length + (afts x).length = x.length := by
  induction x with
  | nil => rfl
  | cons y r ih =>
    obtain ⟨e, b⟩ := y
    cases b <;> simp [befs, afts] at ih ⊢ <;> omega
/-- the next before event -/
theorem next_bef : ∀ (L : List (EV × Bool)) (t : Nat), t < (befs L).length → ∃ pre e post, L = pre ++ (e, true) :: post ∧ (befs pre).length = t := by
  intro L
  induction L with
  | nil => intro t h; simp [befs] at h
  | cons y r ih =>
    intro t h
    obtain ⟨e, b⟩ := y
    cases b with
    | true =>
      cases t with
      | zero => exact ⟨[], e, r, rfl, rfl⟩
      | succ t =>
        obtain ⟨pre, e', post, h1, h2⟩ := ih t (by simp [befs] at h ⊢; omega)
        exact ⟨(e, true) :: pre, e', post, by rw [h1]; rfl, by simp [befs] at h2 ⊢; omega⟩
    | false =>
      obtain ⟨pre, e', post, h1, h2⟩ := ih t (by simpa [befs] using h)
      exact ⟨(e, false) :: pre, e', post, by rw [h1]; rfl, by simpa [befs] using h2⟩
theorem befs_nil_split : ∀ (x y x' y' : List (EV × Bool)), x ++ y = x' ++ y' → (befs x).length = (befs x').length → befs x ++ afts x ++ alls y = befs x' ++ afts x' ++ alls y' := by
  intro x
  induction x with
  | nil =>
    intro y x' y' h hl
    have h0 : befs x' = [] := List.eq_nil_of_length_eq_zero (by rw [← hl]; rfl)
    have h1 : ∀ z : List (EV × Bool), befs z = [] → afts z = alls z := by
      intro z
      induction z with
      | nil => intro _; rfl
      | cons q r ih =>
        intro hz
        obtain ⟨e, b⟩ := q
        cases b with
        | true => simp [befs] at hz
        | false =>
          have := ih (by simpa [befs] using hz)
          simp [afts, alls] at this ⊢
          exact this
    rw [h0, h1 x' h0]
    simp only [List.nil_append] at h ⊢
    rw [h, alls_app]
    rfl
  | cons q r ih =>
    intro y x' y' h hl
    cases x' with
    | nil =>
      have h0 : befs (q :: r) = [] := List.eq_nil_of_length_eq_zero (by rw [hl]; rfl)
      have h1 : ∀ z : List (EV × Bool), befs z = [] → afts z = alls z := by
        intro z
        induction z with
        | nil => intro _; rfl
        | cons q r ih =>
          intro hz
          obtain ⟨e, b⟩ := q
          cases b with
          | true => simp [befs] at hz
          | false =>
            have := ih (by simpa [befs] using hz)
            simp [afts, alls] at this ⊢
            exact this
      rw [h0, h1 _ h0]
      simp only [List.nil_append] at h ⊢
      rw [← h, alls_app]
      rfl
    | cons q' r' =>
      obtain ⟨rfl, h2⟩ := List.cons.inj h
      obtain ⟨e, b⟩ := q
      cases b with
      | true =>
        have := ih y r' y' h2 (by simp [befs] at hl ⊢; omega)
        have e1 : ∀ z : List (EV × Bool), befs ((e, true) :: z) = e :: befs z := fun z => by simp [befs]
        have e2 : ∀ z : List (EV × Bool), afts ((e, true) :: z) = afts z := fun z => by simp [afts]
        rw [e1, e1, e2, e2, List.cons_append, List.cons_append, List.cons_append, List.cons_append, this]
      | false =>
        have e1 : ∀ z : List (EV × Bool), befs ((e, false) :: z) = befs z := fun z => by simp [befs]
        have e2 : ∀ z : List (EV × Bool), afts ((e, false) :: z) = e :: afts z := fun z => by simp [afts]
        have hl' : (befs r).length = (befs r').length := by rw [e1, e1] at hl; exact hl
        have h5 := ih y r' y' h2 hl'
        rw [List.append_assoc, List.append_assoc] at h5
        obtain ⟨h3, h4⟩ := List.append_inj h5 hl'
        rw [e1, e1, e2, e2, h3, List.append_assoc, List.append_assoc, List.cons_append, List.cons_append, h4]
/-- the places n - 1, n - 2, .. k -/
def down (n k : Nat) : List Int := (List.range (n - k)).map fun (j : Nat) => (n : Int) - 1 - (j : Int)
theorem down_self (n : Nat) : down n n = [] := by simp [down]
theorem down_snoc {n k : Nat} (h : k < n) : down n k = down n (k + 1) ++ [(k : Int)] := by
  unfold down
  rw [show n - k = (n - (k + 1)) + 1 by omega, List.range_succ, List.map_append]
  congr 1
  simp
  omega
theorem down_len (n k : Nat) : (down n k).length = n - k := by simp [down]
/-- the places of the exchanges -/
def pl : List (EV × Bool) → Nat → Nat → List Int
  | [], _, _ => []
  | (_, true) :: r, n, k => down n k ++ pl r (n + 1) (k + 1)
  | (_, false) :: r, n, k => pl r (n + 1) k
theorem pl_app : ∀ (x y : List (EV × Bool)) (n k : Nat), pl (x ++ y) n k = pl x n k ++ pl y (n + x.length) (k + (befs x).length) := by
  intro x
  induction x with
  | nil => intro y n k; simp [pl, befs]
  | cons q r ih =>
    intro y n k
    obtain ⟨e, b⟩ := q
    cases b with
    | true =>
      simp only [List.cons_append, pl, ih, List.append_assoc]
      congr 3
      · simp; omega
      · simp [befs]; omega
    | false =>
      simp only [List.cons_append, pl, ih]
      congr 2
      simp; omega
theorem pl_nobef : ∀ (x : List (EV × Bool)) (n k : Nat), befs x = [] → pl x n k = [] := by
  intro x
  induction x with
  | nil => intro _ _ _; rfl
  | cons q r ih =>
    intro n k h
    obtain ⟨e, b⟩ := q
    cases b with
    | true => simp [befs] at h
    | false => rw [pl]; exact ih _ _ (by simpa [befs] using h)
theorem pl_len : ∀ (x : List (EV × Bool)) (n k N : Nat), n + x.length ≤ N → (pl x n k).length ≤ x.length * N := by
  intro x
  induction x with
  | nil => intro n k N _; simp [pl]
  | cons q r ih =>
    intro n k N h
    obtain ⟨e, b⟩ := q
    simp only [List.length_cons] at h
    have e1 : (r.length + 1) * N = r.length * N + N := by rw [Nat.add_mul, Nat.one_mul]
    cases b with
    | true =>
      have := ih (n + 1) (k + 1) N (by omega)
      rw [pl, List.length_append, down_len, List.length_cons, e1]
      omega
    | false =>
      have := ih (n + 1) k N (by omega)
      rw [pl, List.length_cons, e1]
      omega
/-- behind an after event no before event of its task -/
def Mono (L : List (EV × Bool)) : Prop := ∀ pre e mid e' post, L = pre ++ (e, false) :: (mid ++ (e', true) :: post) → e.task ≠ e'.task
theorem Mono.afts {pre post : List (EV × Bool)} {e : EV} (h : Mono (pre ++ (e, true) :: post)) : ∀ x ∈ Go.Proofs.Ytdpfgflofjiheaa.afts pre, x.task ≠ e.task := by
  intro x hx
  unfold Go.Proofs.Ytdpfgflofjiheaa.afts at hx
  obtain ⟨y, hy, rfl⟩ := List.mem_map.1 hx
  obtain ⟨hy1, hy2⟩ := List.mem_filter.1 hy
  obtain ⟨l1, l2, rfl⟩ := List.append_of_mem hy1
  obtain ⟨e0, b0⟩ := y
  cases b0 with
  | true => simp at hy2
  | false => exact h l1 e0 l2 e post (by simp)
/-- the step entries among d, with their sides -/
def evL (f : Nat → TR) (P : Nat → Bool) (a : Nat) : Nat → List (EV × Bool)
  | 0 => []
  | d + 1 => if (f (a + d)).kind = 1 then evL f P a d ++ [((f (a + d)).ev, P (a + d))] else evL f P a d
theorem evL_yes {f : Nat → TR} {P : Nat → Bool} {a d : Nat} (h : (f (a + d)).kind = 1) : evL f P a (d + 1) = evL f P a d ++ [((f (a + d)).ev, P (a + d))] := by rw [evL, if_pos h]
theorem evL_no {f : Nat → TR} {P : Nat → Bool} {a d : Nat} (h : ¬ (f (a + d)).kind = 1) : evL f P a (d + 1) = evL f P a d := by rw [evL, if_neg h]
theorem evL_alls (f : Nat → TR) (P : Nat → Bool) (a d : Nat) : alls (evL f P a d) = evsF f (fun _ => true) a d := by
  induction d with
  | zero => rfl
  | succ d ih =>
    by_cases h : (f (a + d)).kind = 1
    · rw [evL_yes h, evsF_yes h rfl, alls_app, ih]; rfl
    · rw [evL_no h, evsF_no (fun g => h g.1), ih]
theorem evL_befs (f : Nat → TR) (P : Nat → Bool) (a d : Nat) : befs (evL f P a d) = evsF f P a d := by
  induction d with
  | zero => rfl
  | succ d ih =>
    by_cases h : (f (a + d)).kind = 1
    · rw [evL_yes h, befs_app, ih]
      by_cases hp : P (a + d) = true
      · rw [evsF_yes h hp]; simp [befs, hp]
      · rw [evsF_no (fun g => hp g.2)]; simp [befs, hp]
    · rw [evL_no h, evsF_no (fun g => h g.1), ih]
theorem evL_afts (f : Nat → TR) (P P' : Nat → Bool) (a d : Nat) (hP : ∀ q, P' q = !P q) : afts (evL f P a d) = evsF f P' a d := by
  induction d with
  | zero => rfl
  | succ d ih =>
    by_cases h : (f (a + d)).kind = 1
    · rw [evL_yes h, afts_app, ih]
      by_cases hp : P (a + d) = true
      · rw [evsF_no (fun g => by have := g.2; rw [hP, hp] at this; cases this)]; simp [afts, hp]
      · rw [evsF_yes h (by rw [hP]; simpa using hp)]; simp [afts, hp]
    · rw [evL_no h, evsF_no (fun g => h g.1), ih]
theorem evL_len (f : Nat → TR) (P : Nat → Bool) (a d : Nat) : (evL f P a d).length = (evsF f (fun _ => true) a d).length := by rw [← evL_alls f P, alls_len]
theorem evL_at (f : Nat → TR) (P : Nat → Bool) (a : Nat) : ∀ (d : Nat) (x : List (EV × Bool)) (y : EV × Bool) (z : List (EV × Bool)), evL f P a d = x ++ y :: z → ∃ q, a ≤ q ∧ q < a + d ∧ (f q).kind = 1 ∧ y = ((f q).ev, P q) ∧ x = evL f P a (q - a) := by
  intro d
  induction d with
  | zero => intro x y z h; simp [evL] at h
  | succ d ih =>
    intro x y z h
    by_cases hk : (f (a + d)).kind = 1
    · rw [evL_yes hk] at h
      rcases List.eq_nil_or_concat z with rfl | ⟨z', q, rfl⟩
      · obtain ⟨h1, h2⟩ := List.append_inj' h rfl
        refine ⟨a + d, by omega, by omega, hk, (by simpa using h2.symm), ?_⟩
        rw [show a + d - a = d by omega]; exact h1.symm
      · rw [List.concat_eq_append, ← List.cons_append, ← List.append_assoc] at h
        obtain ⟨h1, _⟩ := List.append_inj' h rfl
        obtain ⟨q, h3, h4, h5⟩ := ih x y z' h1
        exact ⟨q, h3, by omega, h5⟩
    · rw [evL_no hk] at h
      obtain ⟨q, h3, h4, h5⟩ := ih x y z h
      exact ⟨q, h3, by omega, h5⟩
theorem evL_mono {f : Nat → TR} {m : Nat → Nat} {a d : Nat} : Mono (evL f (befP f m true) a d) := by
  intro pre e mid e' post h ht
  obtain ⟨q, h1, h2, h3, h4, h5⟩ := evL_at f _ a d pre (e, false) _ h
  rw [show pre ++ (e, false) :: (mid ++ (e', true) :: post) = (pre ++ (e, false) :: mid) ++ (e', true) :: post by simp] at h
  obtain ⟨q', g1, g2, g3, g4, g5⟩ := evL_at f _ a d _ (e', true) _ h
  obtain ⟨rfl, h6⟩ := Prod.mk.inj h4
  obtain ⟨rfl, g6⟩ := Prod.mk.inj g4
  have hlen : pre.length < (evL f (befP f m true) a (q' - a)).length := by rw [← g5]; simp
  have hlt : q < q' := by
    rcases Nat.lt_or_ge q q' with h | h
    · exact h
    · have hmono : ∀ d d', d ≤ d' → (evL f (befP f m true) a d).length ≤ (evL f (befP f m true) a d').length := by
        intro d d' hd
        induction hd with
        | refl => exact Nat.le_refl _
        | step _ ih =>
          rw [evL]
          split
          · rw [List.length_append]; omega
          · omega
      have := hmono (q' - a) (q - a) (by omega)
      rw [← h5] at this
      omega
  unfold befP at h6 g6
  unfold TR.ev at ht
  dsimp only at ht
  rw [ht] at h6
  simp at h6 g6
  omega
end Go.Proofs.Ytdpfgflofjiheaa
