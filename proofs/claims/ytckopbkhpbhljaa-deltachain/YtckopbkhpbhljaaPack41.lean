import Derived.Test.YtckopbkhpbhljaaPack40
import Derived.Lib.Strings
import Derived.Test.YtckopbkhpbhljaaPack33
import Derived.Test.YtckopbkhpbhljaaPack39
namespace Go.Proofs.Ytckopbkhpbhljaa
open Go.RowKit
set_option maxRecDepth 8000

theorem txtB_inj {s u : ByteArray} (h : txtB s = txtB u) : s = u := by
  have h1 : s.data.toList = u.data.toList := by
    unfold txtB at h
    have inj : ∀ (a b : List UInt8), a.map (fun b => (b.toNat : Int)) = b.map (fun b => (b.toNat : Int)) → a = b := by
      intro a
      induction a with
      | nil => intro b h; cases b with
        | nil => rfl
        | cons => simp at h
      | cons x a ih =>
        intro b h
        cases b with
        | nil => simp at h
        | cons y b =>
          simp only [List.map_cons, List.cons.injEq] at h
          have h2 : x = y := UInt8.toNat_inj.1 (by omega)
          rw [h2, ih b h.2]
    exact inj _ _ h
  exact ByteArray.ext (Array.ext' h1)
theorem nil_text {s u : ByteArray} (hs : s.toList = []) (hu : u.toList = []) : s = u := by
  rw [Go.Lib.toList_data] at hs hu
  exact ByteArray.ext (Array.ext' (hs.trans hu.symm))
theorem grp_inj : ∀ (u v : Nat) (r1 r2 : List Int), grpB u ++ r1 = grpB v ++ r2 → u = v ∧ r1 = r2 := by
  intro u
  induction u using Nat.strongRecOn with
  | ind u ih =>
    intro v r1 r2 h
    by_cases hu : u < 128
    · rw [grpB_small hu] at h
      by_cases hv : v < 128
      · rw [grpB_small hv] at h
        simp only [List.cons_append, List.nil_append, List.cons.injEq] at h
        exact ⟨by omega, h.2⟩
      · rw [grpB_great hv] at h
        simp only [List.cons_append, List.nil_append, List.cons.injEq] at h
        omega
    · rw [grpB_great hu] at h
      by_cases hv : v < 128
      · rw [grpB_small hv] at h
        simp only [List.cons_append, List.nil_append, List.cons.injEq] at h
        omega
      · rw [grpB_great hv] at h
        simp only [List.cons_append, List.cons.injEq] at h
        have h2 := ih (u / 128) (by omega) (v / 128) r1 r2 h.2
        exact ⟨by omega, h2.2⟩
theorem fold_inj {i j : Int} (h : foldN i = foldN j) : i = j := by
  unfold foldN at h
  split at h <;> split at h <;> omega
theorem app_inj {a b : List Int} : ∀ {r1 r2 : List Int}, a.length = b.length → a ++ r1 = b ++ r2 → a = b ∧ r1 = r2 := fun hl h => List.append_inj h hl
theorem fit_facts {k i : Int} {s : ByteArray} {n : Nat} (h : fitB k i s n = true) : (0 ≤ k ∧ k ≤ 3) ∧ (i = 0 ∨ k = 1) ∧ (s.toList = [] ∨ k = 2) ∧ (n = 0 ∨ k = 3) := by
  simp only [fitB, Bool.and_eq_true, Bool.or_eq_true, decide_eq_true_eq, List.isEmpty_iff] at h
  exact ⟨⟨h.1.1.1.1, h.1.1.1.2⟩, h.1.1.2, h.1.2, h.2⟩
theorem enc_inj : ∀ (t u : VT) (r1 r2 : List Int), Val t → Val u → encB t ++ r1 = encB u ++ r2 → VT.Alike t u ∧ r1 = r2 := by
  intro t
  induction t with
  | nil => intro u r1 r2 h; exact h.elim
  | mk k i s n p c f ih =>
    intro u r1 r2 ht hu h
    cases u with
    | nil => exact hu.elim
    | mk k2 i2 s2 n2 p2 c2 f2 =>
      obtain ⟨⟨h1, _, _, _, _⟩, hi⟩ := ht
      obtain ⟨⟨g1, _, _, _, _⟩, gi⟩ := hu
      obtain ⟨⟨a0, a3⟩, ai, aS, an⟩ := fit_facts h1
      obtain ⟨_, bi, bS, bn⟩ := fit_facts g1
      rw [encB_eq, encB_eq] at h
      simp only [List.cons_append, List.cons.injEq] at h
      obtain ⟨hk, h⟩ := h
      subst hk
      rcases (by omega : k = 0 ∨ k = 1 ∨ k = 2 ∨ k = 3) with rfl | rfl | rfl | rfl
      · simp only [show ¬ (0 : Int) = 1 by decide, show ¬ (0 : Int) = 2 by decide, show ¬ (0 : Int) = 3 by decide, if_false, List.nil_append, or_false] at h ai aS an bi bS bn
        subst ai an bi bn
        exact ⟨⟨rfl, rfl, nil_text bS aS, rfl, fun j hj => absurd hj (by omega)⟩, h⟩
      · simp only [show ¬ (1 : Int) = 2 by decide, show ¬ (1 : Int) = 3 by decide, if_true, or_false] at h aS an bS bn
        subst an bn
        obtain ⟨h2, h3⟩ := grp_inj _ _ _ _ h
        exact ⟨⟨rfl, (fold_inj h2).symm, nil_text bS aS, rfl, fun j hj => absurd hj (by omega)⟩, h3⟩
      · simp only [show ¬ (2 : Int) = 1 by decide, show ¬ (2 : Int) = 3 by decide, if_true, if_false, or_false, List.cons_append, List.cons.injEq] at h ai an bi bn
        subst ai an bi bn
        obtain ⟨h2, h3⟩ := app_inj (by rw [txtB_len, txtB_len]; omega) h.2
        exact ⟨⟨rfl, rfl, (txtB_inj h2).symm, rfl, fun j hj => absurd hj (by omega)⟩, h3⟩
      · simp only [show ¬ (3 : Int) = 1 by decide, show ¬ (3 : Int) = 2 by decide, if_true, if_false, or_false, List.cons_append, List.cons.injEq] at h ai aS bi bS
        subst ai bi
        obtain ⟨hn, h⟩ := h
        have hn2 : n2 = n := by omega
        subst hn2
        have key : ∀ m, m ≤ n2 → ∀ q1 q2 : List Int, ((List.range m).flatMap fun j => encB (f j)) ++ q1 = ((List.range m).flatMap fun j => encB (f2 j)) ++ q2 → (∀ j, j < m → VT.Alike (f j) (f2 j)) ∧ q1 = q2 := by
          intro m
          induction m with
          | zero => intro _ q1 q2 h; exact ⟨fun j hj => absurd hj (by omega), by simpa using h⟩
          | succ m ihm =>
            intro hm q1 q2 h
            rw [List.range_succ, List.flatMap_append, List.flatMap_append] at h
            simp only [List.flatMap_cons, List.flatMap_nil, List.append_nil, List.append_assoc] at h
            obtain ⟨e1, e2⟩ := ihm (by omega) _ _ h
            obtain ⟨e3, e4⟩ := ih m (f2 m) q1 q2 (hi m (by omega)) (gi m (by omega)) e2
            refine ⟨fun j hj => ?_, e4⟩
            by_cases hjm : j < m
            · exact e1 j hjm
            · obtain rfl : j = m := by omega
              exact e3
        obtain ⟨e1, e2⟩ := key n2 (Nat.le_refl _) r1 r2 h
        exact ⟨⟨rfl, rfl, nil_text bS aS, rfl, e1⟩, e2⟩
end Go.Proofs.Ytckopbkhpbhljaa

namespace Go.Proofs.Ytckopbkhpbhljaa
open Go.RowKit
set_option maxRecDepth 8000

/-- how three comparings hang together -/
def Tri3 (x y z : Int) : Prop := x ≤ 0 → y ≤ 0 → z ≤ 0 ∧ (z = 0 ↔ x = 0 ∧ y = 0)
theorem cmpI_range (x y : Int) : -1 ≤ cmpI x y ∧ cmpI x y ≤ 1 := by unfold cmpI; split <;> (try split) <;> omega
theorem cmpI_anti (x y : Int) : cmpI y x = - cmpI x y := by unfold cmpI; repeat' split; all_goals omega
theorem cmpI_zero (x y : Int) : cmpI x y = 0 ↔ x = y := by unfold cmpI; repeat' split; all_goals omega
theorem cmpI_neg (x y : Int) : cmpI x y < 0 ↔ x < y := by unfold cmpI; repeat' split; all_goals omega
theorem cmpI_tri (x y z : Int) : Tri3 (cmpI x y) (cmpI y z) (cmpI x z) := by
  intro h1 h2
  unfold cmpI at *
  repeat' split
  all_goals (repeat' split at h1)
  all_goals (repeat' split at h2)
  all_goals omega
/-- the order of lists -/
def lexL {α : Type} (c : α → α → Int) : List α → List α → Int
  | [], [] => 0
  | [], _ :: _ => -1
  | _ :: _, [] => 1
  | a :: x, b :: y => if c a b ≠ 0 then c a b else lexL c x y
def All2 {α : Type} (R : α → α → Prop) : List α → List α → Prop
  | [], [] => True
  | [], _ :: _ => False
  | _ :: _, [] => False
  | a :: x, b :: y => R a b ∧ All2 R x y
section
variable {α : Type} {c : α → α → Int}
theorem lex_range : ∀ {x y : List α}, (∀ a ∈ x, ∀ b ∈ y, -1 ≤ c a b ∧ c a b ≤ 1) → -1 ≤ lexL c x y ∧ lexL c x y ≤ 1 := by
  intro x
  induction x with
  | nil => intro y _; cases y <;> simp [lexL]
  | cons a x ih =>
    intro y h
    cases y with
    | nil => simp [lexL]
    | cons b y =>
      simp only [lexL]
      split
      · exact h a (by simp) b (by simp)
      · exact ih fun d hd e he => h d (by simp [hd]) e (by simp [he])
theorem lex_anti : ∀ {x y : List α}, (∀ a ∈ x, ∀ b ∈ y, c b a = - c a b) → lexL c y x = - lexL c x y := by
  intro x
  induction x with
  | nil => intro y _; cases y <;> simp [lexL]
  | cons a x ih =>
    intro y h
    cases y with
    | nil => simp [lexL]
    | cons b y =>
      have h1 := h a (by simp) b (by simp)
      have h2 := ih (y := y) fun d hd e he => h d (by simp [hd]) e (by simp [he])
      simp only [lexL]
      by_cases hz : c a b = 0
      · rw [if_neg (by rw [h1]; omega), if_neg (by omega)]; exact h2
      · rw [if_pos (by rw [h1]; omega), if_pos hz]; exact h1
theorem lex_zero {R : α → α → Prop} : ∀ {x y : List α}, (∀ a ∈ x, ∀ b ∈ y, (c a b = 0 ↔ R a b)) → (lexL c x y = 0 ↔ All2 R x y) := by
  intro x
  induction x with
  | nil =>
    intro y _
    cases y with
    | nil => simp [lexL, All2]
    | cons b y => simp [lexL, All2]
  | cons a x ih =>
    intro y h
    cases y with
    | nil => simp [lexL, All2]
    | cons b y =>
      have h1 := h a (by simp) b (by simp)
      have h2 := ih (y := y) fun d hd e he => h d (by simp [hd]) e (by simp [he])
      simp only [lexL, All2]
      by_cases hz : c a b = 0
      · rw [if_neg (by omega), h2, ← h1]; simp [hz]
      · rw [if_pos hz, ← h1]; simp [hz]
theorem lex_tri : ∀ {x y z : List α}, (∀ a ∈ x, ∀ b ∈ y, ∀ d ∈ z, Tri3 (c a b) (c b d) (c a d)) → Tri3 (lexL c x y) (lexL c y z) (lexL c x z) := by
  intro x
  induction x with
  | nil =>
    intro y z _ h1 h2
    cases y <;> cases z <;> simp [lexL] at *
  | cons a x ih =>
    intro y z h h1 h2
    cases y with
    | nil => simp [lexL] at h1
    | cons b y =>
      cases z with
      | nil => simp [lexL] at h2
      | cons d z =>
        have ht := h a (by simp) b (by simp) d (by simp)
        have hi := ih (y := y) (z := z) fun p hp q hq r hr => h p (by simp [hp]) q (by simp [hq]) r (by simp [hr])
        unfold Tri3 at ht hi
        simp only [lexL] at h1 h2 ⊢
        by_cases z1 : c a b = 0
        · by_cases z2 : c b d = 0
          · have z3 := (ht (by omega) (by omega)).2.2 ⟨z1, z2⟩
            rw [if_neg (by omega)] at h1 h2 ⊢
            rw [if_neg (by omega), if_neg (by omega)]
            exact hi h1 h2
          · rw [if_pos z2] at h2 ⊢
            have h3 := ht (by omega) h2
            have z3 : c a d ≠ 0 := fun e => z2 (h3.2.1 e).2
            rw [if_pos z3]
            refine ⟨h3.1, fun e => absurd e z3, fun e => absurd e.2 z2⟩
        · rw [if_pos z1] at h1 ⊢
          by_cases z2 : c b d = 0
          · have h3 := ht h1 (by omega)
            have z3 : c a d ≠ 0 := fun e => z1 (h3.2.1 e).1
            rw [if_pos z3]
            refine ⟨h3.1, fun e => absurd e z3, fun e => absurd e.1 z1⟩
          · rw [if_pos z2] at h2 ⊢
            have h3 := ht h1 h2
            have z3 : c a d ≠ 0 := fun e => z1 (h3.2.1 e).1
            rw [if_pos z3]
            refine ⟨h3.1, fun e => absurd e z3, fun e => absurd e.1 z1⟩
end
def cmpU (a b : UInt8) : Int := cmpI (a.toNat : Int) (b.toNat : Int)
theorem cb_lex : ∀ a b : List UInt8, Go.Lib.compareBytes a b = lexL cmpU a b := by
  intro a
  induction a with
  | nil => intro b; cases b <;> rfl
  | cons x a ih =>
    intro b
    cases b with
    | nil => rfl
    | cons y b =>
      simp only [Go.Lib.compareBytes, lexL, UInt8.lt_iff_toNat_lt, ih]
      by_cases h1 : x.toNat < y.toNat
      · have e : cmpU x y = -1 := by unfold cmpU cmpI; rw [if_pos (by omega)]
        rw [if_pos h1]; simp [e]
      · by_cases h2 : y.toNat < x.toNat
        · have e : cmpU x y = 1 := by unfold cmpU cmpI; rw [if_neg (by omega), if_pos (by omega)]
          rw [if_neg h1, if_pos h2]; simp [e]
        · have e : cmpU x y = 0 := by unfold cmpU cmpI; rw [if_neg (by omega), if_neg (by omega)]
          rw [if_neg h1, if_neg h2]; simp [e]
theorem all2_eq {α : Type} : ∀ (x y : List α), All2 (fun a b => a = b) x y ↔ x = y := by
  intro x
  induction x with
  | nil => intro y; cases y <;> simp [All2]
  | cons a x ih => intro y; cases y <;> simp [All2, ih]
theorem cmpS_range (s u : ByteArray) : -1 ≤ cmpS s u ∧ cmpS s u ≤ 1 := by
  unfold cmpS; rw [cb_lex]; exact lex_range fun a _ b _ => cmpI_range _ _
theorem cmpS_anti (s u : ByteArray) : cmpS u s = - cmpS s u := by
  unfold cmpS; rw [cb_lex, cb_lex]; exact lex_anti fun a _ b _ => cmpI_anti _ _
theorem cmpS_tri (s u v : ByteArray) : Tri3 (cmpS s u) (cmpS u v) (cmpS s v) := by
  unfold cmpS; rw [cb_lex, cb_lex, cb_lex]; exact lex_tri fun a _ b _ d _ => cmpI_tri _ _ _
theorem cmpS_zero (s u : ByteArray) : cmpS s u = 0 ↔ s = u := by
  unfold cmpS
  rw [cb_lex, lex_zero (R := fun a b => a = b) fun a _ b _ => by unfold cmpU; rw [cmpI_zero]; exact ⟨fun h => UInt8.toNat_inj.1 (by omega), fun h => by rw [h]⟩]
  rw [all2_eq]
  exact ⟨fun h => ByteArray.ext (Array.ext' h), fun h => by rw [h]⟩
end Go.Proofs.Ytckopbkhpbhljaa
