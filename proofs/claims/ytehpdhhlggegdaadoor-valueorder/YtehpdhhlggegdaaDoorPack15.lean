import Derived.Test.YtehpdhhlggegdaaDoorPack3
import Derived.Lib.Strings
import Derived.Test.YtehpdhhlggegdaaDoorPack2
namespace Go.Proofs.YtehpdhhlggegdaaDoor
open Go.RowKit
set_option maxRecDepth 8000

theorem txtB_inj {s u : ByteArray} (h : txtB s = txtB u) : s = u := by
  have h1 : s.data.toList = u.data.toList := by
    unfold txtB at h
    have inj : ∀ (a b : List UInt8), a.map (fun b => (b.toNat : Int)) = b.map (fun b => (b.toNat : Int)) → a = b := by
      intro a
      induction a with
      | nil => intro b h; cases b with
        | nil => rfl
        | cons => simp at h
      | cons x a ih =>
        intro b h
        cases b with
        | nil => simp at h
        | cons y b =>
          simp only [List.map_cons, List.cons.injEq] at h
          have h2 : x = y := UInt8.toNat_inj.1 (by omega)
          rw [h2, ih b h.2]
    exact inj _ _ h
  exact ByteArray.ext (Array.ext' h1)
theorem nil_text {s u : ByteArray} (hs : s.toList = []) (hu : u.toList = []) : s = u := by
  rw [Go.Lib.toList_data] at hs hu
  exact ByteArray.ext (Array.ext' (hs.trans hu.symm))
theorem grp_inj : ∀ (u v : Nat) (r1 r2 : List Int), grpB u ++ r1 = grpB v ++ r2 → u = v ∧ r1 = r2 := by
  intro u
  induction u using Nat.strongRecOn with
  | ind u ih =>
    intro v r1 r2 h
    by_cases hu : u < 128
    · rw [grpB_small hu] at h
      by_cases hv : v < 128
      · rw [grpB_small hv] at h
        simp only [List.cons_append, List.nil_append, List.cons.injEq] at h
        exact ⟨by omega, h.2⟩
      · rw [grpB_great hv] at h
        simp only [List.cons_append, List.nil_append, List.cons.injEq] at h
        omega
    · rw [grpB_great hu] at h
      by_cases hv : v < 128
      · rw [grpB_small hv] at h
        simp only [List.cons_append, List.nil_append, List.cons.injEq] at h
        omega
      · rw [grpB_great hv] at h
        simp only [List.cons_append, List.cons.injEq] at h
        have h2 := ih (u / 128) (by omega) (v / 128) r1 r2 h.2
        exact ⟨by omega, h2.2⟩
theorem fold_inj {i j : Int} (h : foldN i = foldN j) : i = j := by
  unfold foldN at h
  split at h <;> split at h <;> omega
theorem app_inj {a b : List Int} : ∀ {r1 r2 : List Int}, a.length = b.length → a ++ r1 = b ++ r2 → a = b ∧ r1 = r2 := fun hl h => List.append_inj h hl
theorem fit_facts {k i : Int} {s : ByteArray} {n : Nat} (h : fitB k i s n = true) : (0 ≤ k ∧ k ≤ 3) ∧ (i = 0 ∨ k = 1) ∧ (s.toList = [] ∨ k = 2) ∧ (n = 0 ∨ k = 3) := by
  simp only [fitB, Bool.and_eq_true, Bool.or_eq_true, decide_eq_true_eq, List.isEmpty_iff] at h
  exact ⟨⟨h.1.1.1.1, h.1.1.1.2⟩, h.1.1.2, h.1.2, h.2⟩
theorem enc_inj : ∀ (t u : VT) (r1 r2 : List Int), Val t → Val u → encB t ++ r1 = encB u ++ r2 → VT.Alike t u ∧ r1 = r2 := by
  intro t
  induction t with
  | nil => intro u r1 r2 h; exact h.elim
  | mk k i s n p c f ih =>
    intro u r1 r2 ht hu h
    cases u with
    | nil => exact hu.elim
    | mk k2 i2 s2 n2 p2 c2 f2 =>
      obtain ⟨⟨h1, _, _, _, _⟩, hi⟩ := ht
      obtain ⟨⟨g1, _, _, _, _⟩, gi⟩ := hu
      obtain ⟨⟨a0, a3⟩, ai, aS, an⟩ := fit_facts h1
      obtain ⟨_, bi, bS, bn⟩ := fit_facts g1
      rw [encB_eq, encB_eq] at h
      simp only [List.cons_append, List.cons.injEq] at h
      obtain ⟨hk, h⟩ := h
      subst hk
      rcases (by omega : k = 0 ∨ k = 1 ∨ k = 2 ∨ k = 3) with rfl | rfl | rfl | rfl
      · simp only [show ¬ (0 : Int) = 1 by decide, show ¬ (0 : Int) = 2 by decide, show ¬ (0 : Int) = 3 by decide, if_false, List.nil_append, or_false] at h ai aS an bi bS bn
        subst ai an bi bn
        exact ⟨⟨rfl, rfl, nil_text bS aS, rfl, fun j hj => absurd hj (by omega)⟩, h⟩
      · simp only [show ¬ (1 : Int) = 2 by decide, show ¬ (1 : Int) = 3 by decide, if_true, or_false] at h aS an bS bn
        subst an bn
        obtain ⟨h2, h3⟩ := grp_inj _ _ _ _ h
        exact ⟨⟨rfl, (fold_inj h2).symm, nil_text bS aS, rfl, fun j hj => absurd hj (by omega)⟩, h3⟩
      · simp only [show ¬ (2 : Int) = 1 by decide, show ¬ (2 : Int) = 3 by decide, if_true, if_false, or_false, List.cons_append, List.cons.injEq] at h ai an bi bn
        subst ai an bi bn
        obtain ⟨h2, h3⟩ := app_inj (by rw [txtB_len, txtB_len]; omega) h.2
        exact ⟨⟨rfl, rfl, (txtB_inj h2).symm, rfl, fun j hj => absurd hj (by omega)⟩, h3⟩
      · simp only [show ¬ (3 : Int) = 1 by decide, show ¬ (3 : Int) = 2 by decide, if_true, if_false, or_false, List.cons_append, List.cons.injEq] at h ai aS bi bS
        subst ai bi
        obtain ⟨hn, h⟩ := h
        have hn2 : n2 = n := by omega
        subst hn2
        have key : ∀ m, m ≤ n2 → ∀ q1 q2 : List Int, ((List.range m).flatMap fun j => encB (f j)) ++ q1 = ((List.range m).flatMap fun j => encB (f2 j)) ++ q2 → (∀ j, j < m → VT.Alike (f j) (f2 j)) ∧ q1 = q2 := by
          intro m
          induction m with
          | zero => intro _ q1 q2 h; exact ⟨fun j hj => absurd hj (by omega), by simpa using h⟩
          | succ m ihm =>
            intro hm q1 q2 h
            rw [List.range_succ, List.flatMap_append, List.flatMap_append] at h
            simp only [List.flatMap_cons, List.flatMap_nil, List.append_nil, List.append_assoc] at h
            obtain ⟨e1, e2⟩ := ihm (by omega) _ _ h
            obtain ⟨e3, e4⟩ := ih m (f2 m) q1 q2 (hi m (by omega)) (gi m (by omega)) e2
            refine ⟨fun j hj => ?_, e4⟩
            by_cases hjm : j < m
            · exact e1 j hjm
            · obtain rfl : j = m := by omega
              exact e3
        obtain ⟨e1, e2⟩ := key n2 (Nat.le_refl _) r1 r2 h
        exact ⟨⟨rfl, rfl, nil_text bS aS, rfl, e1⟩, e2⟩
end Go.Proofs.YtehpdhhlggegdaaDoor

namespace Go.Proofs.YtehpdhhlggegdaaDoor
open Go.RowKit
set_option maxRecDepth 8000

/-- how three comparings hang together -/
def Tri (x y z : Int) : Prop := x ≤ 0 → y ≤ 0 → z ≤ 0 ∧ (z = 0 ↔ x = 0 ∧ y = 0)
theorem cmpI_range (x y : Int) : -1 ≤ cmpI x y ∧ cmpI x y ≤ 1 := by unfold cmpI; split <;> (try split) <;> omega
theorem cmpI_anti (x y : Int) : cmpI y x = - cmpI x y := by unfold cmpI; repeat' split; all_goals omega
theorem cmpI_zero (x y : Int) : cmpI x y = 0 ↔ x = y := by unfold cmpI; repeat' split; all_goals omega
theorem cmpI_neg (x y : Int) : cmpI x y < 0 ↔ x < y := by unfold cmpI; repeat' split; all_goals omega
theorem cmpI_tri (x y z : Int) : Tri (cmpI x y) (cmpI y z) (cmpI x z) := by
  intro h1 h2
  unfold cmpI at *
  repeat' split
  all_goals (repeat' split at h1)
  all_goals (repeat' split at h2)
  all_goals omega
/-- the order of lists -/
def lexL {α : Type} (c : α → α → Int) : List α → List α → Int
  | [], [] => 0
  | [], _ :: _ => -1
  | _ :: _, [] => 1
  | a :: x, b :: y => if c a b ≠ 0 then c a b else lexL c x y
def All2 {α : Type} (R : α → α → Prop) : List α → List α → Prop
  | [], [] => True
  | [], _ :: _ => False
  | _ :: _, [] => False
  | a :: x, b :: y => R a b ∧ All2 R x y
section
variable {α : Type} {c : α → α → Int}
theorem lex_range : ∀ {x y : List α}, (∀ a ∈ x, ∀ b ∈ y, -1 ≤ c a b ∧ c a b ≤ 1) → -1 ≤ lexL c x y ∧ lexL c x y ≤ 1 := by
  intro x
  induction x with
  | nil => intro y _; cases y <;> simp [lexL]
  | cons a x ih =>
    intro y h
    cases y with
    | nil => simp [lexL]
    | cons b y =>
      simp only [lexL]
      split
      · exact h a (by simp) b (by simp)
      · exact ih fun d hd e he => h d (by simp [hd]) e (by simp [he])
theorem lex_anti : ∀ {x y : List α}, (∀ a ∈ x, ∀ b ∈ y, c b a = - c a b) → lexL c y x = - lexL c x y := by
  intro x
  induction x with
  | nil => intro y _; cases y <;> simp [lexL]
  | cons a x ih =>
    intro y h
    cases y with
    | nil => simp [lexL]
    | cons b y =>
      have h1 := h a (by simp) b (by simp)
      have h2 := ih (y := y) fun d hd e he => h d (by simp [hd]) e (by simp [he])
      simp only [lexL]
      by_cases hz : c a b = 0
      · rw [if_neg (by rw [h1]; omega), if_neg (by omega)]; exact h2
      · rw [if_pos (by rw [h1]; omega), if_pos hz]; exact h1
theorem lex_zero {R : α → α → Prop} : ∀ {x y : List α}, (∀ a ∈ x, ∀ b ∈ y, (c a b = 0 ↔ R a b)) → (lexL c x y = 0 ↔ All2 R x y) := by
  intro x
  induction x with
  | nil =>
    intro y _
    cases y with
    | nil => simp [lexL, All2]
    | cons b y => simp [lexL, All2]
  | cons a x ih =>
    intro y h
    cases y with
    | nil => simp [lexL, All2]
    | cons b y =>
      have h1 := h a (by simp) b (by simp)
      have h2 := ih (y := y) fun d hd e he => h d (by simp [hd]) e (by simp [he])
      simp only [lexL, All2]
      by_cases hz : c a b = 0
      · rw [if_neg (by omega), h2, ← h1]; simp [hz]
      · rw [if_pos hz, ← h1]; simp [hz]
theorem lex_tri : ∀ {x y z : List α}, (∀ a ∈ x, ∀ b ∈ y, ∀ d ∈ z, Tri (c a b) (c b d) (c a d)) → Tri (lexL c x y) (lexL c y z) (lexL c x z) := by
  intro x
  induction x with
  | nil =>
    intro y z _ h1 h2
    cases y <;> cases z <;> simp [lexL] at *
  | cons a x ih =>
    intro y z h h1 h2
    cases y with
    | nil => simp [lexL] at h1
    | cons b y =>
      cases z with
      | nil => simp [lexL] at h2
      | cons d z =>
        have ht := h a (by simp) b (by simp) d (by simp)
        have hi := ih (y := y) (z := z) fun p hp q hq r hr => h p (by simp [hp]) q (by simp [hq]) r (by simp [hr])
        unfold Tri at ht hi
        simp only [lexL] at h1 h2 ⊢
        by_cases z1 : c a b = 0
        · by_cases z2 : c b d = 0
          · have z3 := (ht (by omega) (by omega)).2.2 ⟨z1, z2⟩
            rw [if_neg (by omega)] at h1 h2 ⊢
            rw [if_neg (by omega), if_neg (by omega)]
            exact hi h1 h2
          · rw [if_pos z2] at h2 ⊢
            have h3 := ht (by omega) h2
            have z3 : c a d ≠ 0 := fun e => z2 (h3.2.1 e).2
            rw [if_pos z3]
            refine ⟨h3.1, fun e => absurd e z3, fun e => absurd e.2 z2⟩
        · rw [if_pos z1] at h1 ⊢
          by_cases z2 : c b d = 0
          · have h3 := ht h1 (by omega)
            have z3 : c a d ≠ 0 := fun e => z1 (h3.2.1 e).1
            rw [if_pos z3]
            refine ⟨h3.1, fun e => absurd e z3, fun e => absurd e.1 z1⟩
          · rw [if_pos z2] at h2 ⊢
            have h3 := ht h1 h2
            have z3 : c a d ≠ 0 := fun e => z1 (h3.2.1 e).1
            rw [if_pos z3]
            refine ⟨h3.1, fun e => absurd e z3, fun e => absurd e.1 z1⟩
end
def cmpU (a b : UInt8) : Int := cmpI (a.toNat : Int) (b.toNat : Int)
theorem cb_lex : ∀ a b : List UInt8, Go.Lib.compareBytes a b = lexL cmpU a b := by
  intro a
  induction a with
  | nil => intro b; cases b <;> rfl
  | cons x a ih =>
    intro b
    cases b with
    | nil => rfl
    | cons y b =>
      simp only [Go.Lib.compareBytes, lexL, UInt8.lt_iff_toNat_lt, ih]
      by_cases h1 : x.toNat < y.toNat
      · have e : cmpU x y = -1 := by unfold cmpU cmpI; rw [if_pos (by omega)]
        rw [if_pos h1]; simp [e]
      · by_cases h2 : y.toNat < x.toNat
        · have e : cmpU x y = 1 := by unfold cmpU cmpI; rw [if_neg (by omega), if_pos (by omega)]
          rw [if_neg h1, if_pos h2]; simp [e]
        · have e : cmpU x y = 0 := by unfold cmpU cmpI; rw [if_neg (by omega), if_neg (by omega)]
          rw [if_neg h1, if_neg h2]; simp [e]
theorem all2_eq {α : Type} : ∀ (x y : List α), All2 (fun a b => a = b) x y ↔ x = y := by
  intro x
  induction x with
  | nil => intro y; cases y <;> simp [All2]
  | cons a x ih => intro y; cases y <;> simp [All2, ih]
theorem cmpS_range (s u : ByteArray) : -1 ≤ cmpS s u ∧ cmpS s u ≤ 1 := by
  unfold cmpS; rw [cb_lex]; exact lex_range fun a _ b _ => cmpI_range _ _
theorem cmpS_anti (s u : ByteArray) : cmpS u s = - cmpS s u := by
  unfold cmpS; rw [cb_lex, cb_lex]; exact lex_anti fun a _ b _ => cmpI_anti _ _
theorem cmpS_tri (s u v : ByteArray) : Tri (cmpS s u) (cmpS u v) (cmpS s v) := by
  unfold cmpS; rw [cb_lex, cb_lex, cb_lex]; exact lex_tri fun a _ b _ d _ => cmpI_tri _ _ _
theorem cmpS_zero (s u : ByteArray) : cmpS s u = 0 ↔ s = u := by
  unfold cmpS
  rw [cb_lex, lex_zero (R := fun a b => a = b) fun a _ b _ => by unfold cmpU; rw [cmpI_zero]; exact ⟨fun h => UInt8.toNat_inj.1 (by omega), fun h => by rw [h]⟩]
  rw [all2_eq]
  exact ⟨fun h => ByteArray.ext (Array.ext' h), fun h => by rw [h]⟩
end Go.Proofs.YtehpdhhlggegdaaDoor

namespace Go.Proofs.YtehpdhhlggegdaaDoor
open Go.RowKit
set_option maxRecDepth 8000

theorem firstN_cons (g : Nat → Int) : ∀ k, firstN g (k + 1) = if g 0 ≠ 0 then g 0 else firstN (fun j => g (j + 1)) k := by
  intro k
  induction k with
  | zero => by_cases h : g 0 = 0 <;> simp [firstN, h]
  | succ k ih =>
    have e : firstN g (k + 1 + 1) = if firstN g (k + 1) ≠ 0 then firstN g (k + 1) else g (k + 1) := rfl
    have e2 : firstN (fun j => g (j + 1)) (k + 1) = if firstN (fun j => g (j + 1)) k ≠ 0 then firstN (fun j => g (j + 1)) k else g (k + 1) := rfl
    rw [e, ih, e2]
    by_cases h : g 0 = 0
    · simp [h]
    · simp [h]
theorem range_map {β : Type} (f : Nat → β) (n : Nat) : (List.range (n + 1)).map f = f 0 :: (List.range n).map (fun j => f (j + 1)) := by
  rw [List.range_succ_eq_map, List.map_cons, List.map_map]; rfl
theorem lex_eq {c : VT → VT → Int} : ∀ (n m : Nat) (f g : Nat → VT), (if firstN (fun j => c (f j) (g j)) (min n m) ≠ 0 then firstN (fun j => c (f j) (g j)) (min n m) else cmpI (n : Int) (m : Int)) = lexL c ((List.range n).map f) ((List.range m).map g) := by
  intro n
  induction n with
  | zero =>
    intro m f g
    rw [Nat.zero_min]
    cases m with
    | zero => simp [firstN, lexL, cmpI]
    | succ m =>
      have e : cmpI ((0 : Nat) : Int) ((m + 1 : Nat) : Int) = -1 := by unfold cmpI; rw [if_pos (by omega)]
      have e2 : firstN (fun j => c (f j) (g j)) 0 = 0 := rfl
      rw [range_map g m, e, e2]
      rfl
  | succ n ih =>
    intro m f g
    cases m with
    | zero =>
      have e : cmpI ((n + 1 : Nat) : Int) ((0 : Nat) : Int) = 1 := by unfold cmpI; rw [if_neg (by omega), if_pos (by omega)]
      have e2 : firstN (fun j => c (f j) (g j)) 0 = 0 := rfl
      rw [Nat.min_zero, range_map f n, e, e2]
      rfl
    | succ m =>
      rw [range_map f n, range_map g m, Nat.succ_min_succ, firstN_cons]
      simp only [lexL]
      have h := ih m (fun j => f (j + 1)) (fun j => g (j + 1))
      by_cases hz : c (f 0) (g 0) = 0
      · have e : cmpI ((n + 1 : Nat) : Int) ((m + 1 : Nat) : Int) = cmpI (n : Int) (m : Int) := by unfold cmpI; repeat' split; all_goals omega
        rw [if_neg (show ¬ c (f 0) (g 0) ≠ 0 from fun h => h hz), e]
        rw [if_neg (show ¬ c (f 0) (g 0) ≠ 0 from fun h => h hz)]
        exact h
      · rw [if_pos hz, if_pos hz]
        rw [if_pos hz]
/-- the order of two values whose shape is seen -/
theorem ordV_mk (k i : Int) (s : ByteArray) (n : Nat) (p : Option Addr) (c : Nat) (f : Nat → VT) (k2 i2 : Int) (s2 : ByteArray) (n2 : Nat) (p2 : Option Addr) (c2 : Nat) (f2 : Nat → VT) :
    ordV (.mk k i s n p c f) (.mk k2 i2 s2 n2 p2 c2 f2) = if k ≠ k2 then cmpI k k2 else if k = 1 then cmpI i i2 else if k = 2 then cmpS s s2 else lexL ordV ((List.range n).map f) ((List.range n2).map f2) := by
  rw [ordV_eq, ← lex_eq]
  rfl
theorem mem_map {n : Nat} {f : Nat → VT} {a : VT} (h : a ∈ (List.range n).map f) : ∃ j, j < n ∧ a = f j := by
  obtain ⟨j, hj, rfl⟩ := List.mem_map.1 h
  exact ⟨j, List.mem_range.1 hj, rfl⟩
theorem ordV_range : ∀ t u : VT, -1 ≤ ordV t u ∧ ordV t u ≤ 1 := by
  intro t
  induction t with
  | nil => intro u; simp [ordV]
  | mk k i s n p c f ih =>
    intro u
    cases u with
    | nil =>
      rw [ordV_eq]
      have h : firstN (fun j => ordV (f j) (VT.nil.item j)) (min n VT.nil.n) = 0 := by show firstN _ (min n 0) = 0; rw [Nat.min_zero]; rfl
      rw [h]
      have h1 := cmpI_range k VT.nil.kind
      have h2 := cmpI_range i VT.nil.int
      have h3 := cmpS_range s VT.nil.text
      have h4 := cmpI_range (n : Int) (VT.nil.n : Int)
      repeat' split
      all_goals first | exact h1 | exact h2 | exact h3 | exact h4 | omega
    | mk k2 i2 s2 n2 p2 c2 f2 =>
      rw [ordV_mk]
      have h5 : -1 ≤ lexL ordV ((List.range n).map f) ((List.range n2).map f2) ∧ lexL ordV ((List.range n).map f) ((List.range n2).map f2) ≤ 1 := lex_range fun a ha b _ => by
        obtain ⟨j, _, rfl⟩ := mem_map ha
        exact ih j b
      have h1 := cmpI_range k k2
      have h2 := cmpI_range i i2
      have h3 := cmpS_range s s2
      repeat' split
      all_goals first | exact h1 | exact h2 | exact h3 | exact h5
theorem ordV_anti : ∀ t u : VT, Val t → Val u → ordV u t = - ordV t u := by
  intro t
  induction t with
  | nil => intro u h; exact h.elim
  | mk k i s n p c f ih =>
    intro u ht hu
    cases u with
    | nil => exact hu.elim
    | mk k2 i2 s2 n2 p2 c2 f2 =>
      rw [ordV_mk, ordV_mk]
      by_cases hk : k = k2
      · subst hk
        simp only [ne_eq, not_true_eq_false, if_false]
        by_cases h1 : k = 1
        · simp only [if_pos h1]; exact cmpI_anti _ _
        simp only [if_neg h1]
        by_cases h2 : k = 2
        · simp only [if_pos h2]; exact cmpS_anti _ _
        simp only [if_neg h2]
        refine lex_anti fun a ha b hb => ?_
        obtain ⟨j, hj, rfl⟩ := mem_map ha
        obtain ⟨j2, hj2, rfl⟩ := mem_map hb
        exact ih j _ (ht.2 j hj) (hu.2 j2 hj2)
      · rw [if_pos (fun h => hk h.symm), if_pos hk]; exact cmpI_anti _ _
theorem all2_alike {f g : Nat → VT} : ∀ {n m : Nat}, All2 VT.Alike ((List.range n).map f) ((List.range m).map g) ↔ n = m ∧ ∀ j, j < n → VT.Alike (f j) (g j) := by
  intro n
  induction n generalizing f g with
  | zero =>
    intro m
    cases m with
    | zero => simp [All2]
    | succ m => rw [range_map g m]; simp [All2]
  | succ n ih =>
    intro m
    cases m with
    | zero => rw [range_map f n]; simp [All2]
    | succ m =>
      rw [range_map f n, range_map g m]
      simp only [All2]
      rw [ih]
      constructor
      · rintro ⟨h1, rfl, h2⟩
        refine ⟨rfl, fun j hj => ?_⟩
        cases j with
        | zero => exact h1
        | succ j => exact h2 j (by omega)
      · rintro ⟨h1, h2⟩
        exact ⟨h2 0 (by omega), by omega, fun j hj => h2 (j + 1) (by omega)⟩
theorem ordV_zero : ∀ t u : VT, Val t → Val u → (ordV t u = 0 ↔ VT.Alike t u) := by
  intro t
  induction t with
  | nil => intro u h; exact h.elim
  | mk k i s n p c f ih =>
    intro u ht hu
    cases u with
    | nil => exact hu.elim
    | mk k2 i2 s2 n2 p2 c2 f2 =>
      obtain ⟨⟨h1, _, _, _, _⟩, hi⟩ := ht
      obtain ⟨⟨g1, _, _, _, _⟩, gi⟩ := hu
      obtain ⟨⟨a0, a3⟩, ai, aS, an⟩ := fit_facts h1
      obtain ⟨_, bi, bS, bn⟩ := fit_facts g1
      rw [ordV_mk]
      by_cases hk : k = k2
      · subst hk
        rw [if_neg (by simp)]
        by_cases h1 : k = 1
        · rw [if_pos h1, cmpI_zero]
          subst h1
          simp only [show ¬ (1 : Int) = 2 by decide, show ¬ (1 : Int) = 3 by decide, or_false] at aS an bS bn
          subst an bn
          exact ⟨fun h => ⟨rfl, h.symm, nil_text bS aS, rfl, fun j hj => absurd hj (by omega)⟩, fun h => h.2.1.symm⟩
        rw [if_neg h1]
        by_cases h2 : k = 2
        · rw [if_pos h2, cmpS_zero]
          subst h2
          simp only [show ¬ (2 : Int) = 1 by decide, show ¬ (2 : Int) = 3 by decide, or_false] at ai an bi bn
          subst ai bi an bn
          exact ⟨fun h => ⟨rfl, rfl, h.symm, rfl, fun j hj => absurd hj (by omega)⟩, fun h => h.2.2.1.symm⟩
        rw [if_neg h2]
        have e1 := ai.resolve_right h1
        have e2 := bi.resolve_right h1
        have e3 := nil_text (aS.resolve_right h2) (bS.resolve_right h2)
        rw [lex_zero (R := VT.Alike) fun a ha b hb => by
          obtain ⟨j, hj, rfl⟩ := mem_map ha
          obtain ⟨j2, hj2, rfl⟩ := mem_map hb
          exact ih j _ (hi j hj) (gi j2 hj2), all2_alike]
        exact ⟨fun h => ⟨rfl, by rw [VT.int_mk, e1, e2], e3.symm, h.1.symm, h.2⟩, fun h => ⟨h.2.2.2.1.symm, h.2.2.2.2⟩⟩
      · rw [if_pos hk, cmpI_zero]
        exact ⟨fun h => absurd h hk, fun h => absurd h.1.symm hk⟩
theorem ordV_tri : ∀ t u v : VT, Val t → Val u → Val v → Tri (ordV t u) (ordV u v) (ordV t v) := by
  intro t
  induction t with
  | nil => intro u v h; exact h.elim
  | mk k i s n p c f ih =>
    intro u v ht hu hv
    cases u with
    | nil => exact hu.elim
    | mk k2 i2 s2 n2 p2 c2 f2 =>
      cases v with
      | nil => exact hv.elim
      | mk k3 i3 s3 n3 p3 c3 f3 =>
        have hz1 := ordV_zero _ _ ht hu
        have hz2 := ordV_zero _ _ hu hv
        rw [ordV_mk, ordV_mk, ordV_mk]
        by_cases e12 : k = k2
        · subst e12
          by_cases e23 : k = k3
          · subst e23
            simp only [ne_eq, not_true_eq_false, if_false]
            by_cases h1 : k = 1
            · simp only [if_pos h1]; exact cmpI_tri _ _ _
            simp only [if_neg h1]
            by_cases h2 : k = 2
            · simp only [if_pos h2]; exact cmpS_tri _ _ _
            simp only [if_neg h2]
            refine lex_tri fun a ha b hb d hd => ?_
            obtain ⟨j, hj, rfl⟩ := mem_map ha
            obtain ⟨j2, hj2, rfl⟩ := mem_map hb
            obtain ⟨j3, hj3, rfl⟩ := mem_map hd
            exact ih j _ _ (ht.2 j hj) (hu.2 j2 hj2) (hv.2 j3 hj3)
          · rw [if_pos e23, if_pos e23]
            intro h1 h2
            have h3 := (fun h : cmpI k k3 = 0 => e23 ((cmpI_zero k k3).1 h))
            exact ⟨h2, fun h => absurd h h3, fun h => absurd h.2 h3⟩
        · rw [if_pos e12]
          by_cases e23 : k2 = k3
          · subst e23
            rw [if_pos e12]
            intro h1 h2
            have h3 := (fun h : cmpI k k2 = 0 => e12 ((cmpI_zero k k2).1 h))
            exact ⟨h1, fun h => absurd h h3, fun h => absurd h.1 h3⟩
          · rw [if_pos e23]
            intro h1 h2
            have n1 : ¬ cmpI k k2 = 0 := (fun h : cmpI k k2 = 0 => e12 ((cmpI_zero k k2).1 h))
            have n2 : ¬ cmpI k2 k3 = 0 := (fun h : cmpI k2 k3 = 0 => e23 ((cmpI_zero k2 k3).1 h))
            have l1 := (cmpI_neg k k2).1 (by omega)
            have l2 := (cmpI_neg k2 k3).1 (by omega)
            have l3 := (cmpI_neg k k3).2 (by omega)
            rw [if_pos (by omega)]
            exact ⟨by omega, fun h => absurd h (by omega), fun h => absurd h.1 n1⟩
end Go.Proofs.YtehpdhhlggegdaaDoor
