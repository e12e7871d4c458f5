import Derived.Test.YtoifpdnaeogdgabDoorPack3
import Derived.Lib.Strings
import Derived.Test.YtoifpdnaeogdgabDoorPack9
namespace Go.Proofs.YtoifpdnaeogdgabDoor
open Go.RowKit
set_option maxRecDepth 8000
/-- the box of the loose writer -/
abbrev Lo (w : World) (lb : Nat) (cp : Option Addr) (cn cc a : Nat) : Prop := Box w lb #[.slice cp cn cc, .int .i64 (a : Int)] 30
def NextP (w : World) (lb : Nat) (cp : Option Addr) (cn cc a n : Nat) (x : Ending) (w' : World) : Prop :=
  ∃ r a' : Nat, x = .returned (.int .i64 (r : Int)) ∧ r < n ∧ a' ≤ a + 1 ∧ Lo w' lb cp cn cc a' ∧ But (fun y => y = lb) w w'
set_option maxHeartbeats 2000000 in
theorem next_anyL (lb : Nat) (cp : Option Addr) (cn cc a n : Nat) (cf : Nat → Int) (S : Nat → Prop) (w : World) (hb : Lo w lb cp cn cc a) (hI : Ints w S cp cn cc cf) (ha : a ≤ 1000000) (hn : 1 ≤ n) (hn4 : n ≤ 4) :
    Calls Tryd.prog 16 #[.pointer (some ⟨lb, 0, none⟩), .int .i64 (n : Int)] w fun x w' => NextP w lb cp cn cc a n x w' := by
  have x0 := hb.cell 0
  have x1 := hb.cell 1
  have f1 := hb.frozen 1
  simp at x0 x1
  by_cases h0 : cn = 0
  · subst h0
    have HB := hid hb
    clear hb hI
    go_enter Tryd.func16, Tryd.ntmps16
    go_wp2
    go_ret
    exact ⟨0, a, rfl, by omega, by omega, HB.out, But.one w lb⟩
  · have hc0 : ((cn : Int) == 0) = false := by simp; omega
    obtain ⟨b, o, hp, hS, hl, hat⟩ := hI.at_ (by omega)
    subst hp
    have hlt : a % cn < cn := Nat.mod_lt _ (by omega)
    have hcell := hat (a % cn) hlt
    obtain ⟨hf1, hf2⟩ := hI.fit (a % cn) hlt
    have hnn := hI.nn
    have hm : (a : Int).tmod (cn : Int) = ((a % cn : Nat) : Int) := by rw [Int.tmod_eq_emod_of_nonneg (by omega)]; rfl
    have hw1 : IntKind.i64.wrap ((a : Int) + 1) = (a : Int) + 1 := by rw [IntKind.wrap_i64]; omega
    have HB : Hid (Lo (w.drew.setCell ⟨lb, 1, none⟩ (.int .i64 ((a : Int) + 1))) lb (some ⟨b, o, none⟩) cn cc (a + 1)) := by
      have h2 : Box (w.drew.setCell ⟨lb, 1, none⟩ (.int .i64 ((a : Int) + 1))) lb #[.slice (some ⟨b, o, none⟩) cn cc, .int .i64 ((a : Int) + 1)] 30 := Box.set (hb.below (Below.refl _ _).drew) 1 (.int .i64 ((a : Int) + 1))
      exact h2
    have HK := hid ((But.one w lb).drew.setAt 1 (.int .i64 ((a : Int) + 1)))
    have hne : (cn : Int) ≠ 0 := by omega
    have hlt2 : ((a % cn : Nat) : Int) < (cn : Int) := by omega
    have hge2 : (0 : Int) ≤ ((a % cn : Nat) : Int) := by omega
    generalize hmm : a % cn = m at *
    generalize cf m = C at *
    clear hat hI hb hmm
    go_enter Tryd.func16, Tryd.ntmps16
    go_wp2_with fail
    have hnz : (n : Int) ≠ 0 := by omega
    go_region
    by_cases hneg : C < 0
    · have hwc : IntKind.i64.wrap (C + 1) = C + 1 := by rw [IntKind.wrap_i64]; omega
      have hwn : IntKind.i64.wrap (-(C + 1)) = -(C + 1) := by rw [IntKind.wrap_i64]; omega
      obtain ⟨D, hD⟩ := Int.eq_ofNat_of_zero_le (show 0 ≤ -(C + 1) by omega)
      have hr : (-(C + 1)).tmod (n : Int) = ((D % n : Nat) : Int) := by rw [hD, Int.tmod_eq_emod_of_nonneg (by omega)]; rfl
      go_wp2
      go_ret
      exact ⟨D % n, a + 1, rfl, Nat.mod_lt _ (by omega), Nat.le_refl _, HB.out, HK.out⟩
    · obtain ⟨D, hD⟩ := Int.eq_ofNat_of_zero_le (show 0 ≤ C by omega)
      subst hD
      have hr : (D : Int).tmod (n : Int) = ((D % n : Nat) : Int) := by rw [Int.tmod_eq_emod_of_nonneg (by omega)]; rfl
      go_wp2
      go_ret
      exact ⟨D % n, a + 1, rfl, Nat.mod_lt _ (by omega), Nat.le_refl _, HB.out, HK.out⟩
end Go.Proofs.YtoifpdnaeogdgabDoor

namespace Go.Proofs.YtoifpdnaeogdgabDoor
open Go.RowKit
set_option maxRecDepth 8000

theorem txtB_inj {s u : ByteArray} (h : txtB s = txtB u) : s = u := by
  have h1 : s.data.toList = u.data.toList := by
    unfold txtB at h
    have inj : ∀ (a b : List UInt8), a.map (fun b => (b.toNat : Int)) = b.map (fun b => (b.toNat : Int)) → a = b := by
      intro a
      induction a with
      | nil => intro b h; cases b with
        | nil => rfl
        | cons => simp at h
      | cons x a ih =>
        intro b h
        cases b with
        | nil => simp at h
        | cons y b =>
          simp only [List.map_cons, List.cons.injEq] at h
          have h2 : x = y := UInt8.toNat_inj.1 (by omega)
          rw [h2, ih b h.2]
    exact inj _ _ h
  exact ByteArray.ext (Array.ext' h1)
theorem nil_text {s u : ByteArray} (hs : s.toList = []) (hu : u.toList = []) : s = u := by
  rw [Go.Lib.toList_data] at hs hu
  exact ByteArray.ext (Array.ext' (hs.trans hu.symm))
theorem grp_inj : ∀ (u v : Nat) (r1 r2 : List Int), grpB u ++ r1 = grpB v ++ r2 → u = v ∧ r1 = r2 := by
  intro u
  induction u using Nat.strongRecOn with
  | ind u ih =>
    intro v r1 r2 h
    by_cases hu : u < 128
    · rw [grpB_small hu] at h
      by_cases hv : v < 128
      · rw [grpB_small hv] at h
        simp only [List.cons_append, List.nil_append, List.cons.injEq] at h
        exact ⟨by omega, h.2⟩
      · rw [grpB_great hv] at h
        simp only [List.cons_append, List.nil_append, List.cons.injEq] at h
        omega
    · rw [grpB_great hu] at h
      by_cases hv : v < 128
      · rw [grpB_small hv] at h
        simp only [List.cons_append, List.nil_append, List.cons.injEq] at h
        omega
      · rw [grpB_great hv] at h
        simp only [List.cons_append, List.cons.injEq] at h
        have h2 := ih (u / 128) (by omega) (v / 128) r1 r2 h.2
        exact ⟨by omega, h2.2⟩
theorem fold_inj {i j : Int} (h : foldN i = foldN j) : i = j := by
  unfold foldN at h
  split at h <;> split at h <;> omega
theorem app_inj {a b : List Int} : ∀ {r1 r2 : List Int}, a.length = b.length → a ++ r1 = b ++ r2 → a = b ∧ r1 = r2 := fun hl h => List.append_inj h hl
theorem fit_facts {k i : Int} {s : ByteArray} {n : Nat} (h : fitB k i s n = true) : (0 ≤ k ∧ k ≤ 3) ∧ (i = 0 ∨ k = 1) ∧ (s.toList = [] ∨ k = 2) ∧ (n = 0 ∨ k = 3) := by
  simp only [fitB, Bool.and_eq_true, Bool.or_eq_true, decide_eq_true_eq, List.isEmpty_iff] at h
  exact ⟨⟨h.1.1.1.1, h.1.1.1.2⟩, h.1.1.2, h.1.2, h.2⟩
theorem enc_inj : ∀ (t u : VT) (r1 r2 : List Int), Val t → Val u → encB t ++ r1 = encB u ++ r2 → VT.Alike t u ∧ r1 = r2 := by
  intro t
  induction t with
  | nil => intro u r1 r2 h; exact h.elim
  | mk k i s n p c f ih =>
    intro u r1 r2 ht hu h
    cases u with
    | nil => exact hu.elim
    | mk k2 i2 s2 n2 p2 c2 f2 =>
      obtain ⟨⟨h1, _, _, _, _⟩, hi⟩ := ht
      obtain ⟨⟨g1, _, _, _, _⟩, gi⟩ := hu
      obtain ⟨⟨a0, a3⟩, ai, aS, an⟩ := fit_facts h1
      obtain ⟨_, bi, bS, bn⟩ := fit_facts g1
      rw [encB_eq, encB_eq] at h
      simp only [List.cons_append, List.cons.injEq] at h
      obtain ⟨hk, h⟩ := h
      subst hk
      rcases (by omega : k = 0 ∨ k = 1 ∨ k = 2 ∨ k = 3) with rfl | rfl | rfl | rfl
      · simp only [show ¬ (0 : Int) = 1 by decide, show ¬ (0 : Int) = 2 by decide, show ¬ (0 : Int) = 3 by decide, if_false, List.nil_append, or_false] at h ai aS an bi bS bn
        subst ai an bi bn
        exact ⟨⟨rfl, rfl, nil_text bS aS, rfl, fun j hj => absurd hj (by omega)⟩, h⟩
      · simp only [show ¬ (1 : Int) = 2 by decide, show ¬ (1 : Int) = 3 by decide, if_true, or_false] at h aS an bS bn
        subst an bn
        obtain ⟨h2, h3⟩ := grp_inj _ _ _ _ h
        exact ⟨⟨rfl, (fold_inj h2).symm, nil_text bS aS, rfl, fun j hj => absurd hj (by omega)⟩, h3⟩
      · simp only [show ¬ (2 : Int) = 1 by decide, show ¬ (2 : Int) = 3 by decide, if_true, if_false, or_false, List.cons_append, List.cons.injEq] at h ai an bi bn
        subst ai an bi bn
        obtain ⟨h2, h3⟩ := app_inj (by rw [txtB_len, txtB_len]; omega) h.2
        exact ⟨⟨rfl, rfl, (txtB_inj h2).symm, rfl, fun j hj => absurd hj (by omega)⟩, h3⟩
      · simp only [show ¬ (3 : Int) = 1 by decide, show ¬ (3 : Int) = 2 by decide, if_true, if_false, or_false, List.cons_append, List.cons.injEq] at h ai aS bi bS
        subst ai bi
        obtain ⟨hn, h⟩ := h
        have hn2 : n2 = n := by omega
        subst hn2
        have key : ∀ m, m ≤ n2 → ∀ q1 q2 : List Int, ((List.range m).flatMap fun j => encB (f j)) ++ q1 = ((List.range m).flatMap fun j => encB (f2 j)) ++ q2 → (∀ j, j < m → VT.Alike (f j) (f2 j)) ∧ q1 = q2 := by
          intro m
          induction m with
          | zero => intro _ q1 q2 h; exact ⟨fun j hj => absurd hj (by omega), by simpa using h⟩
          | succ m ihm =>
            intro hm q1 q2 h
            rw [List.range_succ, List.flatMap_append, List.flatMap_append] at h
            simp only [List.flatMap_cons, List.flatMap_nil, List.append_nil, List.append_assoc] at h
            obtain ⟨e1, e2⟩ := ihm (by omega) _ _ h
            obtain ⟨e3, e4⟩ := ih m (f2 m) q1 q2 (hi m (by omega)) (gi m (by omega)) e2
            refine ⟨fun j hj => ?_, e4⟩
            by_cases hjm : j < m
            · exact e1 j hjm
            · obtain rfl : j = m := by omega
              exact e3
        obtain ⟨e1, e2⟩ := key n2 (Nat.le_refl _) r1 r2 h
        exact ⟨⟨rfl, rfl, nil_text bS aS, rfl, e1⟩, e2⟩
end Go.Proofs.YtoifpdnaeogdgabDoor

namespace Go.Proofs.YtoifpdnaeogdgabDoor
open Go.RowKit
set_option maxRecDepth 8000
/-- what the law's own count comes to -/
def cnt : VT → Nat → Nat
  | .nil, _ => 1
  | .mk k i s n _ _ f, d => if fitB k i s n = false ∨ (k = 3 ∧ 3 ≤ d) ∨ 24 < s.size ∨ 6 < n then 1000000 else 1 + ((List.range n).map fun j => cnt (f j) (d + 1)).sum
theorem cnt_eq (k i : Int) (s : ByteArray) (n : Nat) (p : Option Addr) (c : Nat) (f : Nat → VT) (d : Nat) : cnt (.mk k i s n p c f) d = if fitB k i s n = false ∨ (k = 3 ∧ 3 ≤ d) ∨ 24 < s.size ∨ 6 < n then 1000000 else 1 + ((List.range n).map fun j => cnt (f j) (d + 1)).sum := rfl
/-- of the first j items -/
def cntN (f : Nat → VT) (d j : Nat) : Nat := ((List.range j).map fun j => cnt (f j) (d + 1)).sum
theorem cntN_succ (f : Nat → VT) (d j : Nat) : cntN f d (j + 1) = cntN f d j + cnt (f j) (d + 1) := by simp [cntN, List.range_succ]
theorem cnt_pos (t : VT) (d : Nat) : 1 ≤ cnt t d := by
  cases t with
  | nil => exact Nat.le_refl _
  | mk k i s n p c f => rw [cnt_eq]; split <;> omega
theorem cntN_mono (f : Nat → VT) (d : Nat) {a b : Nat} (h : a ≤ b) : cntN f d a ≤ cntN f d b := by
  induction h with
  | refl => exact Nat.le_refl _
  | step _ ih => rw [cntN_succ]; omega
theorem cnt_le : ∀ (t : VT) (d : Nat), cnt t d ≤ 1000000 * (1 + t.total) := by
  intro t
  induction t with
  | nil => intro d; show 1 ≤ 1000000 * (1 + 0); omega
  | mk k i s n p c f ih =>
    intro d
    rw [cnt_eq]
    split
    · omega
    · have key : ∀ m, cntN f d m ≤ 1000000 * (m + ((List.range m).map fun j => (f j).total).sum) := by
        intro m
        induction m with
        | zero => simp [cntN]
        | succ m ihm =>
          have h := ih m (d + 1)
          rw [cntN_succ, List.range_succ, List.map_append, List.sum_append]
          simp only [List.map_cons, List.map_nil, List.sum_cons, List.sum_nil]
          omega
      have h := key n
      simp only [cntN] at h
      simp only [VT.total]
      omega
/-- valid, or too many -/
theorem cnt_chk : ∀ (t : VT) (d m : Nat), ((chk t d m).1 = 0 → cnt t d = (flatP t).length) ∧ ((chk t d m).1 ≠ 0 → 12 < m + cnt t d) := by
  intro t
  induction t with
  | nil =>
    intro d m
    unfold chk cnt
    by_cases h1 : 12 ≤ m
    · rw [if_pos h1]; exact ⟨fun h => (by simp at h), fun _ => (by omega)⟩
    · rw [if_neg h1]; exact ⟨fun _ => (by simp [flatP]), fun h => absurd rfl h⟩
  | mk k i s n p c f ih =>
    intro d m
    rw [chk_eq, cnt_eq, flatP_eq]
    have hp : 1 ≤ (if fitB k i s n = false ∨ (k = 3 ∧ 3 ≤ d) ∨ 24 < s.size ∨ 6 < n then 1000000 else 1 + ((List.range n).map fun j => cnt (f j) (d + 1)).sum) := by split <;> omega
    by_cases h1 : 12 ≤ m
    · rw [if_pos h1]; exact ⟨fun h => (by simp at h), fun _ => (by omega)⟩
    rw [if_neg h1]
    by_cases h2 : fitB k i s n = false
    · rw [if_pos h2, if_pos (Or.inl h2)]; exact ⟨fun h => (by simp at h), fun _ => (by omega)⟩
    rw [if_neg h2]
    by_cases h3 : k = 3 ∧ 3 ≤ d
    · rw [if_pos h3, if_pos (Or.inr (Or.inl h3))]; exact ⟨fun h => (by simp at h), fun _ => (by omega)⟩
    rw [if_neg h3]
    by_cases h4 : 24 < s.size
    · rw [if_pos h4, if_pos (Or.inr (Or.inr (Or.inl h4)))]; exact ⟨fun h => (by simp at h), fun _ => (by omega)⟩
    rw [if_neg h4]
    by_cases h5 : 6 < n
    · rw [if_pos h5, if_pos (Or.inr (Or.inr (Or.inr h5)))]; exact ⟨fun h => (by simp at h), fun _ => (by omega)⟩
    rw [if_neg h5, if_neg (by intro h; rcases h with h | h | h | h <;> contradiction)]
    have key : ∀ j, ((stepN (fun j m => chk (f j) (d + 1) m) (m + 1) j).1 = 0 → cntN f d j = (flatN f j).length ∧ (stepN (fun j m => chk (f j) (d + 1) m) (m + 1) j).2 = m + 1 + (flatN f j).length) ∧ ((stepN (fun j m => chk (f j) (d + 1) m) (m + 1) j).1 ≠ 0 → 12 < m + 1 + cntN f d j) := by
      intro j
      induction j with
      | zero => exact ⟨fun _ => ⟨rfl, rfl⟩, fun h => absurd rfl h⟩
      | succ j ihj =>
        by_cases hz : (stepN (fun j m => chk (f j) (d + 1) m) (m + 1) j).1 = 0
        · obtain ⟨e1, e2⟩ := ihj.1 hz
          rw [stepN_succ hz]
          have hc := ih j (d + 1) (stepN (fun j m => chk (f j) (d + 1) m) (m + 1) j).2
          rw [cntN_succ, flatN_succ, List.length_append]
          refine ⟨fun h => ⟨by rw [e1, hc.1 h], ?_⟩, fun h => ?_⟩
          · rw [chk_len _ _ _ h, e2]; omega
          · have := hc.2 h
            rw [e2] at this
            omega
        · have h6 := ihj.2 hz
          rw [stepN_stuck (Nat.le_succ j) hz]
          refine ⟨fun h => absurd h hz, fun _ => ?_⟩
          rw [cntN_succ]
          omega
    have hk := key n
    refine ⟨fun h => ?_, fun h => ?_⟩
    · have := (hk.1 h).1
      simp only [cntN, flatN] at this
      simp only [List.length_cons]
      omega
    · have := hk.2 h
      simp only [cntN] at this
      omega
/-- the law's clean is the cleaned -/
theorem cnt_clean (t : VT) : (12 < cnt t 0) ↔ (chk t 0 0).1 ≠ 0 := by
  have h := cnt_chk t 0 0
  refine ⟨fun h1 h2 => ?_, fun h1 => by have := h.2 h1; omega⟩
  have h3 := h.1 h2
  have h4 := chk_len t 0 0 h2
  have h5 := (chk_le t 0 0 (by omega)).2 h2
  omega
end Go.Proofs.YtoifpdnaeogdgabDoor
