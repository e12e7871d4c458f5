import Derived.Test.YtikfpoabaaiegaaPack1
import Derived.Test.YtikfpoabaaiegaaPack3
import Derived.Test.YtikfpoabaaiegaaPack4
import Derived.Lib.Strings
namespace Go.Proofs.Ytikfpoabaaiegaa
open Go.RowKit
set_option maxRecDepth 8000
theorem clean_len {t : VT} : (flatP (cleanT t)).length ≤ 12 := by
  unfold cleanT
  split
  · rename_i h
    have h1 := chk_len t 0 0 h
    have h2 := (chk_le t 0 0 (by omega)).2 h
    omega
  · simp [zeroT, flatP]
/-- bytes as a text -/
def strOf (zs : List Int) : ByteArray := zs.foldl (fun r n => r.push (UInt8.ofNat n.toNat)) ByteArray.empty
theorem conv_any {w : World} {base b c : Nat} {zs : List Int} (h : OwnBy base w (.slice (some ⟨b, 0, none⟩) zs.length c) zs) : (convert 47 9 (.slice (some ⟨b, 0, none⟩) zs.length c)).run Try.prog w = .ok (.string (strOf zs)) w := by
  rw [run_convert_bytes_string (P := Try.prog) w 47 9 5 _ _ _ Try.underlying47 Try.underlying5 Try.underlying9]
  have hl := run_loadCells_list (P := Try.prog) (w := w) ⟨b, 0, none⟩ (zs.map (Value.int .u8)) (World.ownsRow.cells h rfl)
  rw [List.length_map] at hl
  exact run_bytesToString w ⟨b, 0, none⟩ zs.length c zs hl
end Go.Proofs.Ytikfpoabaaiegaa

namespace Go.Proofs.Ytikfpoabaaiegaa
open Go.RowKit
set_option maxRecDepth 8000

def mkN : VT := .mk 0 0 ⟨#[]⟩ 0 none 0 (fun _ => .nil)
def mkI (i : Int) : VT := .mk 1 i ⟨#[]⟩ 0 none 0 (fun _ => .nil)
def mkT (s : ByteArray) : VT := .mk 2 0 s 0 none 0 (fun _ => .nil)
def mkL (l : List VT) : VT := .mk 3 0 ⟨#[]⟩ l.length none 0 (fun j => l.getD j .nil)
/-- what reading comes to: an error's number, or the value, where it ends, how many parts there are -/
abbrev DR := Except Nat (VT × Nat × Nat)
/-- the first m items -/
def itemsS (g : Nat → Nat → DR) : Nat → Nat → Nat → Except Nat (List VT × Nat × Nat)
  | 0, a, q => .ok ([], a, q)
  | m + 1, a, q =>
    match itemsS g m a q with
    | .error e => .error e
    | .ok (l, a', q') =>
      match g a' q' with
      | .error e => .error e
      | .ok (v, a2, q2) => .ok (l ++ [v], a2, q2)
def bytesAt (f : Nat → Int) (a m : Nat) : List Int := (List.range m).map fun j => f (a + j)
/-- a part that stands in d lists; g reads an item -/
def partS (f : Nat → Int) (n : Nat) (g : Nat → Nat → DR) (d a q : Nat) : DR :=
  if n ≤ a then .error 28 else if 12 < q + 1 then .error 22 else if 3 < (f a).toNat then .error 28 else if (f a).toNat = 3 ∧ 3 ≤ d then .error 23
  else if (f a).toNat = 0 then .ok (mkN, a + 1, q + 1)
  else if (f a).toNat = 1 then (match grpS f n 10 (a + 1) 0 0 with | none => .error 28 | some (u, a') => .ok (mkI (unfoldI u), a', q + 1))
  else if n ≤ a + 1 then .error 28
  else if (f a).toNat = 2 then (if 24 < (f (a + 1)).toNat then .error 21 else if n < a + 2 + (f (a + 1)).toNat then .error 28 else .ok (mkT (strOf (bytesAt f (a + 2) (f (a + 1)).toNat)), a + 2 + (f (a + 1)).toNat, q + 1))
  else if 6 < (f (a + 1)).toNat then .error 22
  else (match itemsS g (f (a + 1)).toNat (a + 2) (q + 1) with | .error e => .error e | .ok (l, a', q') => .ok (mkL l, a', q'))
def decS (f : Nat → Int) (n : Nat) : Nat → Nat → Nat → Nat → DR
  | 0, d, a, q => partS f n (fun _ _ => .error 23) d a q
  | k + 1, d, a, q => partS f n (decS f n k (d + 1)) d a q

theorem grpS_le (f : Nat → Int) (n : Nat) : ∀ k a i u r, grpS f n k a i u = some r → r.2 ≤ n ∧ (u < 2 ^ 64 → i ≤ 9 → k ≤ 10 - i → r.1 < 2 ^ 64) := by
  intro k
  induction k with
  | zero => intro a i u r h; cases h
  | succ k ih =>
    intro a i u r h
    rw [grpS] at h
    split at h
    · cases h
    · split at h
      · cases h
      · rename_i h1 h2
        have key : u < 2 ^ 64 → i ≤ 9 → (u ||| (f a).toNat % 128 * 2 ^ (7 * i)) < 2 ^ 64 := fun hu hi => Nat.or_lt_two_pow hu (grp_fits hi (fun h9 => by omega))
        split at h
        · cases h
          exact ⟨by omega, fun hu hi _ => key hu hi⟩
        · have h3 := ih _ _ _ _ h
          refine ⟨h3.1, fun hu hi hk => ?_⟩
          by_cases h9 : i = 9
          · omega
          · exact h3.2 (key hu hi) (by omega) (by omega)
theorem itemsS_le {g : Nat → Nat → DR} {n : Nat} (hg : ∀ a q v a' q', g a q = .ok (v, a', q') → a ≤ n → a' ≤ n) : ∀ m a q l a' q', itemsS g m a q = .ok (l, a', q') → a ≤ n → a' ≤ n ∧ l.length = m := by
  intro m
  induction m with
  | zero => intro a q l a' q' h ha; simp only [itemsS, Except.ok.injEq, Prod.mk.injEq] at h; obtain ⟨rfl, rfl, rfl⟩ := h; exact ⟨ha, rfl⟩
  | succ m ih =>
    intro a q l a' q' h ha
    rw [itemsS] at h
    split at h
    · cases h
    · rename_i l1 a1 q1 h1
      split at h
      · cases h
      · rename_i v a2 q2 h2
        simp only [Except.ok.injEq, Prod.mk.injEq] at h
        obtain ⟨rfl, rfl, rfl⟩ := h
        have h3 := ih _ _ _ _ _ h1 ha
        exact ⟨hg _ _ _ _ _ h2 h3.1, by simp [h3.2]⟩
theorem partS_le {f : Nat → Int} {n : Nat} {g : Nat → Nat → DR} (hg : ∀ a q v a' q', g a q = .ok (v, a', q') → a ≤ n → a' ≤ n) {d a q a' q' : Nat} {v : VT} (h : partS f n g d a q = .ok (v, a', q')) : a' ≤ n := by
  unfold partS at h
  split at h
  · cases h
  split at h
  · cases h
  split at h
  · cases h
  split at h
  · cases h
  split at h
  · simp only [Except.ok.injEq, Prod.mk.injEq] at h; omega
  split at h
  · split at h
    · cases h
    · rename_i u a2 h2
      simp only [Except.ok.injEq, Prod.mk.injEq] at h
      have := (grpS_le _ _ _ _ _ _ _ h2).1
      simp only at this
      omega
  split at h
  · cases h
  split at h
  · split at h
    · cases h
    split at h
    · cases h
    · simp only [Except.ok.injEq, Prod.mk.injEq] at h; omega
  split at h
  · cases h
  split at h
  · cases h
  · rename_i l a2 q2 h2
    simp only [Except.ok.injEq, Prod.mk.injEq] at h
    have := (itemsS_le hg _ _ _ _ _ _ h2 (by omega)).1
    omega
theorem decS_le {f : Nat → Int} {n : Nat} : ∀ (k d a q : Nat) (v : VT) (a' q' : Nat), decS f n k d a q = .ok (v, a', q') → a' ≤ n := by
  intro k
  induction k with
  | zero => intro d a q v a' q' h; exact partS_le (fun _ _ _ _ _ h => by cases h) h
  | succ k ih => intro d a q v a' q' h; exact partS_le (fun a q v a' q' h _ => ih _ _ _ _ _ _ h) h
theorem itemsS_stuck {g : Nat → Nat → DR} {a q j e a' q' : Nat} {l : List VT} (h : itemsS g j a q = .ok (l, a', q')) (hg : g a' q' = .error e) : ∀ {m : Nat}, j < m → itemsS g m a q = .error e := by
  intro m
  induction m with
  | zero => intro h2; omega
  | succ m ih =>
    intro h2
    by_cases hj : j = m
    · subst hj
      rw [itemsS, h]
      simp only [hg]
    · rw [itemsS, ih (by omega)]
theorem itemsS_next {g : Nat → Nat → DR} {a q j a' q' a2 q2 : Nat} {l : List VT} {v : VT} (h : itemsS g j a q = .ok (l, a', q')) (hg : g a' q' = .ok (v, a2, q2)) : itemsS g (j + 1) a q = .ok (l ++ [v], a2, q2) := by
  rw [itemsS, h]
  simp only [hg]
theorem itemsS_q {g : Nat → Nat → DR} (hg : ∀ a q v a' q', g a q = .ok (v, a', q') → q' ≤ 12) : ∀ m a q l a' q', itemsS g m a q = .ok (l, a', q') → q ≤ 12 → q' ≤ 12 := by
  intro m
  induction m with
  | zero => intro a q l a' q' h ha; simp only [itemsS, Except.ok.injEq, Prod.mk.injEq] at h; omega
  | succ m ih =>
    intro a q l a' q' h ha
    rw [itemsS] at h
    split at h
    · cases h
    · split at h
      · cases h
      · rename_i v a2 q2 h2
        simp only [Except.ok.injEq, Prod.mk.injEq] at h
        obtain ⟨rfl, rfl, rfl⟩ := h
        exact hg _ _ _ _ _ h2
theorem partS_q {f : Nat → Int} {n : Nat} {g : Nat → Nat → DR} (hg : ∀ a q v a' q', g a q = .ok (v, a', q') → q' ≤ 12) {d a q a' q' : Nat} {v : VT} (h : partS f n g d a q = .ok (v, a', q')) : q' ≤ 12 := by
  unfold partS at h
  split at h
  · cases h
  split at h
  · cases h
  split at h
  · cases h
  split at h
  · cases h
  split at h
  · simp only [Except.ok.injEq, Prod.mk.injEq] at h; omega
  split at h
  · split at h
    · cases h
    · simp only [Except.ok.injEq, Prod.mk.injEq] at h; omega
  split at h
  · cases h
  split at h
  · split at h
    · cases h
    split at h
    · cases h
    · simp only [Except.ok.injEq, Prod.mk.injEq] at h; omega
  split at h
  · cases h
  split at h
  · cases h
  · rename_i l a2 q2 h2
    simp only [Except.ok.injEq, Prod.mk.injEq] at h
    have := itemsS_q hg _ _ _ _ _ _ h2 (by omega)
    omega
theorem decS_q {f : Nat → Int} {n : Nat} : ∀ (k d a q : Nat) (v : VT) (a' q' : Nat), decS f n k d a q = .ok (v, a', q') → q' ≤ 12 := by
  intro k
  induction k with
  | zero => intro d a q v a' q' h; exact partS_q (fun _ _ _ _ _ h => by cases h) h
  | succ k ih => intro d a q v a' q' h; exact partS_q (fun a q v a' q' h => ih _ _ _ _ _ _ h) h
def DPost (w : World) (db : Nat) (p : Option Addr) (n c : Nat) (r : DR) (x : Ending) (w' : World) : Prop :=
  (∀ t a' q', r = .ok (t, a', q') → ∃ u, x = .returned u.val ∧ VT.Alike t u ∧ VT.In w' (fun b => w.heap.size ≤ b) u ∧ Box w' db #[.slice p n c, .int .i64 (a' : Int), .int .i64 (q' : Int)] 239 ∧ But (fun y => y = db) w w') ∧ (∀ e : Nat, r = .error e → Fails e x ∧ But (fun y => y = db) w w')
end Go.Proofs.Ytikfpoabaaiegaa

namespace Go.Proofs.Ytikfpoabaaiegaa
open Go.RowKit
set_option maxRecDepth 8000

theorem txtB_inj {s u : ByteArray} (h : txtB s = txtB u) : s = u := by
  have h1 : s.data.toList = u.data.toList := by
    unfold txtB at h
    have inj : ∀ (a b : List UInt8), a.map (fun b => (b.toNat : Int)) = b.map (fun b => (b.toNat : Int)) → a = b := by
      intro a
      induction a with
      | nil => intro b h; cases b with
        | nil => rfl
        | cons => simp at h
      | cons x a ih =>
        intro b h
        cases b with
        | nil => simp at h
        | cons y b =>
          simp only [List.map_cons, List.cons.injEq] at h
          have h2 : x = y := UInt8.toNat_inj.1 (by omega)
          rw [h2, ih b h.2]
    exact inj _ _ h
  exact ByteArray.ext (Array.ext' h1)
theorem nil_text {s u : ByteArray} (hs : s.toList = []) (hu : u.toList = []) : s = u := by
  rw [Go.Lib.toList_data] at hs hu
  exact ByteArray.ext (Array.ext' (hs.trans hu.symm))
theorem grp_inj : ∀ (u v : Nat) (r1 r2 : List Int), grpB u ++ r1 = grpB v ++ r2 → u = v ∧ r1 = r2 := by
  intro u
  induction u using Nat.strongRecOn with
  | ind u ih =>
    intro v r1 r2 h
    by_cases hu : u < 128
    · rw [grpB_small hu] at h
      by_cases hv : v < 128
      · rw [grpB_small hv] at h
        simp only [List.cons_append, List.nil_append, List.cons.injEq] at h
        exact ⟨by omega, h.2⟩
      · rw [grpB_great hv] at h
        simp only [List.cons_append, List.nil_append, List.cons.injEq] at h
        omega
    · rw [grpB_great hu] at h
      by_cases hv : v < 128
      · rw [grpB_small hv] at h
        simp only [List.cons_append, List.nil_append, List.cons.injEq] at h
        omega
      · rw [grpB_great hv] at h
        simp only [List.cons_append, List.cons.injEq] at h
        have h2 := ih (u / 128) (by omega) (v / 128) r1 r2 h.2
        exact ⟨by omega, h2.2⟩
theorem fold_inj {i j : Int} (h : foldN i = foldN j) : i = j := by
  unfold foldN at h
  split at h <;> split at h <;> omega
theorem app_inj {a b : List Int} : ∀ {r1 r2 : List Int}, a.length = b.length → a ++ r1 = b ++ r2 → a = b ∧ r1 = r2 := fun hl h => List.append_inj h hl
theorem fit_facts {k i : Int} {s : ByteArray} {n : Nat} (h : fitB k i s n = true) : (0 ≤ k ∧ k ≤ 3) ∧ (i = 0 ∨ k = 1) ∧ (s.toList = [] ∨ k = 2) ∧ (n = 0 ∨ k = 3) := by
  simp only [fitB, Bool.and_eq_true, Bool.or_eq_true, decide_eq_true_eq, List.isEmpty_iff] at h
  exact ⟨⟨h.1.1.1.1, h.1.1.1.2⟩, h.1.1.2, h.1.2, h.2⟩
theorem enc_inj : ∀ (t u : VT) (r1 r2 : List Int), Val t → Val u → encB t ++ r1 = encB u ++ r2 → VT.Alike t u ∧ r1 = r2 := by
  intro t
  induction t with
  | nil => intro u r1 r2 h; exact h.elim
  | mk k i s n p c f ih =>
    intro u r1 r2 ht hu h
    cases u with
    | nil => exact hu.elim
    | mk k2 i2 s2 n2 p2 c2 f2 =>
      obtain ⟨⟨h1, _, _, _, _⟩, hi⟩ := ht
      obtain ⟨⟨g1, _, _, _, _⟩, gi⟩ := hu
      obtain ⟨⟨a0, a3⟩, ai, aS, an⟩ := fit_facts h1
      obtain ⟨_, bi, bS, bn⟩ := fit_facts g1
      rw [encB_eq, encB_eq] at h
      simp only [List.cons_append, List.cons.injEq] at h
      obtain ⟨hk, h⟩ := h
      subst hk
      rcases (by omega : k = 0 ∨ k = 1 ∨ k = 2 ∨ k = 3) with rfl | rfl | rfl | rfl
      · simp only [show ¬ (0 : Int) = 1 by decide, show ¬ (0 : Int) = 2 by decide, show ¬ (0 : Int) = 3 by decide, if_false, List.nil_append, or_false] at h ai aS an bi bS bn
        subst ai an bi bn
        exact ⟨⟨rfl, rfl, nil_text bS aS, rfl, fun j hj => absurd hj (by omega)⟩, h⟩
      · simp only [show ¬ (1 : Int) = 2 by decide, show ¬ (1 : Int) = 3 by decide, if_true, or_false] at h aS an bS bn
        subst an bn
        obtain ⟨h2, h3⟩ := grp_inj _ _ _ _ h
        exact ⟨⟨rfl, (fold_inj h2).symm, nil_text bS aS, rfl, fun j hj => absurd hj (by omega)⟩, h3⟩
      · simp only [show ¬ (2 : Int) = 1 by decide, show ¬ (2 : Int) = 3 by decide, if_true, if_false, or_false, List.cons_append, List.cons.injEq] at h ai an bi bn
        subst ai an bi bn
        obtain ⟨h2, h3⟩ := app_inj (by rw [txtB_len, txtB_len]; omega) h.2
        exact ⟨⟨rfl, rfl, (txtB_inj h2).symm, rfl, fun j hj => absurd hj (by omega)⟩, h3⟩
      · simp only [show ¬ (3 : Int) = 1 by decide, show ¬ (3 : Int) = 2 by decide, if_true, if_false, or_false, List.cons_append, List.cons.injEq] at h ai aS bi bS
        subst ai bi
        obtain ⟨hn, h⟩ := h
        have hn2 : n2 = n := by omega
        subst hn2
        have key : ∀ m, m ≤ n2 → ∀ q1 q2 : List Int, ((List.range m).flatMap fun j => encB (f j)) ++ q1 = ((List.range m).flatMap fun j => encB (f2 j)) ++ q2 → (∀ j, j < m → VT.Alike (f j) (f2 j)) ∧ q1 = q2 := by
          intro m
          induction m with
          | zero => intro _ q1 q2 h; exact ⟨fun j hj => absurd hj (by omega), by simpa using h⟩
          | succ m ihm =>
            intro hm q1 q2 h
            rw [List.range_succ, List.flatMap_append, List.flatMap_append] at h
            simp only [List.flatMap_cons, List.flatMap_nil, List.append_nil, List.append_assoc] at h
            obtain ⟨e1, e2⟩ := ihm (by omega) _ _ h
            obtain ⟨e3, e4⟩ := ih m (f2 m) q1 q2 (hi m (by omega)) (gi m (by omega)) e2
            refine ⟨fun j hj => ?_, e4⟩
            by_cases hjm : j < m
            · exact e1 j hjm
            · obtain rfl : j = m := by omega
              exact e3
        obtain ⟨e1, e2⟩ := key n2 (Nat.le_refl _) r1 r2 h
        exact ⟨⟨rfl, rfl, nil_text bS aS, rfl, e1⟩, e2⟩
end Go.Proofs.Ytikfpoabaaiegaa

namespace Go.Proofs.Ytikfpoabaaiegaa
open Go.RowKit
set_option maxRecDepth 8000
/-- what the law's own count comes to -/
def cnt : VT → Nat → Nat
  | .nil, _ => 1
  | .mk k i s n _ _ f, d => if fitB k i s n = false ∨ (k = 3 ∧ 3 ≤ d) ∨ 24 < s.size ∨ 6 < n then 1000000 else 1 + ((List.range n).map fun j => cnt (f j) (d + 1)).sum
theorem cnt_eq (k i : Int) (s : ByteArray) (n : Nat) (p : Option Addr) (c : Nat) (f : Nat → VT) (d : Nat) : cnt (.mk k i s n p c f) d = if fitB k i s n = false ∨ (k = 3 ∧ 3 ≤ d) ∨ 24 < s.size ∨ 6 < n then 1000000 else 1 + ((List.range n).map fun j => cnt (f j) (d + 1)).sum := rfl
/-- of the first j items -/
def cntN (f : Nat → VT) (d j : Nat) : Nat := ((List.range j).map fun j => cnt (f j) (d + 1)).sum
theorem cntN_succ (f : Nat → VT) (d j : Nat) : cntN f d (j + 1) = cntN f d j + cnt (f j) (d + 1) := by simp [cntN, List.range_succ]
theorem cnt_pos (t : VT) (d : Nat) : 1 ≤ cnt t d := by
  cases t with
  | nil => exact Nat.le_refl _
  | mk k i s n p c f => rw [cnt_eq]; split <;> omega
theorem cntN_mono (f : Nat → VT) (d : Nat) {a b : Nat} (h : a ≤ b) : cntN f d a ≤ cntN f d b := by
  induction h with
  | refl => exact Nat.le_refl _
  | step _ ih => rw [cntN_succ]; omega
theorem cnt_le : ∀ (t : VT) (d : Nat), cnt t d ≤ 1000000 * (1 + t.total) := by
  intro t
  induction t with
  | nil => intro d; show 1 ≤ 1000000 * (1 + 0); omega
  | mk k i s n p c f ih =>
    intro d
    rw [cnt_eq]
    split
    · omega
    · have key : ∀ m, cntN f d m ≤ 1000000 * (m + ((List.range m).map fun j => (f j).total).sum) := by
        intro m
        induction m with
        | zero => simp [cntN]
        | succ m ihm =>
          have h := ih m (d + 1)
          rw [cntN_succ, List.range_succ, List.map_append, List.sum_append]
          simp only [List.map_cons, List.map_nil, List.sum_cons, List.sum_nil]
          omega
      have h := key n
      simp only [cntN] at h
      simp only [VT.total]
      omega
/-- valid, or too many -/
theorem cnt_chk : ∀ (t : VT) (d m : Nat), ((chk t d m).1 = 0 → cnt t d = (flatP t).length) ∧ ((chk t d m).1 ≠ 0 → 12 < m + cnt t d) := by
  intro t
  induction t with
  | nil =>
    intro d m
    unfold chk cnt
    by_cases h1 : 12 ≤ m
    · rw [if_pos h1]; exact ⟨fun h => (by simp at h), fun _ => (by omega)⟩
    · rw [if_neg h1]; exact ⟨fun _ => (by simp [flatP]), fun h => absurd rfl h⟩
  | mk k i s n p c f ih =>
    intro d m
    rw [chk_eq, cnt_eq, flatP_eq]
    have hp : 1 ≤ (if fitB k i s n = false ∨ (k = 3 ∧ 3 ≤ d) ∨ 24 < s.size ∨ 6 < n then 1000000 else 1 + ((List.range n).map fun j => cnt (f j) (d + 1)).sum) := by split <;> omega
    by_cases h1 : 12 ≤ m
    · rw [if_pos h1]; exact ⟨fun h => (by simp at h), fun _ => (by omega)⟩
    rw [if_neg h1]
    by_cases h2 : fitB k i s n = false
    · rw [if_pos h2, if_pos (Or.inl h2)]; exact ⟨fun h => (by simp at h), fun _ => (by omega)⟩
    rw [if_neg h2]
    by_cases h3 : k = 3 ∧ 3 ≤ d
    · rw [if_pos h3, if_pos (Or.inr (Or.inl h3))]; exact ⟨fun h => (by simp at h), fun _ => (by omega)⟩
    rw [if_neg h3]
    by_cases h4 : 24 < s.size
    · rw [if_pos h4, if_pos (Or.inr (Or.inr (Or.inl h4)))]; exact ⟨fun h => (by simp at h), fun _ => (by omega)⟩
    rw [if_neg h4]
    by_cases h5 : 6 < n
    · rw [if_pos h5, if_pos (Or.inr (Or.inr (Or.inr h5)))]; exact ⟨fun h => (by simp at h), fun _ => (by omega)⟩
    rw [if_neg h5, if_neg (by intro h; rcases h with h | h | h | h <;> contradiction)]
    have key : ∀ j, ((stepN (fun j m => chk (f j) (d + 1) m) (m + 1) j).1 = 0 → cntN f d j = (flatN f j).length ∧ (stepN (fun j m => chk (f j) (d + 1) m) (m + 1) j).2 = m + 1 + (flatN f j).length) ∧ ((stepN (fun j m => chk (f j) (d + 1) m) (m + 1) j).1 ≠ 0 → 12 < m + 1 + cntN f d j) := by
      intro j
      induction j with
      | zero => exact ⟨fun _ => ⟨rfl, rfl⟩, fun h => absurd rfl h⟩
      | succ j ihj =>
        by_cases hz : (stepN (fun j m => chk (f j) (d + 1) m) (m + 1) j).1 = 0
        · obtain ⟨e1, e2⟩ := ihj.1 hz
          rw [stepN_succ hz]
          have hc := ih j (d + 1) (stepN (fun j m => chk (f j) (d + 1) m) (m + 1) j).2
          rw [cntN_succ, flatN_succ, List.length_append]
          refine ⟨fun h => ⟨by rw [e1, hc.1 h], ?_⟩, fun h => ?_⟩
          · rw [chk_len _ _ _ h, e2]; omega
          · have := hc.2 h
            rw [e2] at this
            omega
        · have h6 := ihj.2 hz
          rw [stepN_stuck (Nat.le_succ j) hz]
          refine ⟨fun h => absurd h hz, fun _ => ?_⟩
          rw [cntN_succ]
          omega
    have hk := key n
    refine ⟨fun h => ?_, fun h => ?_⟩
    · have := (hk.1 h).1
      simp only [cntN, flatN] at this
      simp only [List.length_cons]
      omega
    · have := hk.2 h
      simp only [cntN] at this
      omega
/-- the law's clean is the cleaned -/
theorem cnt_clean (t : VT) : (12 < cnt t 0) ↔ (chk t 0 0).1 ≠ 0 := by
  have h := cnt_chk t 0 0
  refine ⟨fun h1 h2 => ?_, fun h1 => by have := h.2 h1; omega⟩
  have h3 := h.1 h2
  have h4 := chk_len t 0 0 h2
  have h5 := (chk_le t 0 0 (by omega)).2 h2
  omega
end Go.Proofs.Ytikfpoabaaiegaa

namespace Go.Proofs.Ytikfpoabaaiegaa
open Go.RowKit
set_option maxRecDepth 8000

def chkL (d q : Nat) (l : List VT) : Nat × Nat := stepN (fun j m => chk (l.getD j .nil) (d + 1) m) q l.length
theorem chkL_app {d q q1 q2 : Nat} {l : List VT} {v : VT} (h : chkL d q l = (0, q1)) (hv : chk v (d + 1) q1 = (0, q2)) : chkL d q (l ++ [v]) = (0, q2) := by
  have e : stepN (fun j m => chk ((l ++ [v]).getD j .nil) (d + 1) m) q l.length = (0, q1) := by
    rw [← h]
    exact stepN_congr _ (fun j hj m => by simp [List.getD_eq_getElem?_getD, List.getElem?_append_left hj])
  unfold chkL
  rw [List.length_append, List.length_singleton, stepN_succ (by rw [e]), e]
  simp only [List.getD_eq_getElem?_getD]
  rw [List.getElem?_append_right (Nat.le_refl _)]
  simpa using hv
theorem chk_mkL {d q : Nat} {l : List VT} (h6 : l.length ≤ 6) (hd : d < 3) (hq : q < 12) : chk (mkL l) d q = chkL d (q + 1) l := by
  unfold mkL
  rw [chk_eq, if_neg (by omega), if_neg (by simp [fitB]), if_neg (by omega), if_neg (by decide), if_neg (by omega)]
  rfl
theorem chk_leaf {k i : Int} {s : ByteArray} {d q : Nat} (hk : k ≠ 3) (hf : fitB k i s 0 = true) (hs : s.size ≤ 24) (hq : q < 12) : chk (.mk k i s 0 none 0 fun _ => .nil) d q = (0, q + 1) := by
  rw [chk_eq, if_neg (by omega), if_neg (by rw [hf]; decide), if_neg (fun h => hk h.1), if_neg (by omega), if_neg (by omega)]
  rfl
theorem chk_mkN {d q : Nat} (hq : q < 12) : chk mkN d q = (0, q + 1) := chk_leaf (by decide) (by simp [fitB]) (by decide) hq
theorem chk_mkI {d q : Nat} (i : Int) (hq : q < 12) : chk (mkI i) d q = (0, q + 1) := chk_leaf (by decide) (by simp [fitB]) (by decide) hq
theorem chk_mkT {d q : Nat} {s : ByteArray} (hs : s.size ≤ 24) (hq : q < 12) : chk (mkT s) d q = (0, q + 1) := chk_leaf (by decide) (by simp [fitB]) hs hq

theorem bytesAt_app (f : Nat → Int) (a m k : Nat) : bytesAt f a (m + k) = bytesAt f a m ++ bytesAt f (a + m) k := by
  unfold bytesAt
  rw [List.range_add, List.map_append, List.map_map]
  congr 1
  apply List.map_congr_left
  intro j _
  simp [Nat.add_assoc]
theorem bytesAt_len (f : Nat → Int) (a m : Nat) : (bytesAt f a m).length = m := by simp [bytesAt]
theorem bytesAt_one (f : Nat → Int) (a : Nat) : bytesAt f a 1 = [f a] := by simp [bytesAt]
theorem bytesAt_cons (f : Nat → Int) (a m : Nat) : bytesAt f a (m + 1) = f a :: bytesAt f (a + 1) m := by
  rw [Nat.add_comm m 1, bytesAt_app, bytesAt_one]
  rfl
theorem range_getD (l : List VT) (g : VT → List Int) : ((List.range l.length).flatMap fun j => g (l.getD j .nil)) = l.flatMap g := by
  have e : (List.range l.length).map (fun j => l.getD j .nil) = l := by
    apply List.ext_getElem
    · simp
    · intro i h1 h2
      simp [List.getD_eq_getElem?_getD, List.getElem?_eq_getElem h2]
  have h := congrArg (fun z => z.flatMap g) e
  simpa [List.flatMap_map] using h
theorem enc_mkL (l : List VT) : encB (mkL l) = 3 :: (l.length : Int) :: l.flatMap encB := by
  unfold mkL
  rw [encB_eq, ← range_getD l encB]
  simp

theorem or_plus {u x i : Nat} (h : u < 2 ^ (7 * i)) : u ||| x * 2 ^ (7 * i) = u + x * 2 ^ (7 * i) := by
  have h1 := Nat.shiftLeft_add_eq_or_of_lt h x
  rw [Nat.shiftLeft_eq] at h1
  rw [Nat.or_comm, ← h1, Nat.add_comm]
theorem pow7 (i : Nat) : 2 ^ (7 * (i + 1)) = 128 * 2 ^ (7 * i) := by
  rw [Nat.mul_add, Nat.pow_add]
  simp [Nat.mul_comm]
theorem grp_sound (f : Nat → Int) (n : Nat) (hf : ∀ j, j < n → 0 ≤ f j ∧ f j ≤ 255) : ∀ k a i u r a', grpS f n k a i u = some (r, a') → u < 2 ^ (7 * i) →
    ∃ m, r = u + m * 2 ^ (7 * i) ∧ grpB m = bytesAt f a (a' - a) ∧ a < a' ∧ a' ≤ n ∧ (0 < i → 1 ≤ m) := by
  intro k
  induction k with
  | zero => intro a i u r a' h; cases h
  | succ k ih =>
    intro a i u r a' h hu
    rw [grpS] at h
    by_cases h1 : n ≤ a
    · rw [if_pos h1] at h; cases h
    rw [if_neg h1] at h
    obtain ⟨hf0, hf1⟩ := hf a (by omega)
    obtain ⟨c, hc⟩ := Int.eq_ofNat_of_zero_le hf0
    rw [hc] at h
    simp only [Int.toNat_natCast] at h
    split at h
    · cases h
    rename_i h2
    rw [or_plus hu] at h
    split at h
    · rename_i h3
      simp only [Option.some.injEq, Prod.mk.injEq] at h
      obtain ⟨h4, h5⟩ := h
      refine ⟨c, by rw [← h4, Nat.mod_eq_of_lt h3], ?_, by omega, by omega, fun hi => by omega⟩
      rw [grpB_small h3, ← h5, show a + 1 - a = 1 by omega, bytesAt_one, hc]
    · rename_i h3
      have hu2 : u + c % 128 * 2 ^ (7 * i) < 2 ^ (7 * (i + 1)) := by
        rw [pow7]
        have hp : 0 < 2 ^ (7 * i) := Nat.two_pow_pos _
        have hm : c % 128 * 2 ^ (7 * i) ≤ 127 * 2 ^ (7 * i) := Nat.mul_le_mul (by omega) (Nat.le_refl _)
        omega
      obtain ⟨m, e1, e2, e3, e4, e5⟩ := ih _ _ _ _ _ h hu2
      have e5 := e5 (by omega)
      refine ⟨c % 128 + 128 * m, ?_, ?_, by omega, e4, fun _ => by omega⟩
      · rw [e1, pow7, Nat.add_mul]
        have : m * (128 * 2 ^ (7 * i)) = 128 * m * 2 ^ (7 * i) := by rw [← Nat.mul_assoc, Nat.mul_comm m 128]
        omega
      · rw [grpB_great (by omega), show a' - a = (a' - (a + 1)) + 1 by omega, bytesAt_cons, hc, ← e2]
        congr 1
        · omega
        · congr 1; omega
theorem grp_full (f : Nat → Int) (n : Nat) : ∀ m a i u, m * 2 ^ (7 * i) < 2 ^ 64 → (0 < i → 1 ≤ m) → u < 2 ^ (7 * i) → i ≤ 9 → (∀ j x, (grpB m)[j]? = some x → f (a + j) = x) →
    (a + (grpB m).length ≤ n → grpS f n (10 - i) a i u = some (u + m * 2 ^ (7 * i), a + (grpB m).length)) ∧ (n < a + (grpB m).length → grpS f n (10 - i) a i u = none) := by
  intro m
  induction m using Nat.strongRecOn with
  | ind m ih =>
    intro a i u hm hpos hu hi hb
    have e10 : 10 - i = (9 - i) + 1 := by omega
    have h9 : i = 9 → m ≤ 1 := by
      rintro rfl
      have : m * 2 ^ 63 < 2 * 2 ^ 63 := by simpa using hm
      have := Nat.lt_of_mul_lt_mul_right this
      omega
    rw [e10, grpS]
    by_cases h1 : m < 128
    · rw [grpB_small h1] at hb ⊢
      have h0 := hb 0 _ rfl
      simp only [Nat.add_zero] at h0
      simp only [List.length_singleton]
      refine ⟨fun h => ?_, fun h => if_pos (by omega)⟩
      rw [if_neg (by omega), h0]
      simp only [Int.toNat_natCast]
      rw [if_neg (fun hx => hx.elim (fun h2 => by have := hpos h2.1; omega) (fun h2 => by have := h9 h2.1; omega)), if_pos h1, or_plus hu, Nat.mod_eq_of_lt h1]
    · rw [grpB_great h1] at hb ⊢
      have h0 := hb 0 _ rfl
      simp only [Nat.add_zero] at h0
      have i8 : i ≤ 8 := by
        rcases Nat.lt_or_ge i 9 with h | h
        · omega
        · have := h9 (by omega); omega
      have hu2 : u + m % 128 * 2 ^ (7 * i) < 2 ^ (7 * (i + 1)) := by
        rw [pow7]
        have hp : 0 < 2 ^ (7 * i) := Nat.two_pow_pos _
        have hm : m % 128 * 2 ^ (7 * i) ≤ 127 * 2 ^ (7 * i) := Nat.mul_le_mul (by omega) (Nat.le_refl _)
        omega
      have hm2 : m / 128 * 2 ^ (7 * (i + 1)) < 2 ^ 64 := by
        rw [pow7, ← Nat.mul_assoc]
        refine Nat.lt_of_le_of_lt (Nat.mul_le_mul (Nat.div_mul_le_self m 128) (Nat.le_refl _)) hm
      obtain ⟨g1, g2⟩ := ih (m / 128) (by omega) (a + 1) (i + 1) (u + m % 128 * 2 ^ (7 * i)) hm2 (fun _ => by omega) hu2 (by omega) (fun j x hj => by
        have := hb (j + 1) x (by simpa using hj)
        rw [← this]; congr 1; omega)
      have e9 : 10 - (i + 1) = 9 - i := by omega
      rw [e9] at g1 g2
      simp only [List.length_cons]
      have key : ¬ n ≤ a → (if n ≤ a then none else if (0 < i ∧ (f a).toNat = 0) ∨ (i = 9 ∧ 1 < (f a).toNat) then none
    else if (f a).toNat < 128 then some (u ||| ((f a).toNat % 128) * 2 ^ (7 * i), a + 1) else grpS f n (9 - i) (a + 1) (i + 1) (u ||| ((f a).toNat % 128) * 2 ^ (7 * i))) = grpS f n (9 - i) (a + 1) (i + 1) (u + m % 128 * 2 ^ (7 * i)) := by
        intro h
        rw [if_neg h, h0]
        simp only [Int.toNat_natCast]
        rw [if_neg (by omega), if_neg (by omega), or_plus hu, show (m % 128 + 128) % 128 = m % 128 by omega]
      refine ⟨fun h => ?_, fun h => ?_⟩
      · rw [key (by omega), g1 (by omega)]
        have e : u + m % 128 * 2 ^ (7 * i) + m / 128 * 2 ^ (7 * (i + 1)) = u + m * 2 ^ (7 * i) := by
          rw [pow7, ← Nat.mul_assoc, Nat.add_assoc, ← Nat.add_mul]
          congr 2
          omega
        rw [e]
        congr 2
        omega
      · by_cases hn : n ≤ a
        · exact if_pos hn
        · rw [key hn, g2 (by omega)]
theorem unfold_fold (i : Int) : unfoldI (foldN i) = i := by
  unfold unfoldI foldN
  by_cases h : i < 0
  · rw [if_pos h, if_pos (by omega)]; omega
  · rw [if_neg h, if_neg (by omega)]; omega
theorem fold_unfold (u : Nat) : foldN (unfoldI u) = u := by
  unfold unfoldI foldN
  by_cases h : u % 2 = 1
  · rw [if_pos h, if_pos (by omega)]; omega
  · rw [if_neg h, if_neg (by omega)]; omega
end Go.Proofs.Ytikfpoabaaiegaa
