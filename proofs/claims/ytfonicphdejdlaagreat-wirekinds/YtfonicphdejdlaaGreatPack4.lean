import Derived.Test.YtfonicphdejdlaaGreatPack3
import Derived.Test.YtfonicphdejdlaaGreatPack1
import Derived.Test.YtfonicphdejdlaaGreatPack2
import Derived.Lib.Strings
namespace Go.Proofs.YtfonicphdejdlaaGreat
open Go.RowKit
set_option maxRecDepth 8000

/-- the int of a folded number -/
def unfoldI (u : Nat) : Int := if u % 2 = 1 then -1 - ((u / 2 : Nat) : Int) else ((u / 2 : Nat) : Int)
theorem and_one64 (u : Nat) (hu : u < 2 ^ 64) : bits BinOp.and IntKind.u64 (u : Int) 1 = ((u % 2 : Nat) : Int) := by
  have h := bits_and_u64_nat u 1 (by omega) (by omega)
  rw [Nat.and_one_is_mod] at h
  exact h
theorem compl_half (u : Nat) (hu : u < 2 ^ 64) : bits BinOp.xor IntKind.u64 IntKind.u64.max ((u / 2 : Nat) : Int) = ((18446744073709551616 - (u / 2 + 1) : Nat) : Int) := by
  have hm : IntKind.u64.max = ((18446744073709551615 : Nat) : Int) := by decide
  have h2 := bits_xor_u64_nat 18446744073709551615 (u / 2) (by omega) (by omega)
  have h3 : 18446744073709551615 ^^^ (u / 2) = 18446744073709551616 - (u / 2 + 1) := compl64 (u / 2) (by omega)
  rw [h3] at h2
  rw [hm, h2]

set_option maxHeartbeats 1000000 in
theorem unfold_any (u : Nat) (hu : u < 2 ^ 64) (w : World) : Calls Tryz.prog 129 #[.int .u64 (u : Int)] w fun e w' => e = .returned (.int .i64 (unfoldI u)) ∧ w' = w := by
  have h1 := and_one64 u hu
  by_cases h : u % 2 = 1
  · have hb : (((u % 2 : Nat) : Int) == 1) = true := by rw [h]; rfl
    have hc := compl_half u hu
    have hr : IntKind.i64.wrap ((18446744073709551616 - (u / 2 + 1) : Nat) : Int) = unfoldI u := by
      unfold unfoldI
      rw [if_pos h, IntKind.wrap_i64]
      omega
    rw [h] at h1
    go_enter Tryz.func129, Tryz.ntmps129
    go_wp2
    go_ret
    refine ⟨?_, rfl⟩
    have e : wrap64 (bits BinOp.xor IntKind.u64 IntKind.u64.max ((u : Int) / 2)) = unfoldI u := by
      rw [show (u : Int) / 2 = ((u / 2 : Nat) : Int) by omega, hc]
      rw [wrap64, ← IntKind.wrap_i64]
      exact hr
    first | exact congrArg (fun z => Ending.returned (Value.int .i64 z)) e | (rw [← e]; rfl)
  · have h0 : u % 2 = 0 := by omega
    rw [h0] at h1
    have hr : unfoldI u = (u : Int) / 2 := by unfold unfoldI; rw [if_neg h]; omega
    go_enter Tryz.func129, Tryz.ntmps129
    go_wp2
    go_ret
    exact ⟨by first | rfl | (rw [hr]; rfl), rfl⟩
end Go.Proofs.YtfonicphdejdlaaGreat

namespace Go.Proofs.YtfonicphdejdlaaGreat
open Go.RowKit
set_option maxRecDepth 8000
theorem clean_len {t : VT} : (flatP (cleanT t)).length ≤ 12 := by
  unfold cleanT
  split
  · rename_i h
    have h1 := chk_len t 0 0 h
    have h2 := (chk_le t 0 0 (by omega)).2 h
    omega
  · simp [zeroT, flatP]
/-- bytes as a text -/
def strOf (zs : List Int) : ByteArray := zs.foldl (fun r n => r.push (UInt8.ofNat n.toNat)) ByteArray.empty
theorem conv_any {w : World} {base b c : Nat} {zs : List Int} (h : OwnBy base w (.slice (some ⟨b, 0, none⟩) zs.length c) zs) : (convert 49 9 (.slice (some ⟨b, 0, none⟩) zs.length c)).run Tryz.prog w = .ok (.string (strOf zs)) w := by
  rw [run_convert_bytes_string (P := Tryz.prog) w 49 9 5 _ _ _ Tryz.underlying49 Tryz.underlying5 Tryz.underlying9]
  have hl := run_loadCells_list (P := Tryz.prog) (w := w) ⟨b, 0, none⟩ (zs.map (Value.int .u8)) (World.ownsRow.cells h rfl)
  rw [List.length_map] at hl
  exact run_bytesToString w ⟨b, 0, none⟩ zs.length c zs hl
end Go.Proofs.YtfonicphdejdlaaGreat

namespace Go.Proofs.YtfonicphdejdlaaGreat
open Go.RowKit
set_option maxRecDepth 8000

def mkN : VT := .mk 0 0 ⟨#[]⟩ 0 none 0 (fun _ => .nil)
def mkI (i : Int) : VT := .mk 1 i ⟨#[]⟩ 0 none 0 (fun _ => .nil)
def mkT (s : ByteArray) : VT := .mk 2 0 s 0 none 0 (fun _ => .nil)
def mkL (l : List VT) : VT := .mk 3 0 ⟨#[]⟩ l.length none 0 (fun j => l.getD j .nil)
/-- what reading comes to: an error's number, or the value, where it ends, how many parts there are -/
abbrev DR := Except Nat (VT × Nat × Nat)
/-- the first m items -/
def itemsS (g : Nat → Nat → DR) : Nat → Nat → Nat → Except Nat (List VT × Nat × Nat)
  | 0, a, q => .ok ([], a, q)
  | m + 1, a, q =>
    match itemsS g m a q with
    | .error e => .error e
    | .ok (l, a', q') =>
      match g a' q' with
      | .error e => .error e
      | .ok (v, a2, q2) => .ok (l ++ [v], a2, q2)
def bytesAt (f : Nat → Int) (a m : Nat) : List Int := (List.range m).map fun j => f (a + j)
/-- a part that stands in d lists; g reads an item -/
def partS (f : Nat → Int) (n : Nat) (g : Nat → Nat → DR) (d a q : Nat) : DR :=
  if n ≤ a then .error 28 else if 12 < q + 1 then .error 22 else if 3 < (f a).toNat then .error 28 else if (f a).toNat = 3 ∧ 3 ≤ d then .error 23
  else if (f a).toNat = 0 then .ok (mkN, a + 1, q + 1)
  else if (f a).toNat = 1 then (match grpS f n 10 (a + 1) 0 0 with | none => .error 28 | some (u, a') => .ok (mkI (unfoldI u), a', q + 1))
  else if n ≤ a + 1 then .error 28
  else if (f a).toNat = 2 then (if 24 < (f (a + 1)).toNat then .error 21 else if n < a + 2 + (f (a + 1)).toNat then .error 28 else .ok (mkT (strOf (bytesAt f (a + 2) (f (a + 1)).toNat)), a + 2 + (f (a + 1)).toNat, q + 1))
  else if 6 < (f (a + 1)).toNat then .error 22
  else (match itemsS g (f (a + 1)).toNat (a + 2) (q + 1) with | .error e => .error e | .ok (l, a', q') => .ok (mkL l, a', q'))
def decS (f : Nat → Int) (n : Nat) : Nat → Nat → Nat → Nat → DR
  | 0, d, a, q => partS f n (fun _ _ => .error 23) d a q
  | k + 1, d, a, q => partS f n (decS f n k (d + 1)) d a q

theorem grpS_le (f : Nat → Int) (n : Nat) : ∀ k a i u r, grpS f n k a i u = some r → r.2 ≤ n ∧ (u < 2 ^ 64 → i ≤ 9 → k ≤ 10 - i → r.1 < 2 ^ 64) := by
  intro k
  induction k with
  | zero => intro a i u r h; cases h
  | succ k ih =>
    intro a i u r h
    rw [grpS] at h
    split at h
    · cases h
    · split at h
      · cases h
      · rename_i h1 h2
        have key : u < 2 ^ 64 → i ≤ 9 → (u ||| (f a).toNat % 128 * 2 ^ (7 * i)) < 2 ^ 64 := fun hu hi => Nat.or_lt_two_pow hu (grp_fits hi (fun h9 => by omega))
        split at h
        · cases h
          exact ⟨by omega, fun hu hi _ => key hu hi⟩
        · have h3 := ih _ _ _ _ h
          refine ⟨h3.1, fun hu hi hk => ?_⟩
          by_cases h9 : i = 9
          · omega
          · exact h3.2 (key hu hi) (by omega) (by omega)
theorem itemsS_le {g : Nat → Nat → DR} {n : Nat} (hg : ∀ a q v a' q', g a q = .ok (v, a', q') → a ≤ n → a' ≤ n) : ∀ m a q l a' q', itemsS g m a q = .ok (l, a', q') → a ≤ n → a' ≤ n ∧ l.length = m := by
  intro m
  induction m with
  | zero => intro a q l a' q' h ha; simp only [itemsS, Except.ok.injEq, Prod.mk.injEq] at h; obtain ⟨rfl, rfl, rfl⟩ := h; exact ⟨ha, rfl⟩
  | succ m ih =>
    intro a q l a' q' h ha
    rw [itemsS] at h
    split at h
    · cases h
    · rename_i l1 a1 q1 h1
      split at h
      · cases h
      · rename_i v a2 q2 h2
        simp only [Except.ok.injEq, Prod.mk.injEq] at h
        obtain ⟨rfl, rfl, rfl⟩ := h
        have h3 := ih _ _ _ _ _ h1 ha
        exact ⟨hg _ _ _ _ _ h2 h3.1, by simp [h3.2]⟩
theorem partS_le {f : Nat → Int} {n : Nat} {g : Nat → Nat → DR} (hg : ∀ a q v a' q', g a q = .ok (v, a', q') → a ≤ n → a' ≤ n) {d a q a' q' : Nat} {v : VT} (h : partS f n g d a q = .ok (v, a', q')) : a' ≤ n := by
  unfold partS at h
  split at h
  · cases h
  split at h
  · cases h
  split at h
  · cases h
  split at h
  · cases h
  split at h
  · simp only [Except.ok.injEq, Prod.mk.injEq] at h; omega
  split at h
  · split at h
    · cases h
    · rename_i u a2 h2
      simp only [Except.ok.injEq, Prod.mk.injEq] at h
      have := (grpS_le _ _ _ _ _ _ _ h2).1
      simp only at this
      omega
  split at h
  · cases h
  split at h
  · split at h
    · cases h
    split at h
    · cases h
    · simp only [Except.ok.injEq, Prod.mk.injEq] at h; omega
  split at h
  · cases h
  split at h
  · cases h
  · rename_i l a2 q2 h2
    simp only [Except.ok.injEq, Prod.mk.injEq] at h
    have := (itemsS_le hg _ _ _ _ _ _ h2 (by omega)).1
    omega
theorem decS_le {f : Nat → Int} {n : Nat} : ∀ (k d a q : Nat) (v : VT) (a' q' : Nat), decS f n k d a q = .ok (v, a', q') → a' ≤ n := by
  intro k
  induction k with
  | zero => intro d a q v a' q' h; exact partS_le (fun _ _ _ _ _ h => by cases h) h
  | succ k ih => intro d a q v a' q' h; exact partS_le (fun a q v a' q' h _ => ih _ _ _ _ _ _ h) h
theorem itemsS_stuck {g : Nat → Nat → DR} {a q j e a' q' : Nat} {l : List VT} (h : itemsS g j a q = .ok (l, a', q')) (hg : g a' q' = .error e) : ∀ {m : Nat}, j < m → itemsS g m a q = .error e := by
  intro m
  induction m with
  | zero => intro h2; omega
  | succ m ih =>
    intro h2
    by_cases hj : j = m
    · subst hj
      rw [itemsS, h]
      simp only [hg]
    · rw [itemsS, ih (by omega)]
theorem itemsS_next {g : Nat → Nat → DR} {a q j a' q' a2 q2 : Nat} {l : List VT} {v : VT} (h : itemsS g j a q = .ok (l, a', q')) (hg : g a' q' = .ok (v, a2, q2)) : itemsS g (j + 1) a q = .ok (l ++ [v], a2, q2) := by
  rw [itemsS, h]
  simp only [hg]
theorem itemsS_q {g : Nat → Nat → DR} (hg : ∀ a q v a' q', g a q = .ok (v, a', q') → q' ≤ 12) : ∀ m a q l a' q', itemsS g m a q = .ok (l, a', q') → q ≤ 12 → q' ≤ 12 := by
  intro m
  induction m with
  | zero => intro a q l a' q' h ha; simp only [itemsS, Except.ok.injEq, Prod.mk.injEq] at h; omega
  | succ m ih =>
    intro a q l a' q' h ha
    rw [itemsS] at h
    split at h
    · cases h
    · split at h
      · cases h
      · rename_i v a2 q2 h2
        simp only [Except.ok.injEq, Prod.mk.injEq] at h
        obtain ⟨rfl, rfl, rfl⟩ := h
        exact hg _ _ _ _ _ h2
theorem partS_q {f : Nat → Int} {n : Nat} {g : Nat → Nat → DR} (hg : ∀ a q v a' q', g a q = .ok (v, a', q') → q' ≤ 12) {d a q a' q' : Nat} {v : VT} (h : partS f n g d a q = .ok (v, a', q')) : q' ≤ 12 := by
  unfold partS at h
  split at h
  · cases h
  split at h
  · cases h
  split at h
  · cases h
  split at h
  · cases h
  split at h
  · simp only [Except.ok.injEq, Prod.mk.injEq] at h; omega
  split at h
  · split at h
    · cases h
    · simp only [Except.ok.injEq, Prod.mk.injEq] at h; omega
  split at h
  · cases h
  split at h
  · split at h
    · cases h
    split at h
    · cases h
    · simp only [Except.ok.injEq, Prod.mk.injEq] at h; omega
  split at h
  · cases h
  split at h
  · cases h
  · rename_i l a2 q2 h2
    simp only [Except.ok.injEq, Prod.mk.injEq] at h
    have := itemsS_q hg _ _ _ _ _ _ h2 (by omega)
    omega
theorem decS_q {f : Nat → Int} {n : Nat} : ∀ (k d a q : Nat) (v : VT) (a' q' : Nat), decS f n k d a q = .ok (v, a', q') → q' ≤ 12 := by
  intro k
  induction k with
  | zero => intro d a q v a' q' h; exact partS_q (fun _ _ _ _ _ h => by cases h) h
  | succ k ih => intro d a q v a' q' h; exact partS_q (fun a q v a' q' h => ih _ _ _ _ _ _ h) h
def DPost (w : World) (db : Nat) (p : Option Addr) (n c : Nat) (r : DR) (x : Ending) (w' : World) : Prop :=
  (∀ t a' q', r = .ok (t, a', q') → ∃ u, x = .returned u.val ∧ VT.Alike t u ∧ VT.In w' (fun b => w.heap.size ≤ b) u ∧ Box w' db #[.slice p n c, .int .i64 (a' : Int), .int .i64 (q' : Int)] 198 ∧ But (fun y => y = db) w w') ∧ (∀ e : Nat, r = .error e → Fails e x ∧ But (fun y => y = db) w w')
end Go.Proofs.YtfonicphdejdlaaGreat

namespace Go.Proofs.YtfonicphdejdlaaGreat
open Go.RowKit
set_option maxRecDepth 8000

theorem txtB_inj {s u : ByteArray} (h : txtB s = txtB u) : s = u := by
  have h1 : s.data.toList = u.data.toList := by
    unfold txtB at h
    have inj : ∀ (a b : List UInt8), a.map (fun b => (b.toNat : Int)) = b.map (fun b => (b.toNat : Int)) → a = b := by
      intro a
      induction a with
      | nil => intro b h; cases b with
        | nil => rfl
        | cons => simp at h
      | cons x a ih =>
        intro b h
        cases b with
        | nil => simp at h
        | cons y b =>
          simp only [List.map_cons, List.cons.injEq] at h
          have h2 : x = y := UInt8.toNat_inj.1 (by omega)
          rw [h2, ih b h.2]
    exact inj _ _ h
  exact ByteArray.ext (Array.ext' h1)
theorem nil_text {s u : ByteArray} (hs : s.toList = []) (hu : u.toList = []) : s = u := by
  rw [Go.Lib.toList_data] at hs hu
  exact ByteArray.ext (Array.ext' (hs.trans hu.symm))
theorem grp_inj : ∀ (u v : Nat) (r1 r2 : List Int), grpB u ++ r1 = grpB v ++ r2 → u = v ∧ r1 = r2 := by
  intro u
  induction u using Nat.strongRecOn with
  | ind u ih =>
    intro v r1 r2 h
    by_cases hu : u < 128
    · rw [grpB_small hu] at h
      by_cases hv : v < 128
      · rw [grpB_small hv] at h
        simp only [List.cons_append, List.nil_append, List.cons.injEq] at h
        exact ⟨by omega, h.2⟩
      · rw [grpB_great hv] at h
        simp only [List.cons_append, List.nil_append, List.cons.injEq] at h
        omega
    · rw [grpB_great hu] at h
      by_cases hv : v < 128
      · rw [grpB_small hv] at h
        simp only [List.cons_append, List.nil_append, List.cons.injEq] at h
        omega
      · rw [grpB_great hv] at h
        simp only [List.cons_append, List.cons.injEq] at h
        have h2 := ih (u / 128) (by omega) (v / 128) r1 r2 h.2
        exact ⟨by omega, h2.2⟩
theorem fold_inj {i j : Int} (h : foldN i = foldN j) : i = j := by
  unfold foldN at h
  split at h <;> split at h <;> omega
theorem app_inj {a b : List Int} : ∀ {r1 r2 : List Int}, a.length = b.length → a ++ r1 = b ++ r2 → a = b ∧ r1 = r2 := fun hl h => List.append_inj h hl
theorem fit_facts {k i : Int} {s : ByteArray} {n : Nat} (h : fitB k i s n = true) : (0 ≤ k ∧ k ≤ 3) ∧ (i = 0 ∨ k = 1) ∧ (s.toList = [] ∨ k = 2) ∧ (n = 0 ∨ k = 3) := by
  simp only [fitB, Bool.and_eq_true, Bool.or_eq_true, decide_eq_true_eq, List.isEmpty_iff] at h
  exact ⟨⟨h.1.1.1.1, h.1.1.1.2⟩, h.1.1.2, h.1.2, h.2⟩
theorem enc_inj : ∀ (t u : VT) (r1 r2 : List Int), Val t → Val u → encB t ++ r1 = encB u ++ r2 → VT.Alike t u ∧ r1 = r2 := by
  intro t
  induction t with
  | nil => intro u r1 r2 h; exact h.elim
  | mk k i s n p c f ih =>
    intro u r1 r2 ht hu h
    cases u with
    | nil => exact hu.elim
    | mk k2 i2 s2 n2 p2 c2 f2 =>
      obtain ⟨⟨h1, _, _, _, _⟩, hi⟩ := ht
      obtain ⟨⟨g1, _, _, _, _⟩, gi⟩ := hu
      obtain ⟨⟨a0, a3⟩, ai, aS, an⟩ := fit_facts h1
      obtain ⟨_, bi, bS, bn⟩ := fit_facts g1
      rw [encB_eq, encB_eq] at h
      simp only [List.cons_append, List.cons.injEq] at h
      obtain ⟨hk, h⟩ := h
      subst hk
      rcases (by omega : k = 0 ∨ k = 1 ∨ k = 2 ∨ k = 3) with rfl | rfl | rfl | rfl
      · simp only [show ¬ (0 : Int) = 1 by decide, show ¬ (0 : Int) = 2 by decide, show ¬ (0 : Int) = 3 by decide, if_false, List.nil_append, or_false] at h ai aS an bi bS bn
        subst ai an bi bn
        exact ⟨⟨rfl, rfl, nil_text bS aS, rfl, fun j hj => absurd hj (by omega)⟩, h⟩
      · simp only [show ¬ (1 : Int) = 2 by decide, show ¬ (1 : Int) = 3 by decide, if_true, or_false] at h aS an bS bn
        subst an bn
        obtain ⟨h2, h3⟩ := grp_inj _ _ _ _ h
        exact ⟨⟨rfl, (fold_inj h2).symm, nil_text bS aS, rfl, fun j hj => absurd hj (by omega)⟩, h3⟩
      · simp only [show ¬ (2 : Int) = 1 by decide, show ¬ (2 : Int) = 3 by decide, if_true, if_false, or_false, List.cons_append, List.cons.injEq] at h ai an bi bn
        subst ai an bi bn
        obtain ⟨h2, h3⟩ := app_inj (by rw [txtB_len, txtB_len]; omega) h.2
        exact ⟨⟨rfl, rfl, (txtB_inj h2).symm, rfl, fun j hj => absurd hj (by omega)⟩, h3⟩
      · simp only [show ¬ (3 : Int) = 1 by decide, show ¬ (3 : Int) = 2 by decide, if_true, if_false, or_false, List.cons_append, List.cons.injEq] at h ai aS bi bS
        subst ai bi
        obtain ⟨hn, h⟩ := h
        have hn2 : n2 = n := by omega
        subst hn2
        have key : ∀ m, m ≤ n2 → ∀ q1 q2 : List Int, ((List.range m).flatMap fun j => encB (f j)) ++ q1 = ((List.range m).flatMap fun j => encB (f2 j)) ++ q2 → (∀ j, j < m → VT.Alike (f j) (f2 j)) ∧ q1 = q2 := by
          intro m
          induction m with
          | zero => intro _ q1 q2 h; exact ⟨fun j hj => absurd hj (by omega), by simpa using h⟩
          | succ m ihm =>
            intro hm q1 q2 h
            rw [List.range_succ, List.flatMap_append, List.flatMap_append] at h
            simp only [List.flatMap_cons, List.flatMap_nil, List.append_nil, List.append_assoc] at h
            obtain ⟨e1, e2⟩ := ihm (by omega) _ _ h
            obtain ⟨e3, e4⟩ := ih m (f2 m) q1 q2 (hi m (by omega)) (gi m (by omega)) e2
            refine ⟨fun j hj => ?_, e4⟩
            by_cases hjm : j < m
            · exact e1 j hjm
            · obtain rfl : j = m := by omega
              exact e3
        obtain ⟨e1, e2⟩ := key n2 (Nat.le_refl _) r1 r2 h
        exact ⟨⟨rfl, rfl, nil_text bS aS, rfl, e1⟩, e2⟩
end Go.Proofs.YtfonicphdejdlaaGreat

namespace Go.Proofs.YtfonicphdejdlaaGreat
open Go.RowKit
set_option maxRecDepth 8000
/-- what the law's own count comes to -/
def cnt : VT → Nat → Nat
  | .nil, _ => 1
  | .mk k i s n _ _ f, d => if fitB k i s n = false ∨ (k = 3 ∧ 3 ≤ d) ∨ 24 < s.size ∨ 6 < n then 1000000 else 1 + ((List.range n).map fun j => cnt (f j) (d + 1)).sum
theorem cnt_eq (k i : Int) (s : ByteArray) (n : Nat) (p : Option Addr) (c : Nat) (f : Nat → VT) (d : Nat) : cnt (.mk k i s n p c f) d = if fitB k i s n = false ∨ (k = 3 ∧ 3 ≤ d) ∨ 24 < s.size ∨ 6 < n then 1000000 else 1 + ((List.range n).map fun j => cnt (f j) (d + 1)).sum := rfl
/-- of the first j items -/
def cntN (f : Nat → VT) (d j : Nat) : Nat := ((List.range j).map fun j => cnt (f j) (d + 1)).sum
theorem cntN_succ (f : Nat → VT) (d j : Nat) : cntN f d (j + 1) = cntN f d j + cnt (f j) (d + 1) := by simp [cntN, List.range_succ]
theorem cnt_pos (t : VT) (d : Nat) : 1 ≤ cnt t d := by
  cases t with
  | nil => exact Nat.le_refl _
  | mk k i s n p c f => rw [cnt_eq]; split <;> omega
theorem cntN_mono (f : Nat → VT) (d : Nat) {a b : Nat} (h : a ≤ b) : cntN f d a ≤ cntN f d b := by
  induction h with
  | refl => exact Nat.le_refl _
  | step _ ih => rw [cntN_succ]; omega
theorem cnt_le : ∀ (t : VT) (d : Nat), cnt t d ≤ 1000000 * (1 + t.total) := by
  intro t
  induction t with
  | nil => intro d; show 1 ≤ 1000000 * (1 + 0); omega
  | mk k i s n p c f ih =>
    intro d
    rw [cnt_eq]
    split
    · omega
    · have key : ∀ m, cntN f d m ≤ 1000000 * (m + ((List.range m).map fun j => (f j).total).sum) := by
        intro m
        induction m with
        | zero => simp [cntN]
        | succ m ihm =>
          have h := ih m (d + 1)
          rw [cntN_succ, List.range_succ, List.map_append, List.sum_append]
          simp only [List.map_cons, List.map_nil, List.sum_cons, List.sum_nil]
          omega
      have h := key n
      simp only [cntN] at h
      simp only [VT.total]
      omega
/-- valid, or too many -/
theorem cnt_chk : ∀ (t : VT) (d m : Nat), ((chk t d m).1 = 0 → cnt t d = (flatP t).length) ∧ ((chk t d m).1 ≠ 0 → 12 < m + cnt t d) := by
  intro t
  induction t with
  | nil =>
    intro d m
    unfold chk cnt
    by_cases h1 : 12 ≤ m
    · rw [if_pos h1]; exact ⟨fun h => (by simp at h), fun _ => (by omega)⟩
    · rw [if_neg h1]; exact ⟨fun _ => (by simp [flatP]), fun h => absurd rfl h⟩
  | mk k i s n p c f ih =>
    intro d m
    rw [chk_eq, cnt_eq, flatP_eq]
    have hp : 1 ≤ (if fitB k i s n = false ∨ (k = 3 ∧ 3 ≤ d) ∨ 24 < s.size ∨ 6 < n then 1000000 else 1 + ((List.range n).map fun j => cnt (f j) (d + 1)).sum) := by split <;> omega
    by_cases h1 : 12 ≤ m
    · rw [if_pos h1]; exact ⟨fun h => (by simp at h), fun _ => (by omega)⟩
    rw [if_neg h1]
    by_cases h2 : fitB k i s n = false
    · rw [if_pos h2, if_pos (Or.inl h2)]; exact ⟨fun h => (by simp at h), fun _ => (by omega)⟩
    rw [if_neg h2]
    by_cases h3 : k = 3 ∧ 3 ≤ d
    · rw [if_pos h3, if_pos (Or.inr (Or.inl h3))]; exact ⟨fun h => (by simp at h), fun _ => (by omega)⟩
    rw [if_neg h3]
    by_cases h4 : 24 < s.size
    · rw [if_pos h4, if_pos (Or.inr (Or.inr (Or.inl h4)))]; exact ⟨fun h => (by simp at h), fun _ => (by omega)⟩
    rw [if_neg h4]
    by_cases h5 : 6 < n
    · rw [if_pos h5, if_pos (Or.inr (Or.inr (Or.inr h5)))]; exact ⟨fun h => (by simp at h), fun _ => (by omega)⟩
    rw [if_neg h5, if_neg (by intro h; rcases h with h | h | h | h <;> contradiction)]
    have key : ∀ j, ((stepN (fun j m => chk (f j) (d + 1) m) (m + 1) j).1 = 0 → cntN f d j = (flatN f j).length ∧ (stepN (fun j m => chk (f j) (d + 1) m) (m + 1) j).2 = m + 1 + (flatN f j).length) ∧ ((stepN (fun j m => chk (f j) (d + 1) m) (m + 1) j).1 ≠ 0 → 12 < m + 1 + cntN f d j) := by
      intro j
      induction j with
      | zero => exact ⟨fun _ => ⟨rfl, rfl⟩, fun h => absurd rfl h⟩
      | succ j ihj =>
        by_cases hz : (stepN (fun j m => chk (f j) (d + 1) m) (m + 1) j).1 = 0
        · obtain ⟨e1, e2⟩ := ihj.1 hz
          rw [stepN_succ hz]
          have hc := ih j (d + 1) (stepN (fun j m => chk (f j) (d + 1) m) (m + 1) j).2
          rw [cntN_succ, flatN_succ, List.length_append]
          refine ⟨fun h => ⟨by rw [e1, hc.1 h], ?_⟩, fun h => ?_⟩
          · rw [chk_len _ _ _ h, e2]; omega
          · have := hc.2 h
            rw [e2] at this
            omega
        · have h6 := ihj.2 hz
          rw [stepN_stuck (Nat.le_succ j) hz]
          refine ⟨fun h => absurd h hz, fun _ => ?_⟩
          rw [cntN_succ]
          omega
    have hk := key n
    refine ⟨fun h => ?_, fun h => ?_⟩
    · have := (hk.1 h).1
      simp only [cntN, flatN] at this
      simp only [List.length_cons]
      omega
    · have := hk.2 h
      simp only [cntN] at this
      omega
/-- the law's clean is the cleaned -/
theorem cnt_clean (t : VT) : (12 < cnt t 0) ↔ (chk t 0 0).1 ≠ 0 := by
  have h := cnt_chk t 0 0
  refine ⟨fun h1 h2 => ?_, fun h1 => by have := h.2 h1; omega⟩
  have h3 := h.1 h2
  have h4 := chk_len t 0 0 h2
  have h5 := (chk_le t 0 0 (by omega)).2 h2
  omega
end Go.Proofs.YtfonicphdejdlaaGreat
