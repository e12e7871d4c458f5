import Derived.Test.YtoifpdnaeogdgabDoorPack10
import Derived.Test.YtoifpdnaeogdgabDoorPack17
namespace Go.Proofs.YtoifpdnaeogdgabDoor
open Go.RowKit
set_option maxRecDepth 8000

def chkL (d q : Nat) (l : List VT) : Nat × Nat := stepN (fun j m => chk (l.getD j .nil) (d + 1) m) q l.length
theorem chkL_app {d q q1 q2 : Nat} {l : List VT} {v : VT} (h : chkL d q l = (0, q1)) (hv : chk v (d + 1) q1 = (0, q2)) : chkL d q (l ++ [v]) = (0, q2) := by
  have e : stepN (fun j m => chk ((l ++ [v]).getD j .nil) (d + 1) m) q l.length = (0, q1) := by
    rw [← h]
    exact stepN_congr _ (fun j hj m => by simp [List.getD_eq_getElem?_getD, List.getElem?_append_left hj])
  unfold chkL
  rw [List.length_append, List.length_singleton, stepN_succ (by rw [e]), e]
  simp only [List.getD_eq_getElem?_getD]
  rw [List.getElem?_append_right (Nat.le_refl _)]
  simpa using hv
theorem chk_mkL {d q : Nat} {l : List VT} (h6 : l.length ≤ 6) (hd : d < 3) (hq : q < 12) : chk (mkL l) d q = chkL d (q + 1) l := by
  unfold mkL
  rw [chk_eq, if_neg (by omega), if_neg (by simp [fitB]), if_neg (by omega), if_neg (by decide), if_neg (by omega)]
  rfl
theorem chk_leaf {k i : Int} {s : ByteArray} {d q : Nat} (hk : k ≠ 3) (hf : fitB k i s 0 = true) (hs : s.size ≤ 24) (hq : q < 12) : chk (.mk k i s 0 none 0 fun _ => .nil) d q = (0, q + 1) := by
  rw [chk_eq, if_neg (by omega), if_neg (by rw [hf]; decide), if_neg (fun h => hk h.1), if_neg (by omega), if_neg (by omega)]
  rfl
theorem chk_mkN {d q : Nat} (hq : q < 12) : chk mkN d q = (0, q + 1) := chk_leaf (by decide) (by simp [fitB]) (by decide) hq
theorem chk_mkI {d q : Nat} (i : Int) (hq : q < 12) : chk (mkI i) d q = (0, q + 1) := chk_leaf (by decide) (by simp [fitB]) (by decide) hq
theorem chk_mkT {d q : Nat} {s : ByteArray} (hs : s.size ≤ 24) (hq : q < 12) : chk (mkT s) d q = (0, q + 1) := chk_leaf (by decide) (by simp [fitB]) hs hq

theorem bytesAt_app (f : Nat → Int) (a m k : Nat) : bytesAt f a (m + k) = bytesAt f a m ++ bytesAt f (a + m) k := by
  unfold bytesAt
  rw [List.range_add, List.map_append, List.map_map]
  congr 1
  apply List.map_congr_left
  intro j _
  simp [Nat.add_assoc]
theorem bytesAt_len (f : Nat → Int) (a m : Nat) : (bytesAt f a m).length = m := by simp [bytesAt]
theorem bytesAt_one (f : Nat → Int) (a : Nat) : bytesAt f a 1 = [f a] := by simp [bytesAt]
theorem bytesAt_cons (f : Nat → Int) (a m : Nat) : bytesAt f a (m + 1) = f a :: bytesAt f (a + 1) m := by
  rw [Nat.add_comm m 1, bytesAt_app, bytesAt_one]
  rfl
theorem range_getD (l : List VT) (g : VT → List Int) : ((List.range l.length).flatMap fun j => g (l.getD j .nil)) = l.flatMap g := by
  have e : (List.range l.length).map (fun j => l.getD j .nil) = l := by
    apply List.ext_getElem
    · simp
    · intro i h1 h2
      simp [List.getD_eq_getElem?_getD, List.getElem?_eq_getElem h2]
  have h := congrArg (fun z => z.flatMap g) e
  simpa [List.flatMap_map] using h
theorem enc_mkL (l : List VT) : encB (mkL l) = 3 :: (l.length : Int) :: l.flatMap encB := by
  unfold mkL
  rw [encB_eq, ← range_getD l encB]
  simp

theorem or_plus {u x i : Nat} (h : u < 2 ^ (7 * i)) : u ||| x * 2 ^ (7 * i) = u + x * 2 ^ (7 * i) := by
  have h1 := Nat.shiftLeft_add_eq_or_of_lt h x
  rw [Nat.shiftLeft_eq] at h1
  rw [Nat.or_comm, ← h1, Nat.add_comm]
theorem pow7 (i : Nat) : 2 ^ (7 * (i + 1)) = 128 * 2 ^ (7 * i) := by
  rw [Nat.mul_add, Nat.pow_add]
  simp [Nat.mul_comm]
theorem grp_sound (f : Nat → Int) (n : Nat) (hf : ∀ j, j < n → 0 ≤ f j ∧ f j ≤ 255) : ∀ k a i u r a', grpS f n k a i u = some (r, a') → u < 2 ^ (7 * i) →
    ∃ m, r = u + m * 2 ^ (7 * i) ∧ grpB m = bytesAt f a (a' - a) ∧ a < a' ∧ a' ≤ n ∧ (0 < i → 1 ≤ m) := by
  intro k
  induction k with
  | zero => intro a i u r a' h; cases h
  | succ k ih =>
    intro a i u r a' h hu
    rw [grpS] at h
    by_cases h1 : n ≤ a
    · rw [if_pos h1] at h; cases h
    rw [if_neg h1] at h
    obtain ⟨hf0, hf1⟩ := hf a (by omega)
    obtain ⟨c, hc⟩ := Int.eq_ofNat_of_zero_le hf0
    rw [hc] at h
    simp only [Int.toNat_natCast] at h
    split at h
    · cases h
    rename_i h2
    rw [or_plus hu] at h
    split at h
    · rename_i h3
      simp only [Option.some.injEq, Prod.mk.injEq] at h
      obtain ⟨h4, h5⟩ := h
      refine ⟨c, by rw [← h4, Nat.mod_eq_of_lt h3], ?_, by omega, by omega, fun hi => by omega⟩
      rw [grpB_small h3, ← h5, show a + 1 - a = 1 by omega, bytesAt_one, hc]
    · rename_i h3
      have hu2 : u + c % 128 * 2 ^ (7 * i) < 2 ^ (7 * (i + 1)) := by
        rw [pow7]
        have hp : 0 < 2 ^ (7 * i) := Nat.two_pow_pos _
        have hm : c % 128 * 2 ^ (7 * i) ≤ 127 * 2 ^ (7 * i) := Nat.mul_le_mul (by omega) (Nat.le_refl _)
        omega
      obtain ⟨m, e1, e2, e3, e4, e5⟩ := ih _ _ _ _ _ h hu2
      have e5 := e5 (by omega)
      refine ⟨c % 128 + 128 * m, ?_, ?_, by omega, e4, fun _ => by omega⟩
      · rw [e1, pow7, Nat.add_mul]
        have : m * (128 * 2 ^ (7 * i)) = 128 * m * 2 ^ (7 * i) := by rw [← Nat.mul_assoc, Nat.mul_comm m 128]
        omega
      · rw [grpB_great (by omega), show a' - a = (a' - (a + 1)) + 1 by omega, bytesAt_cons, hc, ← e2]
        congr 1
        · omega
        · congr 1; omega
theorem grp_full (f : Nat → Int) (n : Nat) : ∀ m a i u, m * 2 ^ (7 * i) < 2 ^ 64 → (0 < i → 1 ≤ m) → u < 2 ^ (7 * i) → i ≤ 9 → (∀ j x, (grpB m)[j]? = some x → f (a + j) = x) →
    (a + (grpB m).length ≤ n → grpS f n (10 - i) a i u = some (u + m * 2 ^ (7 * i), a + (grpB m).length)) ∧ (n < a + (grpB m).length → grpS f n (10 - i) a i u = none) := by
  intro m
  induction m using Nat.strongRecOn with
  | ind m ih =>
    intro a i u hm hpos hu hi hb
    have e10 : 10 - i = (9 - i) + 1 := by omega
    have h9 : i = 9 → m ≤ 1 := by
      rintro rfl
      have : m * 2 ^ 63 < 2 * 2 ^ 63 := by simpa using hm
      have := Nat.lt_of_mul_lt_mul_right this
      omega
    rw [e10, grpS]
    by_cases h1 : m < 128
    · rw [grpB_small h1] at hb ⊢
      have h0 := hb 0 _ rfl
      simp only [Nat.add_zero] at h0
      simp only [List.length_singleton]
      refine ⟨fun h => ?_, fun h => if_pos (by omega)⟩
      rw [if_neg (by omega), h0]
      simp only [Int.toNat_natCast]
      rw [if_neg (fun hx => hx.elim (fun h2 => by have := hpos h2.1; omega) (fun h2 => by have := h9 h2.1; omega)), if_pos h1, or_plus hu, Nat.mod_eq_of_lt h1]
    · rw [grpB_great h1] at hb ⊢
      have h0 := hb 0 _ rfl
      simp only [Nat.add_zero] at h0
      have i8 : i ≤ 8 := by
        rcases Nat.lt_or_ge i 9 with h | h
        · omega
        · have := h9 (by omega); omega
      have hu2 : u + m % 128 * 2 ^ (7 * i) < 2 ^ (7 * (i + 1)) := by
        rw [pow7]
        have hp : 0 < 2 ^ (7 * i) := Nat.two_pow_pos _
        have hm : m % 128 * 2 ^ (7 * i) ≤ 127 * 2 ^ (7 * i) := Nat.mul_le_mul (by omega) (Nat.le_refl _)
        omega
      have hm2 : m / 128 * 2 ^ (7 * (i + 1)) < 2 ^ 64 := by
        rw [pow7, ← Nat.mul_assoc]
        refine Nat.lt_of_le_of_lt (Nat.mul_le_mul (Nat.div_mul_le_self m 128) (Nat.le_refl _)) hm
      obtain ⟨g1, g2⟩ := ih (m / 128) (by omega) (a + 1) (i + 1) (u + m % 128 * 2 ^ (7 * i)) hm2 (fun _ => by omega) hu2 (by omega) (fun j x hj => by
        have := hb (j + 1) x (by simpa using hj)
        rw [← this]; congr 1; omega)
      have e9 : 10 - (i + 1) = 9 - i := by omega
      rw [e9] at g1 g2
      simp only [List.length_cons]
      have key : ¬ n ≤ a → (if n ≤ a then none else if (0 < i ∧ (f a).toNat = 0) ∨ (i = 9 ∧ 1 < (f a).toNat) then none
    else if (f a).toNat < 128 then some (u ||| ((f a).toNat % 128) * 2 ^ (7 * i), a + 1) else grpS f n (9 - i) (a + 1) (i + 1) (u ||| ((f a).toNat % 128) * 2 ^ (7 * i))) = grpS f n (9 - i) (a + 1) (i + 1) (u + m % 128 * 2 ^ (7 * i)) := by
        intro h
        rw [if_neg h, h0]
        simp only [Int.toNat_natCast]
        rw [if_neg (by omega), if_neg (by omega), or_plus hu, show (m % 128 + 128) % 128 = m % 128 by omega]
      refine ⟨fun h => ?_, fun h => ?_⟩
      · rw [key (by omega), g1 (by omega)]
        have e : u + m % 128 * 2 ^ (7 * i) + m / 128 * 2 ^ (7 * (i + 1)) = u + m * 2 ^ (7 * i) := by
          rw [pow7, ← Nat.mul_assoc, Nat.add_assoc, ← Nat.add_mul]
          congr 2
          omega
        rw [e]
        congr 2
        omega
      · by_cases hn : n ≤ a
        · exact if_pos hn
        · rw [key hn, g2 (by omega)]
theorem unfold_fold (i : Int) : unfoldI (foldN i) = i := by
  unfold unfoldI foldN
  by_cases h : i < 0
  · rw [if_pos h, if_pos (by omega)]; omega
  · rw [if_neg h, if_neg (by omega)]; omega
theorem fold_unfold (u : Nat) : foldN (unfoldI u) = u := by
  unfold unfoldI foldN
  by_cases h : u % 2 = 1
  · rw [if_pos h, if_pos (by omega)]; omega
  · rw [if_neg h, if_neg (by omega)]; omega
end Go.Proofs.YtoifpdnaeogdgabDoor
