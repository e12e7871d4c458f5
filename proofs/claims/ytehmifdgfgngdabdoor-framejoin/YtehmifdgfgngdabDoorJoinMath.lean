import Derived.Test.YtehmifdgfgngdabDoorListsMore
namespace Go.Proofs.YtehmifdgfgngdabDoor
open Go.RowKit

theorem scanN_full {zs : List Int} {k : Nat} (h : ∀ j, j < k → (scanN zs j).2 < zs.length ∧ (unw (zs.drop (scanN zs j).2)).1 = 0) : (scanN zs k).1.length = k := by
  induction k with
  | zero => rfl
  | succ k ih =>
    have hk := h k (by omega)
    rw [scanN_go hk.1 hk.2]
    simp [ih (fun j hj => h j (by omega))]
theorem scanN_stops (zs : List Int) : ∃ k, k ≤ zs.length ∧ ¬ ((scanN zs k).2 < zs.length ∧ (unw (zs.drop (scanN zs k).2)).1 = 0) := by
  refine Classical.byContradiction fun hne => ?_
  have hall : ∀ j, j < zs.length + 1 → (scanN zs j).2 < zs.length ∧ (unw (zs.drop (scanN zs j).2)).1 = 0 := by
    intro j hj
    refine Classical.byContradiction fun hc => hne ⟨j, by omega, hc⟩
  have h1 := scanN_full hall
  have h2 := scanN_len zs (zs.length + 1)
  omega

theorem scanN_join (zss : List (List Int)) (b : List Int) (hm : ∀ z ∈ zss, z.length ≤ 32768) (k : Nat) : scanN (logOf zss ++ b) (zss.length + k) = (zss ++ (scanN b k).1, (logOf zss).length + (scanN b k).2) := by
  induction k with
  | zero =>
    have := scanN_log zss b hm zss.length (Nat.le_refl _)
    rw [List.take_length] at this
    rw [Nat.add_zero, this]
    simp [scanN]
  | succ k ih =>
    have hd : (logOf zss ++ b).drop ((logOf zss).length + (scanN b k).2) = b.drop (scanN b k).2 := by rw [← List.drop_drop, List.drop_left]
    by_cases h : (scanN b k).2 < b.length ∧ (unw (b.drop (scanN b k).2)).1 = 0
    · rw [scanN_go h.1 h.2, show zss.length + (k + 1) = zss.length + k + 1 by omega, scanN_go (by rw [ih, List.length_append]; show (logOf zss).length + (scanN b k).2 < _; omega) (by rw [ih, hd]; exact h.2), ih, hd]
      show _ = _
      rw [List.append_assoc, show (logOf zss).length + (scanN b k).2 + (unw (b.drop (scanN b k).2)).2.length + 8 = (logOf zss).length + ((scanN b k).2 + (unw (b.drop (scanN b k).2)).2.length + 8) by omega]
    · have h1 := scanN_stuck h 1
      have h2 : ¬ ((scanN (logOf zss ++ b) (zss.length + k)).2 < (logOf zss ++ b).length ∧ (unw ((logOf zss ++ b).drop (scanN (logOf zss ++ b) (zss.length + k)).2)).1 = 0) := by
        rw [ih, hd, List.length_append]
        rintro ⟨a1, a2⟩
        exact h ⟨by have : (logOf zss).length + (scanN b k).2 < (logOf zss).length + b.length := a1; omega, a2⟩
      have h3 := scanN_stuck h2 1
      rw [show zss.length + (k + 1) = zss.length + k + 1 by omega, h3, ih, h1]

theorem scan_join (zss : List (List Int)) (b : List Int) (hm : ∀ z ∈ zss, z.length ≤ 32768) : scanL (logOf zss ++ b) = zss ++ scanL b ∧ scanP (logOf zss ++ b) = (logOf zss).length + scanP b ∧ scanE (logOf zss ++ b) = scanE b := by
  obtain ⟨k, hk, hs⟩ := scanN_stops b
  have e1 := scanN_end hk hs
  have h8 := logOf_len8 zss
  have ej := scanN_join zss b hm k
  have hd : (logOf zss ++ b).drop ((logOf zss).length + (scanN b k).2) = b.drop (scanN b k).2 := by rw [← List.drop_drop, List.drop_left]
  have hs2 : ¬ ((scanN (logOf zss ++ b) (zss.length + k)).2 < (logOf zss ++ b).length ∧ (unw ((logOf zss ++ b).drop (scanN (logOf zss ++ b) (zss.length + k)).2)).1 = 0) := by
    rw [ej, hd, List.length_append]
    rintro ⟨a1, a2⟩
    exact hs ⟨by have : (logOf zss).length + (scanN b k).2 < (logOf zss).length + b.length := a1; omega, a2⟩
  have e2 := scanN_end (by rw [List.length_append]; omega) hs2
  rw [ej] at e2
  refine ⟨by rw [e2.1, e1.1], by rw [e2.2, e1.2], ?_⟩
  unfold scanE
  rw [e2.2, e1.2]
  show (if (logOf zss).length + (scanN b k).2 < (logOf zss ++ b).length then (unw ((logOf zss ++ b).drop ((logOf zss).length + (scanN b k).2))).1 else 0) = _
  rw [hd, List.length_append]
  by_cases h : (scanN b k).2 < b.length
  · rw [if_pos h, if_pos (by omega)]
  · rw [if_neg h, if_neg (by omega)]

theorem LBytes.drop {w : World} {b o : Nat} {vs : Nat → Option Addr × Nat} {zss : List (List Int)} (h : LBytes w (some ⟨b, o, none⟩) vs zss) (k : Nat) : LBytes w (some ⟨b, o + k, none⟩) (fun i => vs (k + i)) (zss.drop k) := by
  have e : ∀ i, (zss.drop k).getD i [] = zss.getD (k + i) [] := by intro i; rw [List.getD_eq_getElem?_getD, List.getD_eq_getElem?_getD, List.getElem?_drop]
  refine ⟨fun hp => ?_, fun i hi => ?_⟩
  · have h0 : k < zss.length := by simp at hp; omega
    obtain ⟨_, _, hbo, hlt, hc⟩ := h.at_ (by omega)
    cases hbo
    refine ⟨b, o + k, rfl, hlt, fun i hi => ?_⟩
    have hi' : k + i < zss.length := by simp at hi; omega
    rw [e, show o + k + i = o + (k + i) by omega]
    exact hc (k + i) hi'
  · have hi' : k + i < zss.length := by simp at hi; omega
    rw [e]
    exact h.each (k + i) hi'
end Go.Proofs.YtehmifdgfgngdabDoor
