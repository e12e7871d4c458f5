import Derived.Test.YtehmifdgfgngdacDoorSame
import Derived.Deep.RegionWith
namespace Go.Proofs.YtehmifdgfgngdacDoor
open Go.RowKit
set_option maxRecDepth 8000

/-- a slice of slices of bytes -/
structure LBytes (w : World) (p : Option Addr) (vs : Nat → Option Addr × Nat) (zss : List (List Int)) : Prop where
  at_ : 0 < zss.length → ∃ b o, p = some ⟨b, o, none⟩ ∧ b < w.heap.size ∧ ∀ i, i < zss.length → w.cell? ⟨b, o + i, none⟩ = some (.slice (vs i).1 (zss.getD i []).length (vs i).2)
  each : ∀ i, i < zss.length → Bytes w (vs i).1 (zss.getD i []) ∧ ((vs i).1 = none → (zss.getD i []).length = 0 ∧ (vs i).2 = 0) ∧ (zss.getD i []).length ≤ (vs i).2 ∧ (zss.getD i []).length ≤ 140737488355328

theorem LBytes.later {w w' : World} {p : Option Addr} {vs : Nat → Option Addr × Nat} {zss : List (List Int)} (h : LBytes w p vs zss) (hb : Below w.heap.size w w') : LBytes w' p vs zss := by
  refine ⟨fun hp => ?_, fun i hi => ⟨(h.each i hi).1.later hb, (h.each i hi).2⟩⟩
  obtain ⟨b, o, rfl, hlt, hc⟩ := h.at_ hp
  exact ⟨b, o, rfl, Nat.lt_of_lt_of_le hlt hb.size, fun i hi => (hb.cell (p := ⟨b, o + i, none⟩) hlt).trans (hc i hi)⟩
theorem getD_take_l (zss : List (List Int)) (k i : Nat) (h : i < k) : (zss.take k).getD i [] = zss.getD i [] := by
  rw [List.getD_eq_getElem?_getD, List.getD_eq_getElem?_getD, List.getElem?_take, if_pos h]
theorem LBytes.take {w : World} {p : Option Addr} {vs : Nat → Option Addr × Nat} {zss : List (List Int)} (h : LBytes w p vs zss) (k : Nat) : LBytes w p vs (zss.take k) := by
  refine ⟨fun hp => ?_, fun i hi => ?_⟩
  · have h0 : 0 < zss.length := by simp at hp; omega
    obtain ⟨b, o, rfl, hlt, hc⟩ := h.at_ h0
    refine ⟨b, o, rfl, hlt, fun i hi => ?_⟩
    have hi' : i < k ∧ i < zss.length := by simp at hi; omega
    rw [getD_take_l zss k i hi'.1]
    exact hc i hi'.2
  · have hi' : i < k ∧ i < zss.length := by simp at hi; omega
    rw [getD_take_l zss k i hi'.1]
    exact h.each i hi'.2

theorem take_l_eq {a b : List (List Int)} {k : Nat} (ha : k < a.length) (hb : k < b.length) (h : a.take k = b.take k) (e : a.getD k [] = b.getD k []) : a.take (k + 1) = b.take (k + 1) := by
  have t : ∀ (l : List (List Int)), k < l.length → l.take (k + 1) = l.take k ++ [l.getD k []] := by
    intro l hk
    rw [List.take_add_one, List.getD_eq_getElem?_getD, List.getElem?_eq_getElem hk]; rfl
  rw [t a ha, t b hb, h, e]

set_option maxHeartbeats 400000 in
theorem alike_unlike (pa pb : Option Addr) (na ca nb cb : Nat) (w : World) (h : ((na : Int) == (nb : Int)) = false) :
    Calls Tryd.prog 32 #[.slice pa na ca, .slice pb nb cb] w fun e w' => e = .returned (.bool false) ∧ Below w.heap.size w w' := by
  go_enter Tryd.func32, Tryd.ntmps32
  go_wp2
  go_ret
  exact ⟨rfl, Below.refl _ _⟩
set_option maxHeartbeats 400000 in
theorem alike_none (pa pb : Option Addr) (ca cb : Nat) (w : World) :
    Calls Tryd.prog 32 #[.slice pa 0 ca, .slice pb 0 cb] w fun e w' => e = .returned (.bool true) ∧ Below w.heap.size w w' := by
  go_enter Tryd.func32, Tryd.ntmps32
  go_wp2
  refine wp_loop_rounds 1 ?_
  rw [rounds_succ]
  go_wp2
  go_ret
  exact ⟨rfl, Below.refl _ _⟩

set_option maxHeartbeats 1000000 in
theorem alike_pos (b1 o1 b2 o2 n ca cb : Nat) (va vb : Nat → Option Addr × Nat) (za zb : List (List Int)) (w : World) (hna : za.length = n) (hnb : zb.length = n) (hn : n ≤ 140737488355328) (hA : LBytes w (some ⟨b1, o1, none⟩) va za) (hB : LBytes w (some ⟨b2, o2, none⟩) vb zb) (hp : 0 < n) :
    Calls Tryd.prog 32 #[.slice (some ⟨b1, o1, none⟩) n ca, .slice (some ⟨b2, o2, none⟩) n cb] w fun e w' => e = .returned (.bool (decide (za = zb))) ∧ Below w.heap.size w w' := by
  have hnn : ((n : Int) == (n : Int)) = true := by simp
  obtain ⟨_, _, e1, l1, h1⟩ := hA.at_ (by omega)
  cases e1
  obtain ⟨_, _, e2, l2, h2⟩ := hB.at_ (by omega)
  cases e2
  have HS : Hid (∀ W k, Below w.heap.size w W → k < n → Calls Tryd.prog 17 #[.slice (va k).1 (za.getD k []).length (va k).2, .slice (vb k).1 (zb.getD k []).length (vb k).2] W fun e w' => e = .returned (.bool (decide (za.getD k [] = zb.getD k []))) ∧ Below W.heap.size W w') :=
    fun W k hW hk => same_any _ _ _ _ _ _ _ _ W rfl rfl ((hA.each k (by omega)).1.later hW) ((hB.each k (by omega)).1.later hW) (hA.each k (by omega)).2.2.2
  clear hA hB
  go_enter Tryd.func32, Tryd.ntmps32
  go_wp2
  go_loopw [5] (fun i wr => ∃ k : Nat, k ≤ n ∧ i = .int .i64 k ∧ Hid (za.take k = zb.take k) ∧ Below w.heap.size w wr) (fun i _ => n - (intOf i).toNat)
  case atStart => exact ⟨0, Nat.zero_le _, rfl, rfl, Below.refl _ _⟩
  case round =>
    obtain ⟨k, hk, rfl, HE, hbel⟩ := hrel
    by_cases hlt : k < n
    · have c1 := (hbel.cell (p := ⟨b1, o1 + k, none⟩) l1).trans (h1 k (by omega))
      have c2 := (hbel.cell (p := ⟨b2, o2 + k, none⟩) l2).trans (h2 k (by omega))
      have hlt' : (k : Int) < (n : Int) := by omega
      have h0 : (0 : Int) ≤ (k : Int) := by omega
      have HT : Hid (za.getD k [] = zb.getD k [] → za.take (k + 1) = zb.take (k + 1)) := fun e => take_l_eq (by omega) (by omega) HE.out e
      have HN : Hid (za.getD k [] ≠ zb.getD k [] → za ≠ zb) := fun e h => e (by rw [h])
      have HC := HS.out
      have HC1 : Hid (∀ W, Below w.heap.size w W → Calls Tryd.prog 17 #[.slice (va k).1 (za.getD k []).length (va k).2, .slice (vb k).1 (zb.getD k []).length (vb k).2] W fun e w' => e = .returned (.bool (decide (za.getD k [] = zb.getD k []))) ∧ Below W.heap.size W w') := fun W hW => HS.out W k hW hlt
      clear HC h1 h2 hna hnb HE HS
      generalize (va k).1 = pa at *
      generalize (va k).2 = qa at *
      generalize (vb k).1 = pb at *
      generalize (vb k).2 = qb at *
      generalize za.getD k [] = x at *
      generalize zb.getD k [] = y at *
      by_cases hxy : x = y
      · have hd : decide (x = y) = true := decide_eq_true hxy
        rw [hd] at HC1
        have HT2 : Hid (za.take (k + 1) = zb.take (k + 1)) := HT.out hxy
        clear HT HN hd hxy
        go_wp2_with fail
        go_region_with (go_at_call 17; refine (HC1.out _ ?_).mono ?_; exact hbel.drew; rintro e w4 ⟨rfl, hb4⟩)
        all_goals
          have hbl : Below w.heap.size w w4 := hbel.drew.trans (Below.mono hb4 hbel.size)
          go_wp2
          go_roundw
          case rel => exact ⟨k + 1, by omega, by go_num, HT2, hbl⟩
          case measure => simp [intOf]; omega
      · have hd : decide (x = y) = false := decide_eq_false hxy
        rw [hd] at HC1
        have HF : Hid (decide (za = zb) = false) := decide_eq_false (HN.out hxy)
        clear HT HN hd hxy
        go_wp2_with fail
        go_region_with (go_at_call 17; refine (HC1.out _ ?_).mono ?_; exact hbel.drew; rintro e w4 ⟨rfl, hb4⟩)
        all_goals
          have hbl : Below w.heap.size w w4 := hbel.drew.trans (Below.mono hb4 hbel.size)
          go_wp2
          go_ret
          exact ⟨by rw [HF.out]; rfl, hbl⟩
    · obtain rfl : k = n := by omega
      have HF : Hid (decide (za = zb) = true) := by
        have h := HE.out
        rw [List.take_of_length_le (by omega), List.take_of_length_le (by omega)] at h
        exact decide_eq_true h
      clear h1 h2 HE HS
      go_wp2
      go_ret
      exact ⟨by rw [HF.out]; rfl, hbel⟩

theorem alike_any (pa pb : Option Addr) (na ca nb cb : Nat) (va vb : Nat → Option Addr × Nat) (za zb : List (List Int)) (w : World) (hna : za.length = na) (hnb : zb.length = nb) (hA : LBytes w pa va za) (hB : LBytes w pb vb zb) (hl : na ≤ 140737488355328) :
    Calls Tryd.prog 32 #[.slice pa na ca, .slice pb nb cb] w fun e w' => e = .returned (.bool (decide (za = zb))) ∧ Below w.heap.size w w' := by
  by_cases hn : na = nb
  · subst hn
    by_cases h0 : na = 0
    · subst h0
      obtain rfl : za = [] := List.eq_nil_of_length_eq_zero hna
      obtain rfl : zb = [] := List.eq_nil_of_length_eq_zero hnb
      exact alike_none pa pb ca cb w
    · obtain ⟨b1, o1, rfl, _, _⟩ := hA.at_ (by omega)
      obtain ⟨b2, o2, rfl, _, _⟩ := hB.at_ (by omega)
      exact alike_pos b1 o1 b2 o2 na ca cb va vb za zb w hna hnb hl hA hB (by omega)
  · have e : decide (za = zb) = false := decide_eq_false (fun h => hn (by rw [← hna, ← hnb, h]))
    rw [e]
    exact alike_unlike pa pb na ca nb cb w (by rw [beq_eq_false_iff_ne]; omega)
end Go.Proofs.YtehmifdgfgngdacDoor
