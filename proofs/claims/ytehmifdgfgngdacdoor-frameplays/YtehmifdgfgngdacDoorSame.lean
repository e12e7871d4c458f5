import Derived.Test.YtehmifdgfgngdacDoorOwn
import Derived.Deep.QuietTactic
import Derived.BigQuiet
namespace Go.Proofs.YtehmifdgfgngdacDoor
open Go.RowKit
set_option maxRecDepth 8000

set_option maxHeartbeats 400000 in
theorem same_unlike (pa pb : Option Addr) (na ca nb cb : Nat) (w : World) (h : ((na : Int) == (nb : Int)) = false) :
    Calls Tryd.prog 17 #[.slice pa na ca, .slice pb nb cb] w fun e w' => e = .returned (.bool false) ∧ Below w.heap.size w w' := by
  go_enter Tryd.func17, Tryd.ntmps17
  go_wp2
  go_ret
  exact ⟨rfl, Below.refl _ _⟩

set_option maxHeartbeats 400000 in
theorem same_none (pa pb : Option Addr) (ca cb : Nat) (w : World) :
    Calls Tryd.prog 17 #[.slice pa 0 ca, .slice pb 0 cb] w fun e w' => e = .returned (.bool true) ∧ Below w.heap.size w w' := by
  go_enter Tryd.func17, Tryd.ntmps17
  go_wp2
  refine wp_loop_rounds 1 ?_
  rw [rounds_succ]
  go_wp2
  go_ret
  exact ⟨rfl, Below.refl _ _⟩

theorem take_take_eq {za zb : List Int} {k : Nat} (ha : k < za.length) (hb : k < zb.length) (h : za.take k = zb.take k) (e : za.getD k 0 = zb.getD k 0) : za.take (k + 1) = zb.take (k + 1) := by
  rw [take_succ za k ha, take_succ zb k hb, h, e]
theorem ne_at {za zb : List Int} {k : Nat} (e : za.getD k 0 ≠ zb.getD k 0) : za ≠ zb := fun h => e (by rw [h])

set_option maxHeartbeats 1000000 in
theorem same_pos (b1 o1 b2 o2 n ca cb : Nat) (za zb : List Int) (w : World) (hna : za.length = n) (hnb : zb.length = n) (hn : n ≤ 140737488355328) (l1 : b1 < w.heap.size) (l2 : b2 < w.heap.size)
    (h1 : ∀ i, i < n → w.cell? ⟨b1, o1 + i, none⟩ = some (.int .u8 (za.getD i 0))) (h2 : ∀ i, i < n → w.cell? ⟨b2, o2 + i, none⟩ = some (.int .u8 (zb.getD i 0))) :
    Calls Tryd.prog 17 #[.slice (some ⟨b1, o1, none⟩) n ca, .slice (some ⟨b2, o2, none⟩) n cb] w fun e w' => e = .returned (.bool (decide (za = zb))) ∧ Below w.heap.size w w' := by
  have hnn : ((n : Int) == (n : Int)) = true := by simp
  go_enter Tryd.func17, Tryd.ntmps17
  go_wp2
  go_loopw [5] (fun i wr => ∃ k : Nat, k ≤ n ∧ i = .int .i64 k ∧ Hid (za.take k = zb.take k) ∧ Below w.heap.size w wr) (fun i _ => n - (intOf i).toNat)
  case atStart => exact ⟨0, Nat.zero_le _, rfl, rfl, Below.refl _ _⟩
  case round =>
    obtain ⟨k, hk, rfl, HE, hbel⟩ := hrel
    by_cases hlt : k < n
    · have c1 := (hbel.cell (p := ⟨b1, o1 + k, none⟩) l1).trans (h1 k hlt)
      have c2 := (hbel.cell (p := ⟨b2, o2 + k, none⟩) l2).trans (h2 k hlt)
      have hlt' : (k : Int) < (n : Int) := by omega
      have h0 : (0 : Int) ≤ (k : Int) := by omega
      have HT : Hid (za.getD k 0 = zb.getD k 0 → za.take (k + 1) = zb.take (k + 1)) := fun e => take_take_eq (by omega) (by omega) HE.out e
      have HN : Hid (za.getD k 0 ≠ zb.getD k 0 → za ≠ zb) := fun e => ne_at e
      clear h1 h2 hna hnb HE
      generalize za.getD k 0 = x at *
      generalize zb.getD k 0 = y at *
      by_cases hxy : (x == y) = true
      · have hne : (x != y) = false := by simp [bne, hxy]
        go_wp2_with fail
        go_quiet (fail)
        go_wp2
        go_roundw
        case rel => exact ⟨k + 1, by omega, by go_num, HT.out (by simpa using hxy), below_drewN hbel _⟩
        case measure => simp [intOf]; omega
      · have hne : (x != y) = true := by simp only [bne, Bool.not_eq_true] at hxy ⊢; rw [hxy]; rfl
        have HF : Hid (decide (za = zb) = false) := by
          show _ = _
          exact decide_eq_false (HN.out (by simpa using hxy))
        go_wp2_with fail
        go_quiet (fail)
        go_wp2
        go_ret
        exact ⟨by rw [HF.out]; rfl, below_drewN hbel _⟩
    · obtain rfl : k = n := by omega
      have HF : Hid (decide (za = zb) = true) := by
        have h := HE.out
        rw [List.take_of_length_le (by omega), List.take_of_length_le (by omega)] at h
        exact decide_eq_true h
      clear h1 h2 HE
      go_wp2
      go_ret
      exact ⟨by rw [HF.out]; rfl, hbel⟩

theorem same_any (pa pb : Option Addr) (na ca nb cb : Nat) (za zb : List Int) (w : World) (hna : za.length = na) (hnb : zb.length = nb) (hA : Bytes w pa za) (hB : Bytes w pb zb) (hl : na ≤ 140737488355328) :
    Calls Tryd.prog 17 #[.slice pa na ca, .slice pb nb cb] w fun e w' => e = .returned (.bool (decide (za = zb))) ∧ Below w.heap.size w w' := by
  by_cases hn : na = nb
  · subst hn
    by_cases h0 : na = 0
    · subst h0
      obtain rfl : za = [] := List.eq_nil_of_length_eq_zero hna
      obtain rfl : zb = [] := List.eq_nil_of_length_eq_zero hnb
      exact same_none pa pb ca cb w
    · obtain ⟨b1, o1, rfl, l1, h1⟩ := hA.at_ (by omega)
      obtain ⟨b2, o2, rfl, l2, h2⟩ := hB.at_ (by omega)
      rw [hna] at h1
      rw [hnb] at h2
      exact same_pos b1 o1 b2 o2 na ca cb za zb w hna hnb hl l1 l2 h1 h2
  · have e : decide (za = zb) = false := decide_eq_false (fun h => hn (by rw [← hna, ← hnb, h]))
    rw [e]
    exact same_unlike pa pb na ca nb cb w (by rw [beq_eq_false_iff_ne]; omega)
end Go.Proofs.YtehmifdgfgngdacDoor
