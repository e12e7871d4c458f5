import Derived.Test.YtnbcidlmckmaaaaKbM
namespace Go.Proofs.Ytnbcidlmckmaaaa
open Go.RowKit
set_option maxRecDepth 8000
set_option maxHeartbeats 2000000 in
theorem index_any (N c : Nat) (hN : N ≤ 4) (w : World) (b : Nat) (K : Bk) (hI : BkI w b K) : Calls Try.prog 72 #[.slice (some ⟨b, 4, none⟩) N c, .int .i64 0] w fun e w' => w' = w ∧ ∃ r : Int, e = .returned (.int .i64 r) ∧ (0 ≤ r ↔ ∃ p, p < N ∧ K.st p = 0) := by
  have HI := hid hI
  clear hI
  go_enter Try.func72, Try.ntmps72
  go_wp2_with fail
  go_loopw [8] (fun x wr => wr = w ∧ ∃ k : Nat, k ≤ N ∧ x = .int .i64 (k : Int) ∧ ∀ p, p < k → K.st p ≠ 0) (fun x _ => N - (intOf x).toNat)
  case atStart => exact ⟨rfl, 0, Nat.zero_le _, rfl, fun p hp => absurd hp (by omega)⟩
  case round =>
    obtain ⟨rfl, k, hk, rfl, hok⟩ := hrel
    have HOk := hid hok
    clear hok
    by_cases hlt : k < N
    · have hlt' : (k : Int) < (N : Int) := by omega
      have cs := HI.out.cs (i := k) (by omega)
      by_cases hs : K.st k = 0
      · rw [hs] at cs
        go_wp2
        refine bodyPost_ret (v := .int .i64 (k : Int)) (by simp [results, Try.results72, go_sem]) rfl ⟨rfl, k, rfl, fun _ => ⟨k, hlt, hs⟩, fun _ => by omega⟩
      · have hs' : ((0 : Int) == K.st k) = false := by simp; exact fun e => hs e.symm
        go_wp2
        go_roundw
        case rel => exact ⟨trivial, k + 1, by omega, by go_num, fun p hp => by rcases Nat.lt_or_ge p k with h | h; exact HOk.out p h; rw [show p = k by omega]; exact hs⟩
        case measure => simp [intOf]; omega
    · have hlt' : ¬ (k : Int) < (N : Int) := by omega
      go_wp2
      refine bodyPost_ret (v := .int .i64 (-1)) (by simp [results, Try.results72, go_sem]) rfl ⟨rfl, -1, rfl, fun h => by omega, fun ⟨p, hp, h0⟩ => absurd h0 (HOk.out p (by omega))⟩
def Bk.opn (K : Bk) : Bool := (List.range K.ports.toNat).any fun p => K.st p == 0
theorem Bk.opn_iff (K : Bk) : K.opn = true ↔ ∃ p, p < K.ports.toNat ∧ K.st p = 0 := by
  unfold Bk.opn
  rw [List.any_eq_true]
  constructor
  · rintro ⟨p, hp, h⟩; exact ⟨p, List.mem_range.1 hp, by simpa using h⟩
  · rintro ⟨p, hp, h⟩; exact ⟨p, List.mem_range.2 hp, by simpa using h⟩
set_option maxHeartbeats 2000000 in
theorem contains_any (N c : Nat) (w : World) (b : Nat) (K : Bk) (hI : BkI w b K) (hN : K.ports = (N : Int)) : Calls Try.prog 59 #[.slice (some ⟨b, 4, none⟩) N c, .int .i64 0] w fun e w' => e = .returned (.bool K.opn) ∧ w' = w := by
  have hp := hI.p1
  have HX := hid (index_any N c (by omega) w b K hI)
  have hO := K.opn_iff
  rw [hN, show ((N : Int)).toNat = N by omega] at hO
  have HO := hid hO
  clear hI hO
  go_enter Try.func59, Try.ntmps59
  go_wp2_with fail
  refine HX.out.mono ?_
  rintro e w1 ⟨rfl, r, rfl, hr⟩
  have HR := hid hr
  clear hr HX
  by_cases h0 : 0 ≤ r
  · have hT : K.opn = true := HO.out.2 (HR.out.1 h0)
    go_wp2
    refine bodyPost_ret (v := .bool true) (by simp [results, Try.results59, go_sem]) rfl ⟨by rw [hT], rfl⟩
  · have hT : K.opn = false := by
      rcases h : K.opn with _ | _
      · rfl
      · exact absurd (HR.out.2 (HO.out.1 h)) h0
    go_wp2
    refine bodyPost_ret (v := .bool false) (by simp [results, Try.results59, go_sem]; omega) rfl ⟨by rw [hT], rfl⟩
end Go.Proofs.Ytnbcidlmckmaaaa
