import Derived.Test.YtehmifdgfgngdabDoorOwn
namespace Go.Proofs.YtehmifdgfgngdabDoor
open Go.RowKit

theorem ret_num {k : IntKind} {a b : Int} (h : a = b) : Ending.returned (.int k a) = .returned (.int k b) := by rw [h]
theorem tmod_all (k : Int) (n : Nat) (hn : 0 < n) : k % (n : Int) = k.tmod n % (n : Int) ∧ k.tmod n < n ∧ -(n : Int) < k.tmod n := by
  have h1 := Int.tmod_add_mul_tdiv k n
  refine ⟨?_, Int.tmod_lt_of_pos k (by omega), Int.lt_tmod_of_pos k (by omega)⟩
  have h2 : (k.tmod n + (n : Int) * k.tdiv n) % (n : Int) = k.tmod n % (n : Int) := Int.add_mul_emod_self_left _ _ _
  rw [h1] at h2
  exact h2
theorem tmod_pos (k : Int) (n : Nat) (hn : 0 < n) (h : 0 ≤ k.tmod n) : k.tmod n = k % (n : Int) := by
  have := tmod_all k n hn
  rw [this.1, Int.emod_eq_of_lt h this.2.1]
theorem tmod_neg (k : Int) (n : Nat) (hn : 0 < n) (h : k.tmod n < 0) : k.tmod n + n = k % (n : Int) ∧ 0 ≤ k % (n : Int) ∧ k % (n : Int) < n := by
  have ha := tmod_all k n hn
  have h2 : (k.tmod n + (n : Int)) % (n : Int) = k.tmod n % (n : Int) := Int.add_emod_right _ _
  rw [Int.emod_eq_of_lt (by omega) (by omega)] at h2
  exact ⟨by rw [ha.1, h2], Int.emod_nonneg _ (by omega), Int.emod_lt_of_pos _ (by omega)⟩
theorem wrap64_small (x : Int) (h1 : -9223372036854775808 ≤ x) (h2 : x ≤ 9223372036854775807) : wrap64 x = x := by
  unfold wrap64; omega

set_option maxHeartbeats 400000 in
theorem place_raw (k : Int) (n : Nat) (hn : 0 < n) (hm : n ≤ 140737488355328) (_hk : -9223372036854775808 ≤ k ∧ k ≤ 9223372036854775807) (w : World) :
    Calls Tryd.prog 12 #[.int .i64 k, .int .i64 (n : Int)] w fun e w' => e = .returned (.int .i64 (k % (n : Int))) ∧ w' = w := by
  go_enter Tryd.func12, Tryd.ntmps12
  go_wp2
  · go_ret
    have hr := tmod_neg k n hn (by assumption)
    exact ⟨ret_num (by rw [hr.1]; exact wrap64_small _ (by omega) (by omega)), rfl⟩
  · go_ret
    exact ⟨ret_num (tmod_pos k n hn (by assumption)), rfl⟩

end Go.Proofs.YtehmifdgfgngdabDoor
