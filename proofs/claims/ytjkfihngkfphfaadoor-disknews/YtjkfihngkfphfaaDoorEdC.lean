import Derived.Test.YtjkfihngkfphfaaDoorEcF
namespace Go.Proofs.YtjkfihngkfphfaaDoor
open Go.RowKit
set_option maxRecDepth 8000
theorem num_any (k : Int) (w : World) : Calls Tryd.prog 12 #[.int .i64 k] w fun e w' => e = .returned (.int .i64 k) ∧ w' = w := by
  go_enter Tryd.func12, Tryd.ntmps12
  go_wp2
  exact bodyPost_ret (v := .int .i64 k) (by simp [results, Tryd.results12, go_sem]) rfl ⟨rfl, rfl⟩
def LfQ (A : LT FA) (w : World) (e : Ending) (w' : World) : Prop := ∃ q : Bool, e = .returned (.bool q) ∧ w' = w ∧ (q = true → A.n ≤ 500 ∧ ∀ j, j < A.n → (A.item j).n ≤ 524288)
set_option maxHeartbeats 4000000 in
/-- what the law's fits says of the files -/
theorem lfits_any (A : LT FA) (w : World) (S : Nat → Prop) (hA : LT.In elF w S A) :
    Calls Tryd.prog 4 #[.slice A.p A.n A.c, .slice none 0 0] w fun e w' => LfQ A w e w' := by
  have HA := hid hA
  have hnn := hA.nn
  clear hA
  go_enter Tryd.func4, Tryd.ntmps4
  go_wp2_with fail
  go_loopw [5, 6] (fun v x wr => ∃ (i : Nat) (s : Int), i ≤ A.n ∧ x = .int .i64 (i : Int) ∧ v = .int .i64 s ∧ wr = w ∧ (A.n ≤ 500 → 0 ≤ s ∧ s ≤ (i : Int) * 140737488355328 ∧ ∀ j, j < i → ((A.item j).n : Int) ≤ s)) (fun _ x _ => A.n - (intOf x).toNat)
  case atStart => exact ⟨0, 0, Nat.zero_le _, rfl, rfl, rfl, fun _ => ⟨by omega, by omega, fun j hj => absurd hj (by omega)⟩⟩
  case round =>
    obtain ⟨i, s, hi, rfl, rfl, rfl, hs⟩ := hrel
    have HS := hid hs
    clear hs
    by_cases hlt : i < A.n
    · have hlt' : (i : Int) < (A.n : Int) := by omega
      obtain ⟨bb, o, hp, _, hbb, hat⟩ := HA.out.at_ (by omega)
      rw [hp]
      have a1 : wr.cell? ⟨bb, o + i * 3 + 1, none⟩ = some (.slice (A.item i).p (A.item i).n (A.item i).c) := hat i hlt 1 _ rfl
      have HIn := hid (HA.out.each i hlt)
      clear hat
      go_wp2
      go_roundw
      case rel =>
        refine ⟨i + 1, _, by omega, by go_num, rfl, trivial, fun h5 => ?_⟩
        obtain ⟨h1, h2, h3⟩ := HS.out h5
        have h4 := HIn.out.2.1.nn
        have e : wrap64 (s + ((A.item i).n : Int)) = s + ((A.item i).n : Int) := by rw [wrap64]; omega
        rw [e]
        refine ⟨by omega, by push_cast; omega, fun j hj => ?_⟩
        by_cases hji : j < i
        · have := h3 j hji; omega
        · obtain rfl : j = i := by omega
          omega
      case measure => simp [intOf]; omega
    · have hlt' : ¬ (i : Int) < (A.n : Int) := by omega
      obtain rfl : i = A.n := by omega
      go_wp2_with fail
      go_loopw [5, 7] (fun v x wr2 => v = .int .i64 s ∧ x = .int .i64 0 ∧ wr2 = wr) (fun _ _ _ => 0)
      case atStart => exact ⟨rfl, rfl, rfl⟩
      case round =>
        obtain ⟨rfl, rfl, rfl⟩ := hrel
        by_cases h5 : A.n ≤ 500
        · have h5' : (A.n : Int) ≤ 500 := by omega
          by_cases h6 : s ≤ 524288
          · go_wp2
            exact bodyPost_ret (v := .bool true) (by simp [results, Tryd.results4, go_sem]) rfl ⟨true, rfl, rfl, fun _ => ⟨h5, fun j hj => by have := (HS.out h5).2.2 j hj; omega⟩⟩
          · go_wp2
            exact bodyPost_ret (v := .bool false) (by simp [results, Tryd.results4, go_sem]) rfl ⟨false, rfl, rfl, fun h => by cases h⟩
        · have h5' : ¬ (A.n : Int) ≤ 500 := by omega
          go_wp2
          exact bodyPost_ret (v := .bool false) (by simp [results, Tryd.results4, go_sem]) rfl ⟨false, rfl, rfl, fun h => by cases h⟩
end Go.Proofs.YtjkfihngkfphfaaDoor
