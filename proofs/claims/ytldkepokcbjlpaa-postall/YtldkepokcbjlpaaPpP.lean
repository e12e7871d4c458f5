import Derived.Test.YtldkepokcbjlpaaPpO
namespace Go.Proofs.Ytldkepokcbjlpaa
open Go.RowKit Go.Conc
set_option maxRecDepth 60000
def fairT (tasks : Int) : Int := if tasks < 1 ∨ 12 < tasks then 2 else tasks
def fairF (first : Int) : Int := if first < 1 ∨ 9999 < first then 1 else first
set_option maxHeartbeats 2000000 in
theorem fair_any (tasks first : Int) (w : World) : Calls Try.prog 8 #[.int .i64 tasks, .int .i64 first] w fun e w' => e = .returned (.tuple #[.int .i64 (fairT tasks), .int .i64 (fairF first)]) ∧ w' = w := by
  by_cases h1 : tasks < 1
  · have HT : Hid (fairT tasks = 2) := if_pos (.inl h1)
    by_cases h3 : first < 1
    · have HF : Hid (fairF first = 1) := if_pos (.inl h3)
      go_enter Try.func8, Try.ntmps8
      go_wp2
      refine bodyPost_ret (v := .tuple #[.int .i64 (2), .int .i64 (1)]) (by simp [results, Try.results8, go_sem]) rfl ?_
      exact ⟨by rw [HT.out, HF.out], rfl⟩
    by_cases h4 : 9999 < first
    · have HF : Hid (fairF first = 1) := if_pos (.inr h4)
      go_enter Try.func8, Try.ntmps8
      go_wp2
      refine bodyPost_ret (v := .tuple #[.int .i64 (2), .int .i64 (1)]) (by simp [results, Try.results8, go_sem]) rfl ?_
      exact ⟨by rw [HT.out, HF.out], rfl⟩
    have HF : Hid (fairF first = first) := if_neg (by omega)
    go_enter Try.func8, Try.ntmps8
    go_wp2
    refine bodyPost_ret (v := .tuple #[.int .i64 (2), .int .i64 (first)]) (by simp [results, Try.results8, go_sem]) rfl ?_
    exact ⟨by rw [HT.out, HF.out], rfl⟩
  by_cases h2 : 12 < tasks
  · have HT : Hid (fairT tasks = 2) := if_pos (.inr h2)
    by_cases h3 : first < 1
    · have HF : Hid (fairF first = 1) := if_pos (.inl h3)
      go_enter Try.func8, Try.ntmps8
      go_wp2
      refine bodyPost_ret (v := .tuple #[.int .i64 (2), .int .i64 (1)]) (by simp [results, Try.results8, go_sem]) rfl ?_
      exact ⟨by rw [HT.out, HF.out], rfl⟩
    by_cases h4 : 9999 < first
    · have HF : Hid (fairF first = 1) := if_pos (.inr h4)
      go_enter Try.func8, Try.ntmps8
      go_wp2
      refine bodyPost_ret (v := .tuple #[.int .i64 (2), .int .i64 (1)]) (by simp [results, Try.results8, go_sem]) rfl ?_
      exact ⟨by rw [HT.out, HF.out], rfl⟩
    have HF : Hid (fairF first = first) := if_neg (by omega)
    go_enter Try.func8, Try.ntmps8
    go_wp2
    refine bodyPost_ret (v := .tuple #[.int .i64 (2), .int .i64 (first)]) (by simp [results, Try.results8, go_sem]) rfl ?_
    exact ⟨by rw [HT.out, HF.out], rfl⟩
  have HT : Hid (fairT tasks = tasks) := if_neg (by omega)
  by_cases h3 : first < 1
  · have HF : Hid (fairF first = 1) := if_pos (.inl h3)
    go_enter Try.func8, Try.ntmps8
    go_wp2
    refine bodyPost_ret (v := .tuple #[.int .i64 (tasks), .int .i64 (1)]) (by simp [results, Try.results8, go_sem]) rfl ?_
    exact ⟨by rw [HT.out, HF.out], rfl⟩
  by_cases h4 : 9999 < first
  · have HF : Hid (fairF first = 1) := if_pos (.inr h4)
    go_enter Try.func8, Try.ntmps8
    go_wp2
    refine bodyPost_ret (v := .tuple #[.int .i64 (tasks), .int .i64 (1)]) (by simp [results, Try.results8, go_sem]) rfl ?_
    exact ⟨by rw [HT.out, HF.out], rfl⟩
  have HF : Hid (fairF first = first) := if_neg (by omega)
  go_enter Try.func8, Try.ntmps8
  go_wp2
  refine bodyPost_ret (v := .tuple #[.int .i64 (tasks), .int .i64 (first)]) (by simp [results, Try.results8, go_sem]) rfl ?_
  exact ⟨by rw [HT.out, HF.out], rfl⟩
def mayB (a b : Int) : Bool := decide (a = b ∨ (a = 0 ∧ b = 1) ∨ (a = 1 ∧ (b = 2 ∨ b = 4)) ∨ (a = 2 ∧ (b = 3 ∨ b = 4)))
set_option maxHeartbeats 4000000 in
theorem may_any (i j : Int) (hi : 0 ≤ i ∧ i ≤ 4) (hj : 0 ≤ j ∧ j ≤ 4) (w : World) : Calls Try.prog 36 #[.int .i64 i, .int .i64 j] w fun e w' => e = .returned (.bool (mayB i j)) ∧ w' = w := by
  rcases (by omega : i = 0 ∨ i = 1 ∨ i = 2 ∨ i = 3 ∨ i = 4) with rfl | rfl | rfl | rfl | rfl <;> rcases (by omega : j = 0 ∨ j = 1 ∨ j = 2 ∨ j = 3 ∨ j = 4) with rfl | rfl | rfl | rfl | rfl
  · go_enter Try.func36, Try.ntmps36
    go_wp2
    exact bodyPost_ret (v := .bool true) (by simp [results, Try.results36, go_sem]) rfl ⟨rfl, rfl⟩
  · go_enter Try.func36, Try.ntmps36
    go_wp2
    exact bodyPost_ret (v := .bool true) (by simp [results, Try.results36, go_sem]) rfl ⟨rfl, rfl⟩
  · go_enter Try.func36, Try.ntmps36
    go_wp2
    exact bodyPost_ret (v := .bool false) (by simp [results, Try.results36, go_sem]) rfl ⟨rfl, rfl⟩
  · go_enter Try.func36, Try.ntmps36
    go_wp2
    exact bodyPost_ret (v := .bool false) (by simp [results, Try.results36, go_sem]) rfl ⟨rfl, rfl⟩
  · go_enter Try.func36, Try.ntmps36
    go_wp2
    exact bodyPost_ret (v := .bool false) (by simp [results, Try.results36, go_sem]) rfl ⟨rfl, rfl⟩
  · go_enter Try.func36, Try.ntmps36
    go_wp2
    exact bodyPost_ret (v := .bool false) (by simp [results, Try.results36, go_sem]) rfl ⟨rfl, rfl⟩
  · go_enter Try.func36, Try.ntmps36
    go_wp2
    exact bodyPost_ret (v := .bool true) (by simp [results, Try.results36, go_sem]) rfl ⟨rfl, rfl⟩
  · go_enter Try.func36, Try.ntmps36
    go_wp2
    exact bodyPost_ret (v := .bool true) (by simp [results, Try.results36, go_sem]) rfl ⟨rfl, rfl⟩
  · go_enter Try.func36, Try.ntmps36
    go_wp2
    exact bodyPost_ret (v := .bool false) (by simp [results, Try.results36, go_sem]) rfl ⟨rfl, rfl⟩
  · go_enter Try.func36, Try.ntmps36
    go_wp2
    exact bodyPost_ret (v := .bool true) (by simp [results, Try.results36, go_sem]) rfl ⟨rfl, rfl⟩
  · go_enter Try.func36, Try.ntmps36
    go_wp2
    exact bodyPost_ret (v := .bool false) (by simp [results, Try.results36, go_sem]) rfl ⟨rfl, rfl⟩
  · go_enter Try.func36, Try.ntmps36
    go_wp2
    exact bodyPost_ret (v := .bool false) (by simp [results, Try.results36, go_sem]) rfl ⟨rfl, rfl⟩
  · go_enter Try.func36, Try.ntmps36
    go_wp2
    exact bodyPost_ret (v := .bool true) (by simp [results, Try.results36, go_sem]) rfl ⟨rfl, rfl⟩
  · go_enter Try.func36, Try.ntmps36
    go_wp2
    exact bodyPost_ret (v := .bool true) (by simp [results, Try.results36, go_sem]) rfl ⟨rfl, rfl⟩
  · go_enter Try.func36, Try.ntmps36
    go_wp2
    exact bodyPost_ret (v := .bool true) (by simp [results, Try.results36, go_sem]) rfl ⟨rfl, rfl⟩
  · go_enter Try.func36, Try.ntmps36
    go_wp2
    exact bodyPost_ret (v := .bool false) (by simp [results, Try.results36, go_sem]) rfl ⟨rfl, rfl⟩
  · go_enter Try.func36, Try.ntmps36
    go_wp2
    exact bodyPost_ret (v := .bool false) (by simp [results, Try.results36, go_sem]) rfl ⟨rfl, rfl⟩
  · go_enter Try.func36, Try.ntmps36
    go_wp2
    exact bodyPost_ret (v := .bool false) (by simp [results, Try.results36, go_sem]) rfl ⟨rfl, rfl⟩
  · go_enter Try.func36, Try.ntmps36
    go_wp2
    exact bodyPost_ret (v := .bool true) (by simp [results, Try.results36, go_sem]) rfl ⟨rfl, rfl⟩
  · go_enter Try.func36, Try.ntmps36
    go_wp2
    exact bodyPost_ret (v := .bool false) (by simp [results, Try.results36, go_sem]) rfl ⟨rfl, rfl⟩
  · go_enter Try.func36, Try.ntmps36
    go_wp2
    exact bodyPost_ret (v := .bool false) (by simp [results, Try.results36, go_sem]) rfl ⟨rfl, rfl⟩
  · go_enter Try.func36, Try.ntmps36
    go_wp2
    exact bodyPost_ret (v := .bool false) (by simp [results, Try.results36, go_sem]) rfl ⟨rfl, rfl⟩
  · go_enter Try.func36, Try.ntmps36
    go_wp2
    exact bodyPost_ret (v := .bool false) (by simp [results, Try.results36, go_sem]) rfl ⟨rfl, rfl⟩
  · go_enter Try.func36, Try.ntmps36
    go_wp2
    exact bodyPost_ret (v := .bool false) (by simp [results, Try.results36, go_sem]) rfl ⟨rfl, rfl⟩
  · go_enter Try.func36, Try.ntmps36
    go_wp2
    exact bodyPost_ret (v := .bool true) (by simp [results, Try.results36, go_sem]) rfl ⟨rfl, rfl⟩
end Go.Proofs.Ytldkepokcbjlpaa
