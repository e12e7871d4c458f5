import Derived.Test.YtehmifdgfgngdaaDoorLinWalk
namespace Go.Proofs.YtehmifdgfgngdaaDoor
open Go.RowKit

theorem sum_none (p : Option Addr) (c : Nat) (w : World) : Calls Tryd.prog 9 #[.slice p 0 c] w fun e w' => e = .returned (.int .u32 0) ∧ w' = w := by
  have H : Hid (Calls Tryd.prog 12 #[.int .u32 0, .slice p 0 c] w fun e w' => e = .returned (.int .u32 0) ∧ w' = w) := add_none 0 (by omega) p c w
  go_enter Tryd.func9, Tryd.ntmps9
  go_wp2_with (go_at_call 12; refine H.out.mono ?_; rintro e w' ⟨rfl, rfl⟩)
  go_ret
  exact ⟨rfl, rfl⟩

set_option maxHeartbeats 1000000 in
theorem lin_none (pa pb : Option Addr) (na ca nb cb : Nat) (w : World) (hT : Tab w) (hl : na ≤ 131072) (h0 : na = 0 ∨ nb = 0) (hca : na ≤ ca) (hpa : pa = none → na = 0 ∧ ca = 0) :
    Calls Tryd.prog 3 #[.slice pa na ca, .slice pb nb cb] w fun e w' => e = .returned (.bool true) ∧ Below w.heap.size w w' := by
  have H0 : Hid (Calls Tryd.prog 9 #[.slice (some ⟨w.heap.size, 0, none⟩) 1 1] (w.alloc (.cells #[.int .u8 0] 5)) fun e w' => e = .returned (.int .u32 3523407757) ∧ w' = w.alloc (.cells #[.int .u8 0] 5)) := by
    have h := sum_any (some ⟨w.heap.size, 0, none⟩) 1 1 [0] _ rfl (one_zero w) (by omega) (hT.later ((Below.refl _ _).alloc (Nat.le_refl _) _))
    rw [Crc.sum_zero] at h
    exact h
  have hbA : Below w.heap.size w (w.alloc (.cells #[.int .u8 0] 5)) := (Below.refl _ _).alloc (Nat.le_refl _) _
  have hx0 : bits BinOp.xor IntKind.u32 0 0 = 0 := by decide
  clear hT
  have fin : ∀ (pa : Option Addr) (na ca nb : Nat), (na = 0 ∨ (0 < na ∧ nb = 0)) → na ≤ 131072 → na ≤ ca → (pa = none → na = 0 ∧ ca = 0) → Calls Tryd.prog 3 #[.slice pa na ca, .slice pb nb cb] w fun e w' => e = .returned (.bool true) ∧ Below w.heap.size w w' := by
    clear h0 hl hca hpa
    intro pa na ca nb h0 hl hca hpa
    have hcc : (0 : Int) ≤ (ca : Int) := by omega
    cases pa with
    | none =>
      obtain ⟨rfl, rfl⟩ := hpa rfl
      go_enter Tryd.func3, Tryd.ntmps3
      go_wp2_with (go_at_call 9; refine H0.out.mono ?_; rintro e w' ⟨rfl, rfl⟩)
      generalize hW0 : w.alloc (.cells #[.int .u8 0] 5) = w0 at *
      clear hW0
      refine wp_loop_rounds 1 ?_
      rw [rounds_succ]
      go_wp2_with fail
      go_quiet ((go_at_call 9; exact Calls.quiet_of_same (sum_none _ _ _)))
      go_wp2
      go_ret
      exact ⟨rfl, below_drewN hbA _⟩
    | some a =>
      rcases h0 with rfl | ⟨hp, rfl⟩
      · go_enter Tryd.func3, Tryd.ntmps3
        go_wp2_with (go_at_call 9; refine H0.out.mono ?_; rintro e w' ⟨rfl, rfl⟩)
        generalize hW0 : w.alloc (.cells #[.int .u8 0] 5) = w0 at *
        clear hW0
        refine wp_loop_rounds 1 ?_
        rw [rounds_succ]
        go_wp2_with fail
        go_quiet ((go_at_call 9; exact Calls.quiet_of_same (sum_none _ _ _)))
        go_wp2
        go_ret
        exact ⟨rfl, below_drewN hbA _⟩
      · go_enter Tryd.func3, Tryd.ntmps3
        go_wp2_with (go_at_call 9; refine H0.out.mono ?_; rintro e w' ⟨rfl, rfl⟩)
        generalize hW0 : w.alloc (.cells #[.int .u8 0] 5) = w0 at *
        clear hW0
        refine wp_loop_rounds 1 ?_
        rw [rounds_succ]
        go_wp2_with fail
        go_quiet ((go_at_call 9; exact Calls.quiet_of_same (sum_none _ _ _)))
        go_wp2
        go_ret
        exact ⟨rfl, below_drewN hbA _⟩
  exact fin pa na ca nb (by omega) hl hca hpa
end Go.Proofs.YtehmifdgfgngdaaDoor
