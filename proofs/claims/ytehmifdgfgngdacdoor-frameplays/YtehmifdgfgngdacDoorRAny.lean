import Derived.Test.YtehmifdgfgngdacDoorRUnwCore
namespace Go.Proofs.YtehmifdgfgngdacDoor
open Go.RowKit
set_option maxRecDepth 8000

theorem runwrap_any (p : Option Addr) (n c : Nat) (zs : List Int) (w : World) (hn : zs.length = n) (hB : Bytes w p zs) (hcm : n ≤ 140737488355328) :
    Calls Tryd.prog 25 #[.slice p n c] w fun e w' => ∃ a c', e = .returned (.tuple #[.slice a (unw zs).2.length c', .int .i64 (unwSize zs : Nat), .int .i64 ((unw zs).1 : Nat)]) ∧ OwnB w.heap.size w' a c' (unw zs).2 ∧ Below w.heap.size w w' := by
  have err : ∀ (k : Nat), unw zs = (k, []) → k ≠ 0 → (Calls Tryd.prog 25 #[.slice p n c] w fun e w' => e = .returned (.tuple #[.slice none 0 0, .int .i64 0, .int .i64 (k : Nat)]) ∧ Below w.heap.size w w') →
      Calls Tryd.prog 25 #[.slice p n c] w fun e w' => ∃ a c', e = .returned (.tuple #[.slice a (unw zs).2.length c', .int .i64 (unwSize zs : Nat), .int .i64 ((unw zs).1 : Nat)]) ∧ OwnB w.heap.size w' a c' (unw zs).2 ∧ Below w.heap.size w w' := by
    intro k hk h0 h
    refine h.mono ?_
    rintro e w' ⟨rfl, hb⟩
    have hs : unwSize zs = 0 := by unfold unwSize; rw [hk]; exact if_neg h0
    rw [hs, hk]
    exact ⟨none, 0, rfl, own_none _ _, hb⟩
  rcases unw_cases zs with h1 | ⟨h1, h2⟩ | ⟨m, h1, h2, h3, h4⟩ | ⟨m, h1, h2, h3, h4⟩ | ⟨m, h1, h2, h3, h4⟩
  · exact err 11 (unw_short h1) (by omega) (runw_short p n c w (by omega))
  · exact err 12 (unw_bad h1 h2) (by omega) (runw_bad p n c zs w hn hB (by omega) (by omega) h2)
  · exact err 11 (unw_cut h1 h2 h3 h4) (by omega) (runw_cut p n c m zs w hn hB (by omega) (by omega) h2 h3)
  · obtain ⟨b, o, rfl, _, _⟩ := hB.at_ (by omega)
    exact runw_core b o n c m zs w hn hB hcm (by omega) h1 h2
  · obtain ⟨b, o, rfl, _, _⟩ := hB.at_ (by omega)
    exact runw_core b o n c m zs w hn hB hcm (by omega) h1 h2

set_option maxHeartbeats 400000 in
theorem rexact_core (p : Option Addr) (n c s k l : Nat) (zs : List Int) (w : World) (hk : k ≤ 13)
    (H : Hid (Calls Tryd.prog 25 #[.slice p n c] w fun e w' => ∃ a c', e = .returned (.tuple #[.slice a l c', .int .i64 (s : Nat), .int .i64 (k : Nat)]) ∧ OwnB w.heap.size w' a c' zs ∧ Below w.heap.size w w')) :
    Calls Tryd.prog 27 #[.slice p n c] w fun e w' => ((k ≠ 0 ∧ e = .returned (.tuple #[.slice none 0 0, .int .i64 (k : Nat)])) ∨ (k = 0 ∧ s < n ∧ e = .returned (.tuple #[.slice none 0 0, .int .i64 14])) ∨
      (k = 0 ∧ n ≤ s ∧ ∃ a c', e = .returned (.tuple #[.slice a l c', .int .i64 0]) ∧ OwnB w.heap.size w' a c' zs)) ∧ Below w.heap.size w w' := by
  by_cases h0 : k = 0
  · subst h0
    by_cases hl : s < n
    · go_enter Tryd.func27, Tryd.ntmps27
      go_wp2_with (go_at_call 25; refine H.out.mono ?_; rintro e w1 ⟨a, c', rfl, hO, hb⟩)
      go_ret2
      exact ⟨.inr (.inl ⟨trivial, hl, rfl⟩), hb⟩
    · go_enter Tryd.func27, Tryd.ntmps27
      go_wp2_with (go_at_call 25; refine H.out.mono ?_; rintro e w1 ⟨a, c', rfl, hO, hb⟩)
      go_ret2
      exact ⟨.inr (.inr ⟨trivial, by omega, _, _, rfl, hO⟩), hb⟩
  · have hne : ((k : Int) != 0) = true := by rw [bne_iff_ne]; omega
    go_enter Tryd.func27, Tryd.ntmps27
    go_wp2_with (go_at_call 25; refine H.out.mono ?_; rintro e w1 ⟨a, c', rfl, hO, hb⟩)
    go_ret2
    exact ⟨.inl ⟨h0, rfl⟩, hb⟩

theorem rexact_any (p : Option Addr) (n c : Nat) (zs : List Int) (w : World) (hn : zs.length = n) (hB : Bytes w p zs) (hcm : n ≤ 140737488355328) :
    Calls Tryd.prog 27 #[.slice p n c] w fun e w' => ∃ a c', e = .returned (.tuple #[.slice a (exa zs).2.length c', .int .i64 ((exa zs).1 : Nat)]) ∧ OwnB w.heap.size w' a c' (exa zs).2 ∧ Below w.heap.size w w' := by
  refine (rexact_core p n c (unwSize zs) (unw zs).1 (unw zs).2.length (unw zs).2 w (unw_num zs) (runwrap_any p n c zs w hn hB hcm)).mono ?_
  rintro e w' ⟨⟨hk, rfl⟩ | ⟨hk, hl, rfl⟩ | ⟨hk, hl, a, c', rfl, hO⟩, hb⟩
  · have he : exa zs = ((unw zs).1, []) := by unfold exa; rw [if_neg hk]
    rw [he]
    exact ⟨none, 0, rfl, own_none _ _, hb⟩
  · have hs : unwSize zs = (unw zs).2.length + 8 := by unfold unwSize; rw [if_pos hk]
    have he : exa zs = (14, []) := by unfold exa; rw [if_pos hk, if_pos (by omega)]
    rw [he]
    exact ⟨none, 0, rfl, own_none _ _, hb⟩
  · have hs : unwSize zs = (unw zs).2.length + 8 := by unfold unwSize; rw [if_pos hk]
    have he : exa zs = (0, (unw zs).2) := by unfold exa; rw [if_pos hk, if_neg (by omega)]
    rw [he]
    exact ⟨a, c', rfl, hO, hb⟩
end Go.Proofs.YtehmifdgfgngdacDoor
