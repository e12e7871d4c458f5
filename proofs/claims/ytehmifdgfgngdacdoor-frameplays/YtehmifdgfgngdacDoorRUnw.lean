import Derived.Test.YtehmifdgfgngdacDoorRWrap
import Derived.Test.YtehmifdgfgngdacDoorApp
import Derived.Deep.QuietTactic
import Derived.BigQuiet
namespace Go.Proofs.YtehmifdgfgngdacDoor
open Go.RowKit
set_option maxRecDepth 8000

set_option maxHeartbeats 400000 in
theorem number_raw (b o n c at' x0 x1 : Nat) (w : World) (k0 : w.cell? ⟨b, o + at', none⟩ = some (.int .u8 (x0 : Int))) (k1 : w.cell? ⟨b, o + (at' + 1), none⟩ = some (.int .u8 (x1 : Int))) (hx0 : x0 < 256) (hx1 : x1 < 256) (hn : at' + 1 < n) (hm : n ≤ 140737488355328) :
    Calls Tryd.prog 55 #[.slice (some ⟨b, o, none⟩) n c, .int .i64 (at' : Int)] w fun e w' => e = .returned (.int .i64 ((x0 : Int) + 256 * (x1 : Int))) ∧ Below w.heap.size w w' := by
  have f1 : (at' : Int) < (n : Int) := by omega
  have f2 : ((at' + 1 : Nat) : Int) < (n : Int) := by omega
  have q1 : IntKind.i64.wrap ((at' : Int) + 1) = ((at' + 1 : Nat) : Int) := by rw [IntKind.wrap_i64]; omega
  have q2 : IntKind.i64.wrap (256 * (x1 : Int)) = 256 * (x1 : Int) := by rw [IntKind.wrap_i64]; omega
  have q3 : IntKind.i64.wrap ((x0 : Int) + 256 * (x1 : Int)) = (x0 : Int) + 256 * (x1 : Int) := by rw [IntKind.wrap_i64]; omega
  have q4 : IntKind.i64.wrap (x0 : Int) = (x0 : Int) := by rw [IntKind.wrap_i64]; omega
  have q5 : IntKind.i64.wrap (x1 : Int) = (x1 : Int) := by rw [IntKind.wrap_i64]; omega
  obtain ⟨k, hk⟩ : ∃ k, k = at' + 1 := ⟨_, rfl⟩
  rw [← hk] at k1 f2 q1
  clear hk
  go_enter Tryd.func55, Tryd.ntmps55
  go_wp2_with fail
  go_quiet (fail)
  go_wp2
  go_ret
  exact ⟨rfl, below_drewN (Below.refl _ _) _⟩

theorem number_any (p : Option Addr) (n c at' : Nat) (zs : List Int) (w : World) (hn : zs.length = n) (hB : Bytes w p zs) (h : at' + 1 < n) (hm : n ≤ 140737488355328) :
    Calls Tryd.prog 55 #[.slice p n c, .int .i64 (at' : Int)] w fun e w' => e = .returned (.int .i64 (zs.getD at' 0 + 256 * zs.getD (at' + 1) 0)) ∧ Below w.heap.size w w' := by
  subst hn
  obtain ⟨b, o, rfl, _, hc⟩ := hB.at_ (by omega)
  have c0 := hc at' (by omega)
  have c1 := hc (at' + 1) (by omega)
  have b0 := byte_at hB.byte at'
  have b1 := byte_at hB.byte (at' + 1)
  generalize zs.getD at' 0 = y0 at *
  generalize zs.getD (at' + 1) 0 = y1 at *
  obtain ⟨x0, rfl⟩ := Int.eq_ofNat_of_zero_le b0.1
  obtain ⟨x1, rfl⟩ := Int.eq_ofNat_of_zero_le b1.1
  exact number_raw b o zs.length c at' x0 x1 w c0 c1 (by omega) (by omega) h hm

theorem hd_iff {zs : List Int} (hb : ∀ z ∈ zs, 0 ≤ z ∧ z < 256) (h4 : 4 ≤ zs.length) (m : Nat) (hm : (m : Int) = zs.getD 0 0 + 256 * zs.getD 1 0) : zs.take 4 = hd m ↔ (m : Int) + (zs.getD 2 0 + 256 * zs.getD 3 0) = 65535 := by
  have b0 := byte_at hb 0
  have b1 := byte_at hb 1
  have b2 := byte_at hb 2
  have b3 := byte_at hb 3
  rw [take4 zs h4]
  simp only [hd, List.cons.injEq, and_true]
  omega

set_option maxHeartbeats 400000 in
theorem runw_short (p : Option Addr) (n c : Nat) (w : World) (hn : n < 4) :
    Calls Tryd.prog 25 #[.slice p n c] w fun e w' => e = .returned (.tuple #[.slice none 0 0, .int .i64 0, .int .i64 11]) ∧ Below w.heap.size w w' := by
  go_enter Tryd.func25, Tryd.ntmps25
  go_wp2_with fail
  go_ret3
  exact ⟨rfl, Below.refl _ _⟩

set_option maxHeartbeats 1000000 in
theorem runw_bad (p : Option Addr) (n c : Nat) (zs : List Int) (w : World) (hn : zs.length = n) (hB : Bytes w p zs) (h4 : 4 ≤ n) (hl : n ≤ 140737488355328) (hh : ∀ m, m ≤ 32768 → zs.take 4 ≠ hd m) :
    Calls Tryd.prog 25 #[.slice p n c] w fun e w' => e = .returned (.tuple #[.slice none 0 0, .int .i64 0, .int .i64 12]) ∧ Below w.heap.size w w' := by
  have b0 := byte_at hB.byte 0
  have b1 := byte_at hB.byte 1
  have b2 := byte_at hB.byte 2
  have b3 := byte_at hB.byte 3
  obtain ⟨m, hm⟩ := Int.eq_ofNat_of_zero_le (show 0 ≤ zs.getD 0 0 + 256 * zs.getD 1 0 by omega)
  obtain ⟨r, hr⟩ := Int.eq_ofNat_of_zero_le (show 0 ≤ zs.getD 2 0 + 256 * zs.getD 3 0 by omega)
  have H0 : Hid (Calls Tryd.prog 55 #[.slice p n c, .int .i64 0] w fun e w' => e = .returned (.int .i64 (m : Int)) ∧ Below w.heap.size w w') := by
    have h := number_any p n c 0 zs w hn hB (by omega) hl
    rw [hm] at h; exact h
  have H2 : Hid (∀ W, Below w.heap.size w W → Calls Tryd.prog 55 #[.slice p n c, .int .i64 2] W fun e w' => e = .returned (.int .i64 (r : Int)) ∧ Below W.heap.size W w') := by
    intro W hW
    have h := number_any p n c 2 zs W hn (hB.later hW) (by omega) hl
    rw [hr] at h; exact h
  have hml : m ≤ 65535 := by omega
  have hrl : r ≤ 65535 := by omega
  have hiff := hd_iff hB.byte (by omega) m hm.symm
  rw [hr] at hiff
  have HD : Hid ((m : Int) + (r : Int) ≠ 65535 ∨ 32768 < m) := by
    by_cases hg : 32768 < m
    · exact .inr hg
    · exact .inl (fun he => hh m (by omega) (hiff.2 he))
  clear hB hh hm hr b0 b1 b2 b3 hiff hn
  by_cases hs : (m : Int) + (r : Int) = 65535
  · have hg : 32768 < (m : Int) := by have := HD.out; omega
    have hs2 : ((m : Int) + (r : Int) != 65535) = false := by simp [hs]
    clear hs HD
    go_enter Tryd.func25, Tryd.ntmps25
    go_wp2_with (first | (go_at_call_of 55 (Value.int IntKind.i64 0); refine H0.out.mono ?_; rintro e w1 ⟨rfl, hb1⟩) | (go_at_call 55; refine (H2.out w1 hb1).mono ?_; rintro e w2 ⟨rfl, hb2⟩))
    go_ret3
    exact ⟨rfl, hb1.trans (hb2.mono hb1.size)⟩
  · have hs2 : ((m : Int) + (r : Int) != 65535) = true := by rw [bne_iff_ne]; exact hs
    clear hs HD
    go_enter Tryd.func25, Tryd.ntmps25
    go_wp2_with (first | (go_at_call_of 55 (Value.int IntKind.i64 0); refine H0.out.mono ?_; rintro e w1 ⟨rfl, hb1⟩) | (go_at_call 55; refine (H2.out w1 hb1).mono ?_; rintro e w2 ⟨rfl, hb2⟩))
    go_ret3
    exact ⟨rfl, hb1.trans (hb2.mono hb1.size)⟩
end Go.Proofs.YtehmifdgfgngdacDoor
