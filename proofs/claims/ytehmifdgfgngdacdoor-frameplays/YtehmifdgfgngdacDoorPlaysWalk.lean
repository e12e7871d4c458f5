import Derived.Test.YtehmifdgfgngdacDoorOpenS
import Derived.Test.YtehmifdgfgngdacDoorSame
namespace Go.Proofs.YtehmifdgfgngdacDoor
open Go.RowKit
set_option maxRecDepth 8000

set_option maxHeartbeats 400000 in
theorem frame_plays_none (p : Option Addr) (c : Nat) (w : World) :
    Calls Tryd.prog 3 #[.slice p 0 c] w fun e w' => e = .returned (.bool true) ∧ Below w.heap.size w w' := by
  go_enter Tryd.func3, Tryd.ntmps3
  go_wp2_with fail
  refine wp_loop_rounds 1 ?_
  rw [rounds_succ]
  go_wp2_with fail
  go_ret
  exact ⟨rfl, Below.refl _ _⟩

set_option maxHeartbeats 2000000 in
theorem frame_plays_pos (b o n c : Nat) (w : World) (hn : n ≤ 140737488355328) (hlb : b < w.heap.size)
    (HO : Hid (∀ i, i < n → ∃ k s a m q z, OpAt w b o i k s a m q z))
    (HP : Hid (∀ W k s a m q z i, i < n → Below w.heap.size w W → OpAt w b o i k s a m q z → m ≤ 131072 → Calls Tryd.prog 5 #[.agg #[.int .i64 k, .int .u32 (s : Int), .slice a m q]] W fun e w' => e = .returned (.bool true) ∧ Below W.heap.size W w')) :
    Calls Tryd.prog 3 #[.slice (some ⟨b, o, none⟩) n c] w fun e w' => e = .returned (.bool true) ∧ Below w.heap.size w w' := by
  go_enter Tryd.func3, Tryd.ntmps3
  go_wp2_with fail
  go_loopw [3, 4] (fun rr ii wr => ∃ (k R : Nat), k ≤ n ∧ R ≤ 131072 ∧ rr = .int .i64 (R : Int) ∧ ii = .int .i64 (k : Int) ∧ Below w.heap.size w wr) (fun _ ii _ => n - (intOf ii).toNat)
  case atStart => exact ⟨0, 0, Nat.zero_le _, by omega, rfl, rfl, Below.refl _ _⟩
  case round =>
    obtain ⟨k, R, hk, hR, rfl, rfl, hbel⟩ := hrel
    by_cases hlt : k < n
    · have hlt' : (k : Int) < (n : Int) := by omega
      obtain ⟨kk, s, a, m, q, z, hop⟩ := HO.out k hlt
      have c0 := (hbel.cell (p := ⟨b, o + k * 3, none⟩) hlb).trans hop.c0
      have c1 := (hbel.cell (p := ⟨b, o + k * 3 + 1, none⟩) hlb).trans hop.c1
      have c2 := (hbel.cell (p := ⟨b, o + k * 3 + 2, none⟩) hlb).trans hop.c2
      have hcap : m ≤ 140737488355328 := by have := hop.le; have := hop.cap; omega
      by_cases hm : 131072 < R + m
      · have hm' : (131072 : Int) < (R : Int) + (m : Int) := by omega
        go_wp2_with fail
        go_ret
        exact ⟨rfl, hbel⟩
      · have hm' : ¬ (131072 : Int) < (R : Int) + (m : Int) := by omega
        have HC : Hid (Calls Tryd.prog 5 #[.agg #[.int .i64 kk, .int .u32 (s : Int), .slice a m q]] wr fun e w' => e = .returned (.bool true) ∧ Below wr.heap.size wr w') := HP.out wr kk s a m q z k hlt hbel hop (by omega)
        clear hop
        go_wp2_with fail
        refine HC.out.mono ?_
        rintro e w2 ⟨rfl, hb2⟩
        have hb2w := hbel.trans (hb2.mono hbel.size)
        clear HC hb2 c0 c1 c2
        go_wp2_with fail
        go_roundw
        case rel => exact ⟨k + 1, R + m, by omega, by omega, by go_num, by go_num, hb2w⟩
        case measure => simp [intOf]; omega
    · obtain rfl : k = n := by omega
      go_wp2_with fail
      go_ret
      exact ⟨rfl, hbel⟩
end Go.Proofs.YtehmifdgfgngdacDoor
