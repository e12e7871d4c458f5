import Derived.Test.YtdpfgflofjiheaaPack5
namespace Go.Proofs.Ytdpfgflofjiheaa
open Go.RowKit
set_option maxRecDepth 8000
set_option maxHeartbeats 8000000 in
theorem canBe_0 (k t p i n : Int) (w : World) (hn : 1 ≤ n) (hk : k < 1 ∨ 11 < k) : Calls Try.prog 42 #[.agg #[.int .i64 k, .int .i64 t, .int .i64 p, .int .i64 i], .int .i64 n] w fun e w' => CanQ n ⟨k, t, p, i⟩ w e w' := by
  have hk1 : (k == 1) = false := by simp; omega
  have hk2 : (k == 2) = false := by simp; omega
  have hk3 : (k == 3) = false := by simp; omega
  have hk4 : (k == 4) = false := by simp; omega
  have hk5 : (k == 5) = false := by simp; omega
  have hk6 : (k == 6) = false := by simp; omega
  have hk7 : (k == 7) = false := by simp; omega
  have hk8 : (k == 8) = false := by simp; omega
  have hk9 : (k == 9) = false := by simp; omega
  have hk10 : (k == 10) = false := by simp; omega
  have hk11 : (k == 11) = false := by simp; omega
  have HK := hid hk
  clear hk
  have H := hid hn
  clear hn
  go_enter Try.func42, Try.ntmps42
  go_wp2
  all_goals
    go_ret
    refine ⟨_, rfl, ?_, below1 _ _⟩
    have hn := H.out
    have hk := HK.out
    unfold Can
    try dsimp only
    first | omega | (simp; omega) | simp
end Go.Proofs.Ytdpfgflofjiheaa
