import Derived.Test.YtdpfgflofjiheaaPack5
namespace Go.Proofs.Ytdpfgflofjiheaa
open Go.RowKit
set_option maxRecDepth 8000
set_option maxHeartbeats 8000000 in
theorem canBe_4 (k t p i n : Int) (w : World) (hn : 1 ≤ n) (hk : k = 4) : Calls Try.prog 42 #[.agg #[.int .i64 k, .int .i64 t, .int .i64 p, .int .i64 i], .int .i64 n] w fun e w' => CanQ n ⟨k, t, p, i⟩ w e w' := by
  subst hk
  have H := hid hn
  clear hn
  go_enter Try.func42, Try.ntmps42
  go_wp2
  all_goals
    go_ret
    refine ⟨_, rfl, ?_, below1 _ _⟩
    have hn := H.out
    unfold Can
    try dsimp only
    first | omega | (simp; omega) | simp
end Go.Proofs.Ytdpfgflofjiheaa
