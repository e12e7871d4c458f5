import Derived.Test.YtdpfgflofjiheaaYB0
import Derived.Test.YtdpfgflofjiheaaYB1
import Derived.Test.YtdpfgflofjiheaaYB2
import Derived.Test.YtdpfgflofjiheaaYB3
import Derived.Test.YtdpfgflofjiheaaYB4
import Derived.Test.YtdpfgflofjiheaaYB5
import Derived.Test.YtdpfgflofjiheaaYB6
import Derived.Test.YtdpfgflofjiheaaYB7
import Derived.Test.YtdpfgflofjiheaaYB8
import Derived.Test.YtdpfgflofjiheaaYB9
import Derived.Test.YtdpfgflofjiheaaYB10
import Derived.Test.YtdpfgflofjiheaaYB11
import Derived.Test.YtdpfgflofjiheaaPack6
namespace Go.Proofs.Ytdpfgflofjiheaa
open Go.RowKit
set_option maxRecDepth 8000
theorem entryCanBe_any (k t p i n : Int) (w : World) (hn : 1 ≤ n) : Calls Try.prog 42 #[.agg #[.int .i64 k, .int .i64 t, .int .i64 p, .int .i64 i], .int .i64 n] w fun e w' => CanQ n ⟨k, t, p, i⟩ w e w' := by
  rcases (show (k < 1 ∨ 11 < k) ∨ k = 1 ∨ k = 2 ∨ k = 3 ∨ k = 4 ∨ k = 5 ∨ k = 6 ∨ k = 7 ∨ k = 8 ∨ k = 9 ∨ k = 10 ∨ k = 11 by omega) with h | h | h | h | h | h | h | h | h | h | h | h
  · exact canBe_0 k t p i n w hn h
  · exact canBe_1 k t p i n w hn h
  · exact canBe_2 k t p i n w hn h
  · exact canBe_3 k t p i n w hn h
  · exact canBe_4 k t p i n w hn h
  · exact canBe_5 k t p i n w hn h
  · exact canBe_6 k t p i n w hn h
  · exact canBe_7 k t p i n w hn h
  · exact canBe_8 k t p i n w hn h
  · exact canBe_9 k t p i n w hn h
  · exact canBe_10 k t p i n w hn h
  · exact canBe_11 k t p i n w hn h
end Go.Proofs.Ytdpfgflofjiheaa

namespace Go.Proofs.Ytdpfgflofjiheaa
open Go.RowKit
set_option maxRecDepth 8000
set_option maxHeartbeats 4000000 in
theorem canBe_any (l : LT TR) (n : Int) (w : World) (S : Nat → Prop) (hl : LT.In elTr w S l) :
    Calls Try.prog 31 #[.slice l.p l.n l.c, .int .i64 n] w fun e w' => YesQ (CanL n l) w e w' := by
  have hnn := hl.nn
  have H := hid hl
  clear hl
  by_cases h1 : n < 1
  · go_enter Try.func31, Try.ntmps31
    go_wp2
    go_ret
    exact ⟨false, rfl, ⟨fun h => (by cases h), fun h => by have := h.1; omega⟩, Below.refl _ _⟩
  by_cases h2 : 12 < n
  · go_enter Try.func31, Try.ntmps31
    go_wp2
    go_ret
    exact ⟨false, rfl, ⟨fun h => (by cases h), fun h => by have := h.2.1; omega⟩, Below.refl _ _⟩
  have HN : Hid (1 ≤ n ∧ n ≤ 12) := ⟨by omega, by omega⟩
  go_enter Try.func31, Try.ntmps31
  go_wp2_with fail
  go_loopw [15] (fun x wr => ∃ k : Nat, k ≤ l.n ∧ x = .int .i64 (k : Int) ∧ (∀ q, q < k → Can n (l.item q)) ∧ Below w.heap.size w wr) (fun x _ => l.n - (intOf x).toNat)
  case atStart => exact ⟨0, Nat.zero_le _, rfl, fun q hq => absurd hq (by omega), Below.refl _ _⟩
  case round =>
    obtain ⟨k, hk, rfl, hno, hb⟩ := hrel
    have HNo := hid hno
    have HB := hid hb
    clear hno hb
    by_cases hlt : k < l.n
    · have hlt' : (k : Int) < (l.n : Int) := by omega
      obtain ⟨b1, o1, hp, _, hl1, ha⟩ := (H.out.below HB.out).tr (by omega)
      obtain ⟨a0, a1, a2, a3⟩ := ha k hlt
      have HE := fun w => hid (entryCanBe_any (l.item k).kind (l.item k).task (l.item k).port (l.item k).id n w HN.out.1)
      rw [hp]
      clear ha hp
      go_wp2_with fail
      refine (HE _).out.mono ?_
      rintro e w2 ⟨b, rfl, hb, hb2⟩
      have HB2 : Hid (Below w.heap.size w w2) := (HB.out.trans ((below1 _ _).mono HB.out.size)).trans (hb2.mono (Nat.le_trans HB.out.size (below1 _ _).size))
      clear hb2
      cases b with
      | true =>
        have HC : Hid (Can n (l.item k)) := hb.1 rfl
        clear hb
        go_wp2
        go_roundw
        case rel =>
          refine ⟨k + 1, by omega, by go_num, fun q hq => ?_, HB2.out⟩
          by_cases hqk : q < k
          · exact HNo.out q hqk
          · obtain rfl : q = k := by omega
            exact HC.out
        case measure => simp [intOf]; omega
      | false =>
        have HC : Hid (¬ Can n (l.item k)) := fun h => by have := hb.2 h; cases this
        clear hb
        go_wp2
        go_ret
        exact ⟨false, rfl, ⟨fun h => (by cases h), fun h => (HC.out (h.2.2 k hlt)).elim⟩, HB2.out⟩
    · obtain rfl : k = l.n := by omega
      go_wp2
      go_ret
      exact ⟨true, rfl, ⟨fun _ => ⟨HN.out.1, HN.out.2, HNo.out⟩, fun _ => rfl⟩, HB.out⟩
end Go.Proofs.Ytdpfgflofjiheaa
