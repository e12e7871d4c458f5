import Derived.Test.YtbkikbhodgjijaaYB0
import Derived.Test.YtbkikbhodgjijaaYB1
import Derived.Test.YtbkikbhodgjijaaYB2
import Derived.Test.YtbkikbhodgjijaaYB3
import Derived.Test.YtbkikbhodgjijaaYB4
import Derived.Test.YtbkikbhodgjijaaYB5
import Derived.Test.YtbkikbhodgjijaaYB6
import Derived.Test.YtbkikbhodgjijaaYB7
import Derived.Test.YtbkikbhodgjijaaYB8
import Derived.Test.YtbkikbhodgjijaaYB9
import Derived.Test.YtbkikbhodgjijaaYB10
import Derived.Test.YtbkikbhodgjijaaYB11
namespace Go.Proofs.Ytbkikbhodgjijaa
open Go.RowKit
set_option maxRecDepth 8000
theorem entryCanBe_any (k t p i n : Int) (w : World) (hn : 1 ≤ n) : Calls Try.prog 42 #[.agg #[.int .i64 k, .int .i64 t, .int .i64 p, .int .i64 i], .int .i64 n] w fun e w' => CanQ n ⟨k, t, p, i⟩ w e w' := by
  rcases (show (k < 1 ∨ 11 < k) ∨ k = 1 ∨ k = 2 ∨ k = 3 ∨ k = 4 ∨ k = 5 ∨ k = 6 ∨ k = 7 ∨ k = 8 ∨ k = 9 ∨ k = 10 ∨ k = 11 by omega) with h | h | h | h | h | h | h | h | h | h | h | h
  · exact canBe_0 k t p i n w hn h
  · exact canBe_1 k t p i n w hn h
  · exact canBe_2 k t p i n w hn h
  · exact canBe_3 k t p i n w hn h
  · exact canBe_4 k t p i n w hn h
  · exact canBe_5 k t p i n w hn h
  · exact canBe_6 k t p i n w hn h
  · exact canBe_7 k t p i n w hn h
  · exact canBe_8 k t p i n w hn h
  · exact canBe_9 k t p i n w hn h
  · exact canBe_10 k t p i n w hn h
  · exact canBe_11 k t p i n w hn h
end Go.Proofs.Ytbkikbhodgjijaa
