import Derived.Test.YtikfpoabaaiegaaPack16
import Derived.Test.YtikfpoabaaiegaaPack17
import Derived.Test.YtikfpoabaaiegaaPack2
import Derived.Test.YtikfpoabaaiegaaPack13
import Derived.Test.YtikfpoabaaiegaaPack15
namespace Go.Proofs.Ytikfpoabaaiegaa
open Go.RowKit
set_option maxRecDepth 8000
end Go.Proofs.Ytikfpoabaaiegaa

namespace Go.Proofs.Ytikfpoabaaiegaa
open Go.RowKit
set_option maxRecDepth 8000
end Go.Proofs.Ytikfpoabaaiegaa

namespace Go.Proofs.Ytikfpoabaaiegaa
open Go.RowKit
set_option maxRecDepth 8000

theorem own_some {w : World} {base n : Nat} {e : TypeId} {size : Nat} {v : Value} {xs : List Value} (h : w.ownsRow base e size v n xs) (hn : 0 < n) : ∃ g c, v = .slice (some ⟨g, 0, none⟩) n c := by
  obtain ⟨_, ⟨hv, h0⟩ | ⟨g, cap, cur, hv, _⟩⟩ := h
  · omega
  · exact ⟨g, cap, hv⟩

end Go.Proofs.Ytikfpoabaaiegaa

namespace Go.Proofs.Ytikfpoabaaiegaa
open Go.RowKit
set_option maxRecDepth 8000

end Go.Proofs.Ytikfpoabaaiegaa

namespace Go.Proofs.Ytikfpoabaaiegaa
open Go.RowKit
set_option maxRecDepth 8000
def intC (N : List Int) : List Value := N.map (.int .i64)
def strC (K : List ByteArray) : List Value := K.map .string
def valC (V : List VT) : List Value := V.flatMap VT.cells
theorem intC_app (N M : List Int) : intC (N ++ M) = intC N ++ intC M := by simp [intC]
theorem strC_app (N M : List ByteArray) : strC (N ++ M) = strC N ++ strC M := by simp [strC]
theorem valC_app (N M : List VT) : valC (N ++ M) = valC N ++ valC M := by simp [valC]
theorem apart_near {w : World} {a a' b : Value} {base : Nat} {e : TypeId} {size n : Nat} {xs : List Value} (hn : Near w a a') (hb : w.ownsRow base e size b n xs) (h : ∀ g, a.ownBlock = some g → b.ownBlock ≠ some g) : ∀ g, a'.ownBlock = some g → b.ownBlock ≠ some g := by
  intro g hg hg6
  rcases hn with e | e
  · exact h g (e ▸ hg) hg6
  · have h1 := e g hg
    have h2 := (hb.lt g hg6).2
    omega
theorem apart_symm {a b : Value} (h : ∀ g, a.ownBlock = some g → b.ownBlock ≠ some g) : ∀ g, b.ownBlock = some g → a.ownBlock ≠ some g := fun g h1 h2 => h g h2 h1
end Go.Proofs.Ytikfpoabaaiegaa
