import Derived.Test.YtikfpoabaaiegaaPack12
import Derived.Test.YtikfpoabaaiegaaPack3
namespace Go.Proofs.Ytikfpoabaaiegaa
open Go.RowKit
set_option maxRecDepth 8000

end Go.Proofs.Ytikfpoabaaiegaa

namespace Go.Proofs.Ytikfpoabaaiegaa
open Go.RowKit
set_option maxRecDepth 8000
end Go.Proofs.Ytikfpoabaaiegaa

namespace Go.Proofs.Ytikfpoabaaiegaa
open Go.RowKit
set_option maxRecDepth 8000

def wordB (u : Nat) : List Int := [((u % 256 : Nat) : Int), ((u / 256 % 256 : Nat) : Int), ((u / 65536 % 256 : Nat) : Int), ((u / 16777216 % 256 : Nat) : Int)]
def keyB (s : ByteArray) : List Int := grpB s.size ++ txtB s
end Go.Proofs.Ytikfpoabaaiegaa

namespace Go.Proofs.Ytikfpoabaaiegaa
open Go.RowKit
set_option maxRecDepth 8000
def listB {α : Type} (enc : α → List Int) (n : Nat) (f : Nat → α) : List Int := grpB n ++ (List.range n).flatMap fun j => enc (f j)
end Go.Proofs.Ytikfpoabaaiegaa

namespace Go.Proofs.Ytikfpoabaaiegaa
open Go.RowKit
set_option maxRecDepth 8000
end Go.Proofs.Ytikfpoabaaiegaa
