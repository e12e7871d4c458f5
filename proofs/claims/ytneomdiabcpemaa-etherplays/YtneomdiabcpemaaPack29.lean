import Derived.Test.YtneomdiabcpemaaPack28
import Derived.Test.YtneomdiabcpemaaPack0
import Derived.Lib.Bytealg
namespace Go.Proofs.Ytneomdiabcpemaa
open Go.RowKit
set_option maxRecDepth 8000

end Go.Proofs.Ytneomdiabcpemaa

namespace Go.Proofs.Ytneomdiabcpemaa
open Go.RowKit
set_option maxRecDepth 8000

/-- the order of two ints -/
def cmpI (x y : Int) : Int := if x < y then -1 else if y < x then 1 else 0
/-- the order of two texts -/
def cmpS (a b : ByteArray) : Int := Go.Lib.compareBytes a.data.toList b.data.toList

end Go.Proofs.Ytneomdiabcpemaa
