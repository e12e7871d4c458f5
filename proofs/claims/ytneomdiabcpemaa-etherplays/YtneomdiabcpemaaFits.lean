import Derived.Test.YtneomdiabcpemaaPack0
namespace Go.Proofs.Ytneomdiabcpemaa
open Go.RowKit
set_option maxRecDepth 8000

/-- its kind is one, and no field of another kind is set -/
def fitB (k i : Int) (s : ByteArray) (n : Nat) : Bool := decide (0 ≤ k) && decide (k ≤ 3) && (decide (i = 0) || decide (k = 1)) && (s.toList.isEmpty || decide (k = 2)) && (decide (n = 0) || decide (k = 3))

end Go.Proofs.Ytneomdiabcpemaa
