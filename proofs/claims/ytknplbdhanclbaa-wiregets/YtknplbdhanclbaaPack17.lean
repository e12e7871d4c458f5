import Derived.Test.YtknplbdhanclbaaPack9
import Derived.Test.YtknplbdhanclbaaPack12
import Derived.Test.YtknplbdhanclbaaPack15
namespace Go.Proofs.Ytknplbdhanclbaa
open Go.RowKit
set_option maxRecDepth 8000

end Go.Proofs.Ytknplbdhanclbaa

namespace Go.Proofs.Ytknplbdhanclbaa
open Go.RowKit
set_option maxRecDepth 8000

end Go.Proofs.Ytknplbdhanclbaa

namespace Go.Proofs.Ytknplbdhanclbaa
open Go.RowKit
set_option maxRecDepth 8000

end Go.Proofs.Ytknplbdhanclbaa

namespace Go.Proofs.Ytknplbdhanclbaa
open Go.RowKit
set_option maxRecDepth 8000

end Go.Proofs.Ytknplbdhanclbaa

namespace Go.Proofs.Ytknplbdhanclbaa
open Go.RowKit
set_option maxRecDepth 8000

structure OI where
  num : Int
  rec_ : RT
end Go.Proofs.Ytknplbdhanclbaa
