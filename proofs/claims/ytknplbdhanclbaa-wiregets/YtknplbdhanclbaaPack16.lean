import Derived.Test.YtknplbdhanclbaaPack1
import Derived.Test.YtknplbdhanclbaaPack15
import Derived.Test.YtknplbdhanclbaaPack12
import Derived.Test.YtknplbdhanclbaaPack9
namespace Go.Proofs.Ytknplbdhanclbaa
open Go.RowKit
set_option maxRecDepth 8000

end Go.Proofs.Ytknplbdhanclbaa

namespace Go.Proofs.Ytknplbdhanclbaa
open Go.RowKit
set_option maxRecDepth 8000

end Go.Proofs.Ytknplbdhanclbaa

namespace Go.Proofs.Ytknplbdhanclbaa
open Go.RowKit
set_option maxRecDepth 8000

end Go.Proofs.Ytknplbdhanclbaa

namespace Go.Proofs.Ytknplbdhanclbaa
open Go.RowKit
set_option maxRecDepth 8000

end Go.Proofs.Ytknplbdhanclbaa

namespace Go.Proofs.Ytknplbdhanclbaa
open Go.RowKit
set_option maxRecDepth 8000

end Go.Proofs.Ytknplbdhanclbaa
