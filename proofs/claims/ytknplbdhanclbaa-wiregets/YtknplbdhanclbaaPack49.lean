import Derived.Test.YtknplbdhanclbaaPack0
import Derived.Test.YtknplbdhanclbaaPack47
import Derived.Test.YtknplbdhanclbaaPack29
namespace Go.Proofs.Ytknplbdhanclbaa
open Go.RowKit
set_option maxRecDepth 8000

end Go.Proofs.Ytknplbdhanclbaa

namespace Go.Proofs.Ytknplbdhanclbaa
open Go.RowKit
set_option maxRecDepth 8000

end Go.Proofs.Ytknplbdhanclbaa

namespace Go.Proofs.Ytknplbdhanclbaa
open Go.RowKit
set_option maxRecDepth 8000

end Go.Proofs.Ytknplbdhanclbaa

namespace Go.Proofs.Ytknplbdhanclbaa
open Go.RowKit
set_option maxRecDepth 8000

end Go.Proofs.Ytknplbdhanclbaa

namespace Go.Proofs.Ytknplbdhanclbaa
open Go.RowKit
set_option maxRecDepth 8000

end Go.Proofs.Ytknplbdhanclbaa
