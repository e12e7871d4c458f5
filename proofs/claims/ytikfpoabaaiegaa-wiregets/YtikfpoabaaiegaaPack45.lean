import Derived.Test.YtikfpoabaaiegaaPack29
import Derived.Test.YtikfpoabaaiegaaPack6
namespace Go.Proofs.Ytikfpoabaaiegaa
open Go.RowKit
set_option maxRecDepth 8000
end Go.Proofs.Ytikfpoabaaiegaa

namespace Go.Proofs.Ytikfpoabaaiegaa
open Go.RowKit
set_option maxRecDepth 8000

end Go.Proofs.Ytikfpoabaaiegaa

namespace Go.Proofs.Ytikfpoabaaiegaa
open Go.RowKit
set_option maxRecDepth 8000

end Go.Proofs.Ytikfpoabaaiegaa

namespace Go.Proofs.Ytikfpoabaaiegaa
open Go.RowKit
set_option maxRecDepth 8000

structure CAlike (t u : VT) : Prop where
  text : u.text = t.text
  n : u.n = t.n
  item : ∀ j, j < t.n → VT.Alike (t.item j) (u.item j)
end Go.Proofs.Ytikfpoabaaiegaa
