import Derived.Test.YtikfpoabaaiegaaPack13
import Derived.Test.YtikfpoabaaiegaaPack4
namespace Go.Proofs.Ytikfpoabaaiegaa
open Go.RowKit
set_option maxRecDepth 8000
end Go.Proofs.Ytikfpoabaaiegaa

namespace Go.Proofs.Ytikfpoabaaiegaa
open Go.RowKit
set_option maxRecDepth 8000
end Go.Proofs.Ytikfpoabaaiegaa

namespace Go.Proofs.Ytikfpoabaaiegaa
open Go.RowKit
set_option maxRecDepth 8000
def hopB (i : Int) : List Int := grpB i.toNat
def valB (t : VT) : List Int := encB (cleanT t)
def recB (r : RT) : List Int := keyB r.key ++ (valB r.v ++ listB hopB r.n r.loop)
def cellB (t : VT) : List Int := keyB t.text ++ listB valB t.n t.item
end Go.Proofs.Ytikfpoabaaiegaa

namespace Go.Proofs.Ytikfpoabaaiegaa
open Go.RowKit
set_option maxRecDepth 8000
end Go.Proofs.Ytikfpoabaaiegaa

namespace Go.Proofs.Ytikfpoabaaiegaa
open Go.RowKit
set_option maxRecDepth 8000
end Go.Proofs.Ytikfpoabaaiegaa
