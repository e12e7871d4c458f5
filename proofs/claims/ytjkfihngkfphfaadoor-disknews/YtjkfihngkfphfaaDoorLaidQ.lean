import Derived.Test.YtjkfihngkfphfaaDoorRows
import Derived.Lib.LaidIn
namespace Go.Proofs.YtjkfihngkfphfaaDoor
open Go
set_option maxRecDepth 8000
def putCells (cs : Array Value) : Obj → Obj
  | .cells _ t frozen => .cells cs t frozen
  | o => o
/-- the integers of a listed datum -/
def datumCells : DataW Unit → Array Value
  | .agg ds => (ds.flatMap fun
    | .lit (.int k z) => [Value.int k z]
    | .agg es => es.flatMap fun
      | .lit (.int k z) => [Value.int k z]
      | _ => []
    | _ => []).toArray
  | _ => #[]
/-- FOR THE WITNESS: a world, the two tables holding what their initialisers lay -/
noncomputable def layTabs (w : World) : World :=
  { w with heap := (w.heap.modify 1 (putCells (datumCells Rows.laid_unicode_utf8_first))).modify 2 (putCells (datumCells Rows.laid_unicode_utf8_acceptRanges)) }
end Go.Proofs.YtjkfihngkfphfaaDoor
