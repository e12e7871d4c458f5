import Derived.Test.YtieknmpdmdbdlaaGreatDoorRows
import Derived.ProofKit
import Derived.OpenShut
import Derived.ChangeOld
import Derived.SizedLaws
import Derived.Deep.DeepHandedRow
import Derived.WalkKit
namespace Go.Proofs.YtieknmpdmdbdlaaGreatDoor
open Go.ChangeShapes Go.WideShapes Go.ChangeAt Go.RowKit
set_option maxRecDepth 8000

theorem own : ownKnob Tryz.prog.godebug = none := by kernel_rfl
/-- FOR THE WITNESS: a world, the five tables holding what their initialisers lay -/
def putCells (cs : Array Value) : Obj → Obj
  | .cells _ t frozen => .cells cs t frozen
  | o => o
/-- the integers of a listed datum -/
def datumCells : DataW Unit → Array Value
  | .agg ds => (ds.flatMap fun
    | .lit (.int k z) => [Value.int k z]
    | .agg es => es.flatMap fun
      | .lit (.int k z) => [Value.int k z]
      | _ => []
    | _ => []).toArray
  | _ => #[]
noncomputable def layTabs (w : World) : World :=
  { w with heap := ((((w.heap.modify 2 (putCells (datumCells Rows.laid_unicode_utf8_first))).modify 3 (putCells (datumCells Rows.laid_unicode_utf8_acceptRanges))).modify 5 (putCells (datumCells Rows.laid_internal_strconv_uint64pow10))).modify 6 (putCells (datumCells Rows.laid_math_bits_deBruijn32tab))).modify 7 (putCells (datumCells Rows.laid_math_bits_deBruijn64tab)) }
/-- FOR THE WITNESS: the two errors laid besides -/
noncomputable def lowErr : Nat := (World.holding Tryz.prog default ⟨#[], #[], []⟩).heap.size
noncomputable def layErrs (os : Os) : World :=
  layTabs { (World.holding Tryz.prog os ⟨#[.cells #[.string ⟨#[118, 97, 108, 117, 101, 32, 111, 117, 116, 32, 111, 102, 32, 114, 97, 110, 103, 101]⟩] 144, .cells #[.string ⟨#[105, 110, 118, 97, 108, 105, 100, 32, 115, 121, 110, 116, 97, 120]⟩] 144], #[], []⟩) with
    heap := ((World.holding Tryz.prog os ⟨#[.cells #[.string ⟨#[118, 97, 108, 117, 101, 32, 111, 117, 116, 32, 111, 102, 32, 114, 97, 110, 103, 101]⟩] 144, .cells #[.string ⟨#[105, 110, 118, 97, 108, 105, 100, 32, 115, 121, 110, 116, 97, 120]⟩] 144], #[], []⟩).heap.modify 1 (putCells #[.iface 142 (.pointer (some ⟨lowErr, 0, none⟩))])).modify 0 (putCells #[.iface 142 (.pointer (some ⟨lowErr + 1, 0, none⟩))]) }
end Go.Proofs.YtieknmpdmdbdlaaGreatDoor
