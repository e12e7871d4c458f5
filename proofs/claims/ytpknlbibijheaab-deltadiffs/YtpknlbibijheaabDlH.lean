import Derived.Test.YtpknlbibijheaabDlG
namespace Go.Proofs.Ytpknlbibijheaab
open Go.RowKit
set_option maxRecDepth 8000
attribute [local go_sem] Oper.semAt_some
/-- what comes out of what was met -/
def selover_C (pre : List (Ev VT VT)) : List VT := (pre.map fun x => if x.inB = true then x.b else x.a)
theorem selover_C_le (pre : List (Ev VT VT)) : (selover_C pre).length ≤ pre.length := by simp [selover_C]
/-- what comes out of what was met -/
def selover_S (pre : List (Ev ByteArray ByteArray)) : List ByteArray := (pre.map fun x => if x.inB = true then x.b else x.a)
theorem selover_S_le (pre : List (Ev ByteArray ByteArray)) : (selover_S pre).length ≤ pre.length := by simp [selover_S]
end Go.Proofs.Ytpknlbibijheaab
