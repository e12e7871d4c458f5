import Derived.Test.YtbcnlfbclgkeiaaLstG
import Derived.Shelf.LaysM
import Derived.Shelf.Strconv.Clone
namespace Go.Proofs.Ytbcnlfbclgkeiaa
open Go.RowKit Go.Shelf
set_option maxRecDepth 8000
def renC : Go.Shelf.Ren := ⟨fun | 316 => 74 | n => n, fun | 37 => 115 | 127 => 121 | n => n, fun n => n⟩
theorem laysC : Go.Proofs.LaysM.n316 Try.prog renC := {
  mixed := by kernel_rfl
  f316 := Try.func74.trans (congrArg some (by kernel_rfl))
  t0 := Try.underlying0
  a0 := Try.isAgg0
  z0 := Try.sizeOf0
  v0 := Try.zeroValue0
  t3 := Try.underlying3
  a3 := Try.isAgg3
  z3 := Try.sizeOf3
  v3 := Try.zeroValue3
  t4 := Try.underlying4
  a4 := Try.isAgg4
  z4 := Try.sizeOf4
  v4 := Try.zeroValue4
  t5 := Try.underlying5
  a5 := Try.isAgg5
  z5 := Try.sizeOf5
  v5 := Try.zeroValue5
  t9 := Try.underlying9
  a9 := Try.isAgg9
  z9 := Try.sizeOf9
  v9 := Try.zeroValue9
  t37 := Try.underlying115
  a37 := Try.isAgg115
  z37 := Try.sizeOf115
  v37 := Try.zeroValue115
  t127 := Try.underlying121
  a127 := Try.isAgg121
  z127 := Try.sizeOf121
  v127 := Try.zeroValue121
  i0 := by kernel_rfl
  i3 := by kernel_rfl
  i4 := by kernel_rfl
  i5 := by kernel_rfl
  i9 := by kernel_rfl
  i37 := by kernel_rfl
  i127 := by kernel_rfl }
theorem sclone_any (s : ByteArray) (w : World) (h : s.size ≤ 140737488355328) : Calls Try.prog 74 #[.string s] w fun e w' => e = .returned (.string s) ∧ Below w.heap.size w w' :=
  Any.stringslite_Clone laysC s w (by omega)
set_option maxHeartbeats 1000000 in
/-- strings.Clone -/
theorem clone_any (s : ByteArray) (w : World) (h : s.size ≤ 140737488355328) : Calls Try.prog 58 #[.string s] w fun e w' => e = .returned (.string s) ∧ Below w.heap.size w w' := by
  have HC := hid (sclone_any s w h)
  go_enter Try.func58, Try.ntmps58
  go_wp2_with fail
  refine HC.out.mono ?_
  rintro e w1 ⟨rfl, hb⟩
  have HB := hid hb
  clear hb HC
  go_wp2
  refine bodyPost_ret (v := .string s) (by simp [results, Try.results58, go_sem]) rfl ⟨rfl, HB.out⟩
end Go.Proofs.Ytbcnlfbclgkeiaa
