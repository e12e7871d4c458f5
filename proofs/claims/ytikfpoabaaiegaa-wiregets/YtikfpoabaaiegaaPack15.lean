import Derived.Test.YtikfpoabaaiegaaPack13
import Derived.Test.YtikfpoabaaiegaaPack14
import Derived.Test.YtikfpoabaaiegaaPack1
namespace Go.Proofs.Ytikfpoabaaiegaa
open Go.RowKit
set_option maxRecDepth 8000
end Go.Proofs.Ytikfpoabaaiegaa

namespace Go.Proofs.Ytikfpoabaaiegaa
open Go.RowKit
set_option maxRecDepth 8000
end Go.Proofs.Ytikfpoabaaiegaa

namespace Go.Proofs.Ytikfpoabaaiegaa
open Go.RowKit
set_option maxRecDepth 8000
def stateB (s : ST) : List Int := grpB s.num.toNat ++ listB cellB s.n s.cell
theorem ST.toLT {w : World} {S : Nat → Prop} {s : ST} (h : ST.In w S s) (hn : s.p = none → s.n = 0 ∧ s.c = 0) : LT.In elCell w S ⟨s.p, s.n, s.c, s.cell⟩ := by
  refine ⟨fun hn => ?_, h.each, h.nc, h.nn, h.cc, hn⟩
  obtain ⟨b, o, e, hS, hl, ha⟩ := h.at_ hn
  refine ⟨b, o, e, hS, hl, fun j hj r u hu => ?_⟩
  obtain ⟨a0, a1⟩ := ha j hj
  rcases r with _ | _ | r
  · simp [elCell, VT.two] at hu; rw [← hu]; exact a0
  · simp [elCell, VT.two] at hu; rw [← hu]; exact a1
  · simp [elCell, VT.two] at hu
def fileB (u : Nat × Nat) : List Int := grpB u.1 ++ wordB u.2
def recsB (l : LT RT) : List Int := listB recB l.n l.item
end Go.Proofs.Ytikfpoabaaiegaa

namespace Go.Proofs.Ytikfpoabaaiegaa
open Go.RowKit
set_option maxRecDepth 8000
theorem kindP : ∃ i, Kind 199 204 i (.agg #[.int .i64 0, .int .i64 0, .string ⟨#[]⟩, .int .i64 0]) 4 40 := by
  obtain ⟨i0, hi, hz0, hz1, hz2⟩ := info_parts (show (Try.prog.info? 204).map (fun i => (i.zero, i.size, i.bytes)) = some (some (.agg #[.int .i64 0, .int .i64 0, .string ⟨#[]⟩, .int .i64 0]), 4, 40) by kernel_rfl)
  exact ⟨i0, Try.underlying199, hi, hz0, hz1, hz2, rfl, by decide⟩
end Go.Proofs.Ytikfpoabaaiegaa

namespace Go.Proofs.Ytikfpoabaaiegaa
open Go.RowKit
set_option maxRecDepth 8000

theorem oneCell_pt (q : PT) : ∀ u ∈ q.cells, u.oneCell' = true := by
  intro u hu
  simp only [PT.cells, List.mem_cons, List.not_mem_nil, or_false] at hu
  rcases hu with rfl | rfl | rfl | rfl <;> rfl
end Go.Proofs.Ytikfpoabaaiegaa
