import Derived.Test.YtneomdiabcpemaaApp2
namespace Go.Proofs.Ytneomdiabcpemaa
open Go.RowKit
set_option maxRecDepth 8000
theorem kindB : ∃ i, Kind 29 5 i (.int .u8 0) 1 1 := by
  obtain ⟨i0, hi, hz0, hz1, hz2⟩ := info_parts (show (Try.prog.info? 5).map (fun i => (i.zero, i.size, i.bytes)) = some (some (.int .u8 0), 1, 1) by kernel_rfl)
  exact ⟨i0, Try.underlying29, hi, hz0, hz1, hz2, rfl, by decide⟩
theorem wrap_u64 (x : Int) : IntKind.u64.wrap x = x % 18446744073709551616 := by
  simp [IntKind.wrap, IntKind.bits, IntKind.signed]
/-- a row of one byte -/
theorem row_one (w : World) (x : Int) : (w.alloc (.cells #[.int .u8 x] 5)).ownsRow w.heap.size 5 1 (.slice (some ⟨w.heap.size, 0, none⟩) 1 1) 1 [.int .u8 x] := by
  have h := World.ownsRow_made (base := w.heap.size) (e := 5) (size := 1) w #[.int .u8 x] 1 (Nat.le_refl _) (by unfold maxLen; omega) (by simp)
  refine ⟨by simp, .inr ⟨w.heap.size, 1, #[.int .u8 x], rfl, Nat.le_refl _, ?_, Nat.le_refl _, by unfold maxLen; omega, by simp, by simp⟩⟩
  exact Box.new w _ 5

/-- bytes in a row of the call's own -/
def OwnBy (base : Nat) (w : World) (v : Value) (zs : List Int) : Prop := w.ownsRow base 5 1 v zs.length (zs.map (Value.int .u8))
theorem OwnBy.app {base : Nat} {w w' : World} {v v' : Value} {zs ys : List Int} (_h : OwnBy base w v zs) (ho : w'.ownsRow base 5 1 v' (zs.length + ys.length) (zs.map (Value.int .u8) ++ ys.map (Value.int .u8))) : OwnBy base w' v' (zs ++ ys) := by
  unfold OwnBy
  rw [List.length_append, List.map_append]
  exact ho
theorem OwnBy.below {base : Nat} {w w' : World} {v : Value} {zs : List Int} (h : OwnBy base w v zs) (hb : Below w.heap.size w w') : OwnBy base w' v zs := ownsRow_keep h fun g _ hl => hb.block g hl
theorem OwnBy.slice {base : Nat} {w : World} {v : Value} {zs : List Int} (h : OwnBy base w v zs) (hz : 0 < zs.length) : ∃ b c, v = .slice (some ⟨b, 0, none⟩) zs.length c ∧ base ≤ b ∧ b < w.heap.size ∧ ∀ j u, (zs.map (Value.int .u8))[j]? = some u → w.cell? ((⟨b, 0, none⟩ : Addr).add j) = some u := by
  have hlt := World.ownsRow.lt h
  have hc := @World.ownsRow.cells _ _ _ _ _ _ _ h
  obtain ⟨_, ⟨hv, h0⟩ | ⟨b, cap, cur, hv, hbg, hh, _⟩⟩ := id h
  · omega
  · exact ⟨b, cap, hv, hbg, (hlt b (by rw [hv]; rfl)).2, hc (by rw [hv]; rfl)⟩
end Go.Proofs.Ytneomdiabcpemaa
