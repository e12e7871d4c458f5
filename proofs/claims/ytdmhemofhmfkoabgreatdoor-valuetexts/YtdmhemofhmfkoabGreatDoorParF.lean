import Derived.Test.YtdmhemofhmfkoabGreatDoorPack8
import Derived.Deep.RegionLaw
namespace Go.Proofs.YtdmhemofhmfkoabGreatDoor
open Go.RowKit
set_option maxRecDepth 8000
/-- the place behind the blanks -/
def skS (s : ByteArray) (a : Nat) : Nat := a + blL (s.data.toList.drop a)
theorem skS_le {s : ByteArray} {a : Nat} (h : a ≤ s.size) : skS s a ≤ s.size := by
  have h1 := blL_le (s.data.toList.drop a)
  rw [List.length_drop, ← Go.Lib.size_eq] at h1
  unfold skS
  omega

set_option maxHeartbeats 2000000 in
theorem skipBlanks_any (rb : Nat) (s : ByteArray) (a q : Nat) (w : World) (hb : Rd w rb s a q) (ha : a ≤ s.size) (hs : s.size ≤ 140737488355328) :
    Calls Tryz.prog 105 #[.pointer (some ⟨rb, 0, none⟩)] w fun x w' => x = .returned (.tuple #[]) ∧ Rd w' rb s (skS s a) q ∧ But (fun y => y = rb) w w' := by
  have x0 := hb.cell 0
  have x1 := hb.cell 1
  have f1 := hb.frozen 1
  simp at x0 x1
  have hle : (a : Int) ≤ (s.size : Int) := by omega
  have HBl : Hid (∀ W, Calls Tryz.prog 33 #[.string (s.extract a s.size)] W fun x w' => x = .returned (.int .i64 (blL (s.data.toList.drop a) : Nat)) ∧ Below W.heap.size W w') := fun W => by
    have h := blanks_any (tl s a) W (by rw [tl_size]; omega)
    rw [tl_list] at h
    exact h
  have hk := skS_le ha
  have hsk : skS s a = a + blL (s.data.toList.drop a) := rfl
  have HB := hid hb
  clear hb
  generalize blL (s.data.toList.drop a) = m at *
  generalize skS s a = A at *
  subst hsk
  have hw : IntKind.i64.wrap ((a : Int) + (m : Int)) = (a : Int) + (m : Int) := by rw [IntKind.wrap_i64]; omega
  go_enter Tryz.func105, Tryz.ntmps105
  go_wp2_with fail
  go_region_law (refine step_call rfl 33 #[.tmp 14] _ rfl Tryz.f33 Tryz.func33 (by kernel_rfl) rfl #[.string (s.extract a s.size)] rfl _ (HBl.out _) ?_
                 rintro e w1 ⟨rfl, hb1'⟩
                 refine ⟨_, rfl, ?_⟩
                 have hb1 : Below w.heap.size w w1 := (Below.refl _ _).drew.trans hb1'
                 have y0 := (HB.out.below hb1).cell 0
                 have y1 := (HB.out.below hb1).cell 1
                 have g1 := (HB.out.below hb1).frozen 1
                 simp at y0 y1)
  all_goals
    have hz := Rd.to (HB.out.below hb1) ((a : Int) + (m : Int)) (a + m) (by omega)
    have hbt := ((But.one w rb).trans (But.ofBelow hb1)).setAt 1 (.int .i64 ((a : Int) + (m : Int)))
    go_wp2
    exact bodyPost_end (results_none rfl _ _ _) rfl ⟨rfl, hz, hbt⟩
end Go.Proofs.YtdmhemofhmfkoabGreatDoor
