import Derived.Test.YtkfcilandmhomaaDoorPack17
namespace Go.Proofs.YtkfcilandmhomaaDoor
open Go.RowKit
set_option maxRecDepth 8000
def DK.rig (D : DK) (s : Bool) (u a c : Int) (d : Bool) : DK := { D with set := s, units := u, after := a, calls := c, down := d }
theorem DkI.rig {w w' : World} {C : Nat → Prop} {db : Nat} {D : DK} (h : DkI w C db D) (hb : But (fun k => k = db) w w') {s : Bool} {u a c : Int} {d : Bool}
    (hx : Box w' db #[.map (some D.mb), .bool s, .int .i64 u, .int .i64 a, .int .i64 c, .bool d] 67) (hu : 0 ≤ u ∧ u ≤ 9223372036854775807) (ha : 0 ≤ a ∧ a ≤ 9223372036854775807) (hc : 0 ≤ c ∧ c ≤ 9223372036854775807) : DkI w' C db (D.rig s u a c d) :=
  ⟨hx, h.mp.kept (hb.block _ h.mp.lt fun e => h.ne e.symm), h.cb, h.cm, h.ne, fun f hf => (h.each f hf).kept (fun k hk => hb.block k ((h.each f hf).blk hk).2 (h.low f hf k hk).1) (fun _ hk => ((h.each f hf).blk hk).1), h.low, h.apart, h.n, hu, ha, hc⟩
/-- the disk when the machine has fallen -/
def DK.fell (D : DK) : DK := D.rig false 0 0 0 true
def RigQ (D' : DK) (C : Nat → Prop) (db : Nat) (w w' : World) : Prop := DkI w' C db D' ∧ But (fun k => k = db) w w'
set_option maxHeartbeats 2000000 in
theorem dcrash_any (D : DK) (w : World) (C : Nat → Prop) (db : Nat) (hD : DkI w C db D) :
    Calls Tryd.prog 31 #[.pointer (some ⟨db, 0, none⟩)] w fun e w' => e = .returned (.tuple #[]) ∧ RigQ D.fell C db w w' := by
  have HD := hid hD
  have f1 := hD.bx.cell 1
  have f2 := hD.bx.cell 2
  have f3 := hD.bx.cell 3
  have f4 := hD.bx.cell 4
  have f5 := hD.bx.cell 5
  have fz1 := hD.bx.frozen 1
  have fz2 := hD.bx.frozen 2
  have fz3 := hD.bx.frozen 3
  have fz4 := hD.bx.frozen 4
  have fz5 := hD.bx.frozen 5
  have fl := hD.bx.lt
  simp at f1 f2 f3 f4 f5
  clear hD
  go_enter Tryd.func31, Tryd.ntmps31
  go_wp2
  go_end0
  have hbx := (((((HD.out.bx.set 5 (.bool true)).set 1 (.bool false)).set 2 (.int .i64 0)).set 3 (.int .i64 0)).set 4 (.int .i64 0))
  exact ⟨rfl, HD.out.rig ((((((But.one _ _).setAt 5 _).setAt 1 _).setAt 2 _).setAt 3 _).setAt 4 _) (by simpa using hbx) ⟨by omega, by omega⟩ ⟨by omega, by omega⟩ ⟨by omega, by omega⟩, ((((((But.one _ _).setAt 5 _).setAt 1 _).setAt 2 _).setAt 3 _).setAt 4 _)⟩
/-- what armed answers -/
def armR (u : Int) : Value := if u < 0 then .agg #[.bool false, .int .i64 0] else .agg #[.bool true, .int .i64 u]
/-- what failing answers -/
def failR (a c : Int) : Value := if a < 0 ∨ c ≤ 0 then .agg #[.int .i64 0, .int .i64 0] else .agg #[.int .i64 a, .int .i64 c]
set_option maxHeartbeats 2000000 in
theorem darmed_any (u : Int) (w : World) : Calls Tryd.prog 38 #[.int .i64 u] w fun e w' => e = .returned (armR u) ∧ Below w.heap.size w w' := by
  obtain ⟨W, hW⟩ : ∃ V, V = w.alloc (.cells #[.bool false, .int .i64 0] 61) := ⟨_, rfl⟩
  have HB : Hid (Below w.heap.size w W) := by show Below _ _ _; rw [hW]; exact (Below.refl _ _).alloc (Nat.le_refl _) _
  have HX : Hid (Box W w.heap.size #[.bool false, .int .i64 0] 61) := by show Box _ _ _ _; rw [hW]; exact Box.new _ _ _
  have HW := hid hW
  clear hW
  go_enter Tryd.func38, Tryd.ntmps38
  go_upto_region 1 with fail
  rw [← HW.out]
  have f0 := HX.out.cell 0
  have f1 := HX.out.cell 1
  have fz0 := HX.out.frozen 0
  have fz1 := HX.out.frozen 1
  have fl := HX.out.lt
  simp at f0 f1
  by_cases h0 : u < 0
  · go_wp2
    have HE := ((HX.out.set 0 (.bool false)).set 1 (.int .i64 0))
    have e0 := HE.cell 0
    have e1 := HE.cell 1
    have el := HE.lt
    simp at e0 e1
    exact bodyPost_ret (v := .agg #[.bool false, .int .i64 0]) (by simp [results, Tryd.results38, go_sem, e0, e1]) rfl ⟨by rw [armR, if_pos h0], ((HB.out.setCell (p := ⟨w.heap.size, 0, none⟩) (by simp) _).setCell (p := ⟨w.heap.size, 1, none⟩) (by simp) _)⟩
  · go_wp2
    have HE := ((HX.out.set 0 (.bool true)).set 1 (.int .i64 u))
    have e0 := HE.cell 0
    have e1 := HE.cell 1
    have el := HE.lt
    simp at e0 e1
    exact bodyPost_ret (v := .agg #[.bool true, .int .i64 u]) (by simp [results, Tryd.results38, go_sem, e0, e1]) rfl ⟨by rw [armR, if_neg (by omega)], ((HB.out.setCell (p := ⟨w.heap.size, 0, none⟩) (by simp) _).setCell (p := ⟨w.heap.size, 1, none⟩) (by simp) _)⟩
set_option maxHeartbeats 2000000 in
theorem dfailing_any (a c : Int) (w : World) : Calls Tryd.prog 42 #[.int .i64 a, .int .i64 c] w fun e w' => e = .returned (failR a c) ∧ Below w.heap.size w w' := by
  obtain ⟨W, hW⟩ : ∃ V, V = w.alloc (.cells #[.int .i64 0, .int .i64 0] 63) := ⟨_, rfl⟩
  have HB : Hid (Below w.heap.size w W) := by show Below _ _ _; rw [hW]; exact (Below.refl _ _).alloc (Nat.le_refl _) _
  have HX : Hid (Box W w.heap.size #[.int .i64 0, .int .i64 0] 63) := by show Box _ _ _ _; rw [hW]; exact Box.new _ _ _
  have HW := hid hW
  clear hW
  go_enter Tryd.func42, Tryd.ntmps42
  go_upto_region 1 with fail
  rw [← HW.out]
  have f0 := HX.out.cell 0
  have f1 := HX.out.cell 1
  have fz0 := HX.out.frozen 0
  have fz1 := HX.out.frozen 1
  have fl := HX.out.lt
  simp at f0 f1
  by_cases h0 : a < 0
  · go_wp2
    have HE := ((HX.out.set 0 (.int .i64 0)).set 1 (.int .i64 0))
    have e0 := HE.cell 0
    have e1 := HE.cell 1
    have el := HE.lt
    simp at e0 e1
    exact bodyPost_ret (v := .agg #[.int .i64 0, .int .i64 0]) (by simp [results, Tryd.results42, go_sem, e0, e1]) rfl ⟨by rw [failR, if_pos (.inl h0)], ((HB.out.setCell (p := ⟨w.heap.size, 0, none⟩) (by simp) _).setCell (p := ⟨w.heap.size, 1, none⟩) (by simp) _)⟩
  · by_cases h1 : c ≤ 0
    · go_wp2
      have HE := ((HX.out.set 0 (.int .i64 0)).set 1 (.int .i64 0))
      have e0 := HE.cell 0
      have e1 := HE.cell 1
      have el := HE.lt
      simp at e0 e1
      exact bodyPost_ret (v := .agg #[.int .i64 0, .int .i64 0]) (by simp [results, Tryd.results42, go_sem, e0, e1]) rfl ⟨by rw [failR, if_pos (.inr h1)], ((HB.out.setCell (p := ⟨w.heap.size, 0, none⟩) (by simp) _).setCell (p := ⟨w.heap.size, 1, none⟩) (by simp) _)⟩
    · go_wp2
      have HE := ((HX.out.set 0 (.int .i64 a)).set 1 (.int .i64 c))
      have e0 := HE.cell 0
      have e1 := HE.cell 1
      have el := HE.lt
      simp at e0 e1
      exact bodyPost_ret (v := .agg #[.int .i64 a, .int .i64 c]) (by simp [results, Tryd.results42, go_sem, e0, e1]) rfl ⟨by rw [failR, if_neg (by omega)], ((HB.out.setCell (p := ⟨w.heap.size, 0, none⟩) (by simp) _).setCell (p := ⟨w.heap.size, 1, none⟩) (by simp) _)⟩
/-- the disk armed -/
def DK.armD (D : DK) (u : Int) : DK := if D.down = true then D else if u < 0 then D.rig false 0 D.after D.calls D.down else D.rig true u D.after D.calls D.down
def DK.failD (D : DK) (a c : Int) : DK := if D.down = true then D else if a < 0 ∨ c ≤ 0 then D.rig D.set D.units 0 0 D.down else D.rig D.set D.units a c D.down
theorem DkI.below {w w' : World} {C : Nat → Prop} {db : Nat} {D : DK} (h : DkI w C db D) (hb : Below w.heap.size w w') : DkI w' C db D := h.kept fun k _ hl => hb.block k hl
set_option maxHeartbeats 2000000 in
theorem darm_any (D : DK) (u : Int) (w : World) (C : Nat → Prop) (db : Nat) (hD : DkI w C db D) (hu : u ≤ 9223372036854775807) :
    Calls Tryd.prog 20 #[.pointer (some ⟨db, 0, none⟩), .int .i64 u] w fun e w' => e = .returned (.tuple #[]) ∧ RigQ (D.armD u) C db w w' := by
  have HD := hid hD
  have f1 := hD.bx.cell 1
  have f2 := hD.bx.cell 2
  have f3 := hD.bx.cell 3
  have f4 := hD.bx.cell 4
  have f5 := hD.bx.cell 5
  have fz1 := hD.bx.frozen 1
  have fz2 := hD.bx.frozen 2
  have fz3 := hD.bx.frozen 3
  have fz4 := hD.bx.frozen 4
  have fz5 := hD.bx.frozen 5
  have fl := hD.bx.lt
  simp at f1 f2 f3 f4 f5
  clear hD
  have HA := hid (darmed_any u w)
  cases hdn : D.down with
  | true =>
    rw [hdn] at f5
    have HR : Hid (D.armD u = D) := by show D.armD u = D; rw [DK.armD, if_pos hdn]
    go_enter Tryd.func20, Tryd.ntmps20
    go_wp2
    exact bodyPost_ret (v := .tuple #[]) (by simp [results, Tryd.results20, go_sem]) rfl ⟨rfl, by rw [HR.out]; exact ⟨HD.out, But.refl _ _⟩⟩
  | false =>
    rw [hdn] at f5
    go_enter Tryd.func20, Tryd.ntmps20
    go_wp2_with fail
    by_cases h0 : u < 0
    · have HR : Hid (D.armD u = D.rig false 0 D.after D.calls D.down) := by show D.armD u = _; rw [DK.armD, if_neg (by rw [hdn]; simp), if_pos h0]
      have HV : Hid (armR u = .agg #[.bool false, .int .i64 0]) := by show armR u = _; rw [armR, if_pos h0]
      refine HA.out.mono ?_
      rw [HV.out]
      rintro e w1 ⟨rfl, hb1⟩
      have HB1 := hid hb1
      have HD1 := hid (HD.out.below hb1)
      clear hb1 f1 f2 f3 f4 f5 fz1 fz2 fz3 fz4 fz5 fl
      have f1 := HD1.out.bx.cell 1
      have f2 := HD1.out.bx.cell 2
      have f3 := HD1.out.bx.cell 3
      have f4 := HD1.out.bx.cell 4
      have f5 := HD1.out.bx.cell 5
      have fz1 := HD1.out.bx.frozen 1
      have fz2 := HD1.out.bx.frozen 2
      have fz3 := HD1.out.bx.frozen 3
      have fz4 := HD1.out.bx.frozen 4
      have fz5 := HD1.out.bx.frozen 5
      have fl := HD1.out.bx.lt
      simp at f1 f2 f3 f4 f5
      go_wp2
      go_end0
      rw [HR.out]
      have hbx := ((HD1.out.bx.set 1 (.bool false)).set 2 (.int .i64 0))
      exact ⟨rfl, HD1.out.rig (((But.one _ _).setAt 1 _).setAt 2 _) (by simpa using hbx) ⟨by omega, by omega⟩ HD.out.ba HD.out.bc, (But.ofBelow HB1.out).trans (((But.one _ _).setAt 1 _).setAt 2 _)⟩
    · have HR : Hid (D.armD u = D.rig true u D.after D.calls D.down) := by show D.armD u = _; rw [DK.armD, if_neg (by rw [hdn]; simp), if_neg h0]
      have HV : Hid (armR u = .agg #[.bool true, .int .i64 u]) := by show armR u = _; rw [armR, if_neg h0]
      refine HA.out.mono ?_
      rw [HV.out]
      rintro e w1 ⟨rfl, hb1⟩
      have HB1 := hid hb1
      have HD1 := hid (HD.out.below hb1)
      clear hb1 f1 f2 f3 f4 f5 fz1 fz2 fz3 fz4 fz5 fl
      have f1 := HD1.out.bx.cell 1
      have f2 := HD1.out.bx.cell 2
      have f3 := HD1.out.bx.cell 3
      have f4 := HD1.out.bx.cell 4
      have f5 := HD1.out.bx.cell 5
      have fz1 := HD1.out.bx.frozen 1
      have fz2 := HD1.out.bx.frozen 2
      have fz3 := HD1.out.bx.frozen 3
      have fz4 := HD1.out.bx.frozen 4
      have fz5 := HD1.out.bx.frozen 5
      have fl := HD1.out.bx.lt
      simp at f1 f2 f3 f4 f5
      go_wp2
      go_end0
      rw [HR.out]
      have hbx := ((HD1.out.bx.set 1 (.bool true)).set 2 (.int .i64 u))
      exact ⟨rfl, HD1.out.rig (((But.one _ _).setAt 1 _).setAt 2 _) (by simpa using hbx) ⟨by omega, by omega⟩ HD.out.ba HD.out.bc, (But.ofBelow HB1.out).trans (((But.one _ _).setAt 1 _).setAt 2 _)⟩
set_option maxHeartbeats 2000000 in
theorem dfail_any (D : DK) (a c : Int) (w : World) (C : Nat → Prop) (db : Nat) (hD : DkI w C db D) (ha : a ≤ 9223372036854775807) (hc : c ≤ 9223372036854775807) :
    Calls Tryd.prog 24 #[.pointer (some ⟨db, 0, none⟩), .int .i64 a, .int .i64 c] w fun e w' => e = .returned (.tuple #[]) ∧ RigQ (D.failD a c) C db w w' := by
  have HD := hid hD
  have f1 := hD.bx.cell 1
  have f2 := hD.bx.cell 2
  have f3 := hD.bx.cell 3
  have f4 := hD.bx.cell 4
  have f5 := hD.bx.cell 5
  have fz1 := hD.bx.frozen 1
  have fz2 := hD.bx.frozen 2
  have fz3 := hD.bx.frozen 3
  have fz4 := hD.bx.frozen 4
  have fz5 := hD.bx.frozen 5
  have fl := hD.bx.lt
  simp at f1 f2 f3 f4 f5
  clear hD
  have HA := hid (dfailing_any a c w)
  cases hdn : D.down with
  | true =>
    rw [hdn] at f5
    have HR : Hid (D.failD a c = D) := by show D.failD a c = D; rw [DK.failD, if_pos hdn]
    go_enter Tryd.func24, Tryd.ntmps24
    go_wp2
    exact bodyPost_ret (v := .tuple #[]) (by simp [results, Tryd.results24, go_sem]) rfl ⟨rfl, by rw [HR.out]; exact ⟨HD.out, But.refl _ _⟩⟩
  | false =>
    rw [hdn] at f5
    go_enter Tryd.func24, Tryd.ntmps24
    go_wp2_with fail
    by_cases h0 : a < 0 ∨ c ≤ 0
    · have HR : Hid (D.failD a c = D.rig D.set D.units 0 0 D.down) := by show D.failD a c = _; rw [DK.failD, if_neg (by rw [hdn]; simp), if_pos h0]
      have HV : Hid (failR a c = .agg #[.int .i64 0, .int .i64 0]) := by show failR a c = _; rw [failR, if_pos h0]
      refine HA.out.mono ?_
      rw [HV.out]
      rintro e w1 ⟨rfl, hb1⟩
      have HB1 := hid hb1
      have HD1 := hid (HD.out.below hb1)
      clear hb1 f1 f2 f3 f4 f5 fz1 fz2 fz3 fz4 fz5 fl
      have f1 := HD1.out.bx.cell 1
      have f2 := HD1.out.bx.cell 2
      have f3 := HD1.out.bx.cell 3
      have f4 := HD1.out.bx.cell 4
      have f5 := HD1.out.bx.cell 5
      have fz1 := HD1.out.bx.frozen 1
      have fz2 := HD1.out.bx.frozen 2
      have fz3 := HD1.out.bx.frozen 3
      have fz4 := HD1.out.bx.frozen 4
      have fz5 := HD1.out.bx.frozen 5
      have fl := HD1.out.bx.lt
      simp at f1 f2 f3 f4 f5
      go_wp2
      go_end0
      rw [HR.out]
      have hbx := ((HD1.out.bx.set 3 (.int .i64 0)).set 4 (.int .i64 0))
      exact ⟨rfl, HD1.out.rig (((But.one _ _).setAt 3 _).setAt 4 _) (by simpa using hbx) HD.out.bu ⟨by omega, by omega⟩ ⟨by omega, by omega⟩, (But.ofBelow HB1.out).trans (((But.one _ _).setAt 3 _).setAt 4 _)⟩
    · have HR : Hid (D.failD a c = D.rig D.set D.units a c D.down) := by show D.failD a c = _; rw [DK.failD, if_neg (by rw [hdn]; simp), if_neg h0]
      have HV : Hid (failR a c = .agg #[.int .i64 a, .int .i64 c]) := by show failR a c = _; rw [failR, if_neg h0]
      refine HA.out.mono ?_
      rw [HV.out]
      rintro e w1 ⟨rfl, hb1⟩
      have HB1 := hid hb1
      have HD1 := hid (HD.out.below hb1)
      clear hb1 f1 f2 f3 f4 f5 fz1 fz2 fz3 fz4 fz5 fl
      have f1 := HD1.out.bx.cell 1
      have f2 := HD1.out.bx.cell 2
      have f3 := HD1.out.bx.cell 3
      have f4 := HD1.out.bx.cell 4
      have f5 := HD1.out.bx.cell 5
      have fz1 := HD1.out.bx.frozen 1
      have fz2 := HD1.out.bx.frozen 2
      have fz3 := HD1.out.bx.frozen 3
      have fz4 := HD1.out.bx.frozen 4
      have fz5 := HD1.out.bx.frozen 5
      have fl := HD1.out.bx.lt
      simp at f1 f2 f3 f4 f5
      go_wp2
      go_end0
      rw [HR.out]
      have hbx := ((HD1.out.bx.set 3 (.int .i64 a)).set 4 (.int .i64 c))
      exact ⟨rfl, HD1.out.rig (((But.one _ _).setAt 3 _).setAt 4 _) (by simpa using hbx) HD.out.bu ⟨by omega, by omega⟩ ⟨by omega, by omega⟩, (But.ofBelow HB1.out).trans (((But.one _ _).setAt 3 _).setAt 4 _)⟩
end Go.Proofs.YtkfcilandmhomaaDoor

namespace Go.Proofs.YtkfcilandmhomaaDoor
open Go.RowKit
set_option maxRecDepth 8000
/-- the rigs as they can be -/
structure DK.Ok (D : DK) : Prop where
  arm : D.set = false → D.units = 0
  fail : D.calls = 0 → D.after = 0
/-- a call counted: the disk behind it, and does it fail? -/
def DK.cnt (D : DK) : DK := if D.calls = 0 then D else if 0 < D.after then D.rig D.set D.units (D.after - 1) D.calls D.down else D.rig D.set D.units D.after (D.calls - 1) D.down
def DK.cntB (D : DK) : Bool := decide (D.calls ≠ 0) && decide (D.after ≤ 0)
def CntQ (D : DK) (C : Nat → Prop) (db : Nat) (w : World) (e : Ending) (w' : World) : Prop := e = .returned (.bool D.cntB) ∧ RigQ D.cnt C db w w'
set_option maxHeartbeats 4000000 in
theorem dcounts_any (D : DK) (w : World) (C : Nat → Prop) (db : Nat) (hD : DkI w C db D) (hO : D.Ok) :
    Calls Tryd.prog 49 #[.pointer (some ⟨db, 3, none⟩)] w fun e w' => CntQ D C db w e w' := by
  have HD := hid hD
  have f1 := hD.bx.cell 1
  have f2 := hD.bx.cell 2
  have f3 := hD.bx.cell 3
  have f4 := hD.bx.cell 4
  have f5 := hD.bx.cell 5
  have fz1 := hD.bx.frozen 1
  have fz2 := hD.bx.frozen 2
  have fz3 := hD.bx.frozen 3
  have fz4 := hD.bx.frozen 4
  have fz5 := hD.bx.frozen 5
  have fl := hD.bx.lt
  simp at f1 f2 f3 f4 f5
  clear hD
  have hba := HD.out.ba
  have hbc := HD.out.bc
  by_cases h0 : D.calls = 0
  · have h1 := hO.fail h0
    rw [h0] at f4
    rw [h1] at f3
    have HR : Hid (D.cnt = D) := by show D.cnt = D; rw [DK.cnt, if_pos h0]
    have HRb : Hid (D.cntB = false) := by show D.cntB = false; simp [DK.cntB, h0]
    go_enter Tryd.func49, Tryd.ntmps49
    go_wp2
    exact bodyPost_ret (v := .bool false) (by simp [results, Tryd.results49, go_sem]) rfl ⟨by rw [HRb.out], by rw [HR.out]; exact ⟨HD.out, But.refl _ _⟩⟩
  · by_cases h1 : 0 < D.after
    · have HR : Hid (D.cnt = D.rig D.set D.units (D.after - 1) D.calls D.down) := by show D.cnt = _; rw [DK.cnt, if_neg h0, if_pos h1]
      have HRb : Hid (D.cntB = false) := by show D.cntB = false; simp [DK.cntB, h0]; omega
      go_enter Tryd.func49, Tryd.ntmps49
      go_wp2
      have hbx := (HD.out.bx.set 3 (.int .i64 (D.after - 1)))
      exact bodyPost_ret (v := .bool false) (by simp [results, Tryd.results49, go_sem]) rfl ⟨by rw [HRb.out], by rw [HR.out]; exact ⟨HD.out.rig ((But.one _ _).setAt 3 _) (by simpa using hbx) HD.out.bu ⟨by omega, by omega⟩ HD.out.bc, ((But.one _ _).setAt 3 _)⟩⟩
    · have HR : Hid (D.cnt = D.rig D.set D.units D.after (D.calls - 1) D.down) := by show D.cnt = _; rw [DK.cnt, if_neg h0, if_neg h1]
      have HRb : Hid (D.cntB = true) := by show D.cntB = true; simp [DK.cntB, h0]; omega
      go_enter Tryd.func49, Tryd.ntmps49
      go_wp2
      have hbx := (HD.out.bx.set 4 (.int .i64 (D.calls - 1)))
      exact bodyPost_ret (v := .bool true) (by simp [results, Tryd.results49, go_sem]) rfl ⟨by rw [HRb.out], by rw [HR.out]; exact ⟨HD.out.rig ((But.one _ _).setAt 4 _) (by simpa using hbx) HD.out.bu HD.out.ba ⟨by omega, by omega⟩, ((But.one _ _).setAt 4 _)⟩⟩
/-- a call paid for: the disk behind it -/
def DK.pays (D : DK) (cost : Int) : DK := if D.set = false then D else if cost ≤ D.units then D.rig D.set (D.units - cost) D.after D.calls D.down else D.fell
def DK.payV (D : DK) (cost : Int) : Value := if D.set = false then .tuple #[.int .i64 cost, .int .i64 0] else if cost ≤ D.units then .tuple #[.int .i64 cost, .int .i64 0] else .tuple #[.int .i64 D.units, .int .i64 100]
def PayQ (D : DK) (cost : Int) (C : Nat → Prop) (db : Nat) (w : World) (e : Ending) (w' : World) : Prop := e = .returned (D.payV cost) ∧ RigQ (D.pays cost) C db w w'
set_option maxHeartbeats 4000000 in
theorem dpay_any (D : DK) (cost : Int) (w : World) (C : Nat → Prop) (db : Nat) (hD : DkI w C db D) (hO : D.Ok) (hc0 : 0 ≤ cost) :
    Calls Tryd.prog 40 #[.pointer (some ⟨db, 0, none⟩), .int .i64 cost] w fun e w' => PayQ D cost C db w e w' := by
  have HD := hid hD
  have f1 := hD.bx.cell 1
  have f2 := hD.bx.cell 2
  have f3 := hD.bx.cell 3
  have f4 := hD.bx.cell 4
  have f5 := hD.bx.cell 5
  have fz1 := hD.bx.frozen 1
  have fz2 := hD.bx.frozen 2
  have fz3 := hD.bx.frozen 3
  have fz4 := hD.bx.frozen 4
  have fz5 := hD.bx.frozen 5
  have fl := hD.bx.lt
  simp at f1 f2 f3 f4 f5
  clear hD
  have hbu := HD.out.bu
  have HCr := hid (dcrash_any D w C db HD.out)
  cases hs : D.set with
  | false =>
    have h1 := hO.arm hs
    rw [hs] at f1
    rw [h1] at f2
    have HR : Hid (D.pays cost = D) := by show D.pays cost = D; rw [DK.pays, if_pos hs]
    have HV : Hid (D.payV cost = .tuple #[.int .i64 cost, .int .i64 0]) := by show D.payV cost = _; rw [DK.payV, if_pos hs]
    go_enter Tryd.func40, Tryd.ntmps40
    go_wp2
    exact bodyPost_ret (v := .tuple #[.int .i64 cost, .int .i64 0]) (by simp [results, Tryd.results40, go_sem]) rfl ⟨by rw [HV.out], by rw [HR.out]; exact ⟨HD.out, But.refl _ _⟩⟩
  | true =>
    rw [hs] at f1
    have hns : ¬ D.set = false := by rw [hs]; simp
    by_cases h1 : cost ≤ D.units
    · have HR : Hid (D.pays cost = D.rig D.set (D.units - cost) D.after D.calls D.down) := by show D.pays cost = _; rw [DK.pays, if_neg hns, if_pos h1]
      have HV : Hid (D.payV cost = .tuple #[.int .i64 cost, .int .i64 0]) := by show D.payV cost = _; rw [DK.payV, if_neg hns, if_pos h1]
      clear hns
      go_enter Tryd.func40, Tryd.ntmps40
      go_wp2
      have hbx := (HD.out.bx.set 2 (.int .i64 (D.units - cost)))
      exact bodyPost_ret (v := .tuple #[.int .i64 cost, .int .i64 0]) (by simp [results, Tryd.results40, go_sem]) rfl ⟨by rw [HV.out], by rw [HR.out]; exact ⟨HD.out.rig ((But.one _ _).setAt 2 _) (by simpa using hbx) ⟨by omega, by omega⟩ HD.out.ba HD.out.bc, ((But.one _ _).setAt 2 _)⟩⟩
    · have HR : Hid (D.pays cost = D.fell) := by show D.pays cost = _; rw [DK.pays, if_neg hns, if_neg h1]
      have HV : Hid (D.payV cost = .tuple #[.int .i64 D.units, .int .i64 100]) := by show D.payV cost = _; rw [DK.payV, if_neg hns, if_neg h1]
      clear hns
      go_enter Tryd.func40, Tryd.ntmps40
      go_wp2_with fail
      refine HCr.out.mono ?_
      rintro e w1 ⟨rfl, hQ⟩
      have HQ := hid hQ
      clear hQ
      go_wp2
      exact bodyPost_ret (v := .tuple #[.int .i64 D.units, .int .i64 100]) (by simp [results, Tryd.results40, go_sem]) rfl ⟨by rw [HV.out], by rw [HR.out]; exact HQ.out⟩
end Go.Proofs.YtkfcilandmhomaaDoor

namespace Go.Proofs.YtkfcilandmhomaaDoor
open Go.RowKit
set_option maxRecDepth 8000
theorem labV_z : labV ⟨#[]⟩ = .agg #[.int .u8 0, .int .u8 0, .int .u8 0, .int .u8 0, .int .u8 0, .int .u8 0, .int .u8 0, .int .u8 0, .int .u8 0, .int .u8 0, .int .u8 0, .int .u8 0] := by
  have hb : ∀ i, bat ⟨#[]⟩ i = 0 := fun i => by unfold bat; rw [dif_neg (by simp [ByteArray.size])]
  simp [labV, labC, hb]
theorem labV_at (s : ByteArray) : labV s = .agg #[.int .u8 (bat s 0), .int .u8 (bat s 1), .int .u8 (bat s 2), .int .u8 (bat s 3), .int .u8 (bat s 4), .int .u8 (bat s 5), .int .u8 (bat s 6), .int .u8 (bat s 7), .int .u8 (bat s 8), .int .u8 (bat s 9), .int .u8 (bat s 10), .int .u8 (bat s 11)] := rfl
def reachE (D : DK) (s : ByteArray) : Int := if nmB s = false then 102 else if D.down = true then 100 else 0
def ReachQ (D : DK) (s : ByteArray) (w : World) (e : Ending) (w' : World) : Prop :=
  ∃ t, e = .returned (.tuple #[labV t, .int .i64 (reachE D s)]) ∧ (reachE D s = 0 → t = s ∧ Nm s) ∧ Below w.heap.size w w'
set_option maxHeartbeats 8000000 in
theorem dreach_any (D : DK) (s : ByteArray) (w : World) (C : Nat → Prop) (db : Nat) (hD : DkI w C db D) (hmx : s.size ≤ 140737488355328) :
    Calls Tryd.prog 37 #[.pointer (some ⟨db, 0, none⟩), .string s] w fun e w' => ReachQ D s w e w' := by
  have HD := hid hD
  clear hD
  obtain ⟨W, hW⟩ : ∃ V, V = w.alloc (.cells #[.int .u8 0, .int .u8 0, .int .u8 0, .int .u8 0, .int .u8 0, .int .u8 0, .int .u8 0, .int .u8 0, .int .u8 0, .int .u8 0, .int .u8 0, .int .u8 0] 69) := ⟨_, rfl⟩
  have HB : Hid (Below w.heap.size w W) := by show Below _ _ _; rw [hW]; exact (Below.refl _ _).alloc (Nat.le_refl _) _
  have HX : Hid (Box W w.heap.size #[.int .u8 0, .int .u8 0, .int .u8 0, .int .u8 0, .int .u8 0, .int .u8 0, .int .u8 0, .int .u8 0, .int .u8 0, .int .u8 0, .int .u8 0, .int .u8 0] 69) := by show Box _ _ _ _; rw [hW]; exact Box.new _ _ _
  have HW := hid hW
  clear hW
  have HLb := hid (labelOf_any s W hmx)
  go_enter Tryd.func37, Tryd.ntmps37
  go_upto_region 1 with fail
  rw [← HW.out]
  go_wp2_with fail
  refine HLb.out.mono ?_
  rintro e w2 ⟨rfl, hb2⟩
  have HB2 : Hid (Below w.heap.size w w2) := HB.out.trans (hb2.mono HB.out.size)
  have HX2 := hid (HX.out.below hb2)
  clear hb2
  cases hnb : nmB s with
  | false =>
    rw [labR_no hnb]
    have HR : Hid (reachE D s = 102) := by show reachE D s = 102; rw [reachE, if_pos hnb]
    obtain ⟨W3, hW3⟩ : ∃ V, V = w2.alloc (.cells #[.int .u8 0, .int .u8 0, .int .u8 0, .int .u8 0, .int .u8 0, .int .u8 0, .int .u8 0, .int .u8 0, .int .u8 0, .int .u8 0, .int .u8 0, .int .u8 0] 69) := ⟨_, rfl⟩
    have HB3 : Hid (Below w.heap.size w W3) := by show Below _ _ _; rw [hW3]; exact HB2.out.trans (((Below.refl _ _).alloc (Nat.le_refl _) _).mono HB2.out.size)
    have HX3 : Hid (Box W3 w.heap.size #[.int .u8 0, .int .u8 0, .int .u8 0, .int .u8 0, .int .u8 0, .int .u8 0, .int .u8 0, .int .u8 0, .int .u8 0, .int .u8 0, .int .u8 0, .int .u8 0] 69) := by show Box _ _ _ _; rw [hW3]; exact HX2.out.below ((Below.refl _ _).alloc (Nat.le_refl _) _)
    have HW3 := hid hW3
    clear hW3
    go_upto_region 2 with fail
    rw [← HW3.out]
    have x0 := HX3.out.cell 0
    have x1 := HX3.out.cell 1
    have x2 := HX3.out.cell 2
    have x3 := HX3.out.cell 3
    have x4 := HX3.out.cell 4
    have x5 := HX3.out.cell 5
    have x6 := HX3.out.cell 6
    have x7 := HX3.out.cell 7
    have x8 := HX3.out.cell 8
    have x9 := HX3.out.cell 9
    have x10 := HX3.out.cell 10
    have x11 := HX3.out.cell 11
    have xz0 := HX3.out.frozen 0
    have xz1 := HX3.out.frozen 1
    have xz2 := HX3.out.frozen 2
    have xz3 := HX3.out.frozen 3
    have xz4 := HX3.out.frozen 4
    have xz5 := HX3.out.frozen 5
    have xz6 := HX3.out.frozen 6
    have xz7 := HX3.out.frozen 7
    have xz8 := HX3.out.frozen 8
    have xz9 := HX3.out.frozen 9
    have xz10 := HX3.out.frozen 10
    have xz11 := HX3.out.frozen 11
    have xl := HX3.out.lt
    simp at x0 x1 x2 x3 x4 x5 x6 x7 x8 x9 x10 x11
    go_wp2
    have HE := ((((((((((((HX3.out.set 0 (.int .u8 0)).set 1 (.int .u8 0)).set 2 (.int .u8 0)).set 3 (.int .u8 0)).set 4 (.int .u8 0)).set 5 (.int .u8 0)).set 6 (.int .u8 0)).set 7 (.int .u8 0)).set 8 (.int .u8 0)).set 9 (.int .u8 0)).set 10 (.int .u8 0)).set 11 (.int .u8 0))
    have e0 := HE.cell 0
    have e1 := HE.cell 1
    have e2 := HE.cell 2
    have e3 := HE.cell 3
    have e4 := HE.cell 4
    have e5 := HE.cell 5
    have e6 := HE.cell 6
    have e7 := HE.cell 7
    have e8 := HE.cell 8
    have e9 := HE.cell 9
    have e10 := HE.cell 10
    have e11 := HE.cell 11
    have el := HE.lt
    simp at e0 e1 e2 e3 e4 e5 e6 e7 e8 e9 e10 e11
    exact bodyPost_ret (v := .tuple #[.agg #[.int .u8 0, .int .u8 0, .int .u8 0, .int .u8 0, .int .u8 0, .int .u8 0, .int .u8 0, .int .u8 0, .int .u8 0, .int .u8 0, .int .u8 0, .int .u8 0], .int .i64 102]) (by simp [results, Tryd.results37, go_sem, e0, e1, e2, e3, e4, e5, e6, e7, e8, e9, e10, e11]) rfl ⟨⟨#[]⟩, by rw [HR.out, labV_z], fun h => absurd h (by rw [HR.out]; decide), ((((((((((((HB3.out.setCell (p := ⟨w.heap.size, 0, none⟩) (by simp) _).setCell (p := ⟨w.heap.size, 1, none⟩) (by simp) _).setCell (p := ⟨w.heap.size, 2, none⟩) (by simp) _).setCell (p := ⟨w.heap.size, 3, none⟩) (by simp) _).setCell (p := ⟨w.heap.size, 4, none⟩) (by simp) _).setCell (p := ⟨w.heap.size, 5, none⟩) (by simp) _).setCell (p := ⟨w.heap.size, 6, none⟩) (by simp) _).setCell (p := ⟨w.heap.size, 7, none⟩) (by simp) _).setCell (p := ⟨w.heap.size, 8, none⟩) (by simp) _).setCell (p := ⟨w.heap.size, 9, none⟩) (by simp) _).setCell (p := ⟨w.heap.size, 10, none⟩) (by simp) _).setCell (p := ⟨w.heap.size, 11, none⟩) (by simp) _)⟩
  | true =>
    rw [labR_yes hnb, labV_at]
    obtain ⟨W3, hW3⟩ : ∃ V, V = w2.alloc (.cells #[.int .u8 (bat s 0), .int .u8 (bat s 1), .int .u8 (bat s 2), .int .u8 (bat s 3), .int .u8 (bat s 4), .int .u8 (bat s 5), .int .u8 (bat s 6), .int .u8 (bat s 7), .int .u8 (bat s 8), .int .u8 (bat s 9), .int .u8 (bat s 10), .int .u8 (bat s 11)] 69) := ⟨_, rfl⟩
    have HBx : Hid (Below w2.heap.size w2 W3) := by show Below _ _ _; rw [hW3]; exact (Below.refl _ _).alloc (Nat.le_refl _) _
    have HB3 : Hid (Below w.heap.size w W3) := HB2.out.trans (HBx.out.mono HB2.out.size)
    have HX3 : Hid (Box W3 w.heap.size #[.int .u8 0, .int .u8 0, .int .u8 0, .int .u8 0, .int .u8 0, .int .u8 0, .int .u8 0, .int .u8 0, .int .u8 0, .int .u8 0, .int .u8 0, .int .u8 0] 69) := HX2.out.below HBx.out
    have HY3 : Hid (Box W3 w2.heap.size #[.int .u8 (bat s 0), .int .u8 (bat s 1), .int .u8 (bat s 2), .int .u8 (bat s 3), .int .u8 (bat s 4), .int .u8 (bat s 5), .int .u8 (bat s 6), .int .u8 (bat s 7), .int .u8 (bat s 8), .int .u8 (bat s 9), .int .u8 (bat s 10), .int .u8 (bat s 11)] 69) := by show Box _ _ _ _; rw [hW3]; exact Box.new _ _ _
    have HD3 : Hid (DkI W3 C db D) := HD.out.below HB3.out
    have HW3 := hid hW3
    clear hW3
    go_upto_region 2 with fail
    rw [← HW3.out]
    have x0 := HX3.out.cell 0
    have x1 := HX3.out.cell 1
    have x2 := HX3.out.cell 2
    have x3 := HX3.out.cell 3
    have x4 := HX3.out.cell 4
    have x5 := HX3.out.cell 5
    have x6 := HX3.out.cell 6
    have x7 := HX3.out.cell 7
    have x8 := HX3.out.cell 8
    have x9 := HX3.out.cell 9
    have x10 := HX3.out.cell 10
    have x11 := HX3.out.cell 11
    have xz0 := HX3.out.frozen 0
    have xz1 := HX3.out.frozen 1
    have xz2 := HX3.out.frozen 2
    have xz3 := HX3.out.frozen 3
    have xz4 := HX3.out.frozen 4
    have xz5 := HX3.out.frozen 5
    have xz6 := HX3.out.frozen 6
    have xz7 := HX3.out.frozen 7
    have xz8 := HX3.out.frozen 8
    have xz9 := HX3.out.frozen 9
    have xz10 := HX3.out.frozen 10
    have xz11 := HX3.out.frozen 11
    have xl := HX3.out.lt
    simp at x0 x1 x2 x3 x4 x5 x6 x7 x8 x9 x10 x11
    have d5 := HD3.out.bx.cell 5
    simp at d5
    cases hdn : D.down with
    | true =>
      rw [hdn] at d5
      have HR : Hid (reachE D s = 100) := by show reachE D s = 100; rw [reachE, if_neg (by rw [hnb]; simp), if_pos hdn]
      go_wp2
      have HE := ((((((((((((HX3.out.set 0 (.int .u8 0)).set 1 (.int .u8 0)).set 2 (.int .u8 0)).set 3 (.int .u8 0)).set 4 (.int .u8 0)).set 5 (.int .u8 0)).set 6 (.int .u8 0)).set 7 (.int .u8 0)).set 8 (.int .u8 0)).set 9 (.int .u8 0)).set 10 (.int .u8 0)).set 11 (.int .u8 0))
      have e0 := HE.cell 0
      have e1 := HE.cell 1
      have e2 := HE.cell 2
      have e3 := HE.cell 3
      have e4 := HE.cell 4
      have e5 := HE.cell 5
      have e6 := HE.cell 6
      have e7 := HE.cell 7
      have e8 := HE.cell 8
      have e9 := HE.cell 9
      have e10 := HE.cell 10
      have e11 := HE.cell 11
      have el := HE.lt
      simp at e0 e1 e2 e3 e4 e5 e6 e7 e8 e9 e10 e11
      exact bodyPost_ret (v := .tuple #[.agg #[.int .u8 0, .int .u8 0, .int .u8 0, .int .u8 0, .int .u8 0, .int .u8 0, .int .u8 0, .int .u8 0, .int .u8 0, .int .u8 0, .int .u8 0, .int .u8 0], .int .i64 100]) (by simp [results, Tryd.results37, go_sem, e0, e1, e2, e3, e4, e5, e6, e7, e8, e9, e10, e11]) rfl ⟨⟨#[]⟩, by rw [HR.out, labV_z], fun h => absurd h (by rw [HR.out]; decide), ((((((((((((HB3.out.setCell (p := ⟨w.heap.size, 0, none⟩) (by simp) _).setCell (p := ⟨w.heap.size, 1, none⟩) (by simp) _).setCell (p := ⟨w.heap.size, 2, none⟩) (by simp) _).setCell (p := ⟨w.heap.size, 3, none⟩) (by simp) _).setCell (p := ⟨w.heap.size, 4, none⟩) (by simp) _).setCell (p := ⟨w.heap.size, 5, none⟩) (by simp) _).setCell (p := ⟨w.heap.size, 6, none⟩) (by simp) _).setCell (p := ⟨w.heap.size, 7, none⟩) (by simp) _).setCell (p := ⟨w.heap.size, 8, none⟩) (by simp) _).setCell (p := ⟨w.heap.size, 9, none⟩) (by simp) _).setCell (p := ⟨w.heap.size, 10, none⟩) (by simp) _).setCell (p := ⟨w.heap.size, 11, none⟩) (by simp) _)⟩
    | false =>
      rw [hdn] at d5
      have HR : Hid (reachE D s = 0) := by show reachE D s = 0; rw [reachE, if_neg (by rw [hnb]; simp), if_neg (by rw [hdn]; simp)]
      have y0 := HY3.out.cell 0
      have y1 := HY3.out.cell 1
      have y2 := HY3.out.cell 2
      have y3 := HY3.out.cell 3
      have y4 := HY3.out.cell 4
      have y5 := HY3.out.cell 5
      have y6 := HY3.out.cell 6
      have y7 := HY3.out.cell 7
      have y8 := HY3.out.cell 8
      have y9 := HY3.out.cell 9
      have y10 := HY3.out.cell 10
      have y11 := HY3.out.cell 11
      have yl := HY3.out.lt
      simp at y0 y1 y2 y3 y4 y5 y6 y7 y8 y9 y10 y11
      go_wp2
      have HE := ((((((((((((HX3.out.set 0 (.int .u8 (bat s 0))).set 1 (.int .u8 (bat s 1))).set 2 (.int .u8 (bat s 2))).set 3 (.int .u8 (bat s 3))).set 4 (.int .u8 (bat s 4))).set 5 (.int .u8 (bat s 5))).set 6 (.int .u8 (bat s 6))).set 7 (.int .u8 (bat s 7))).set 8 (.int .u8 (bat s 8))).set 9 (.int .u8 (bat s 9))).set 10 (.int .u8 (bat s 10))).set 11 (.int .u8 (bat s 11)))
      have e0 := HE.cell 0
      have e1 := HE.cell 1
      have e2 := HE.cell 2
      have e3 := HE.cell 3
      have e4 := HE.cell 4
      have e5 := HE.cell 5
      have e6 := HE.cell 6
      have e7 := HE.cell 7
      have e8 := HE.cell 8
      have e9 := HE.cell 9
      have e10 := HE.cell 10
      have e11 := HE.cell 11
      have el := HE.lt
      simp at e0 e1 e2 e3 e4 e5 e6 e7 e8 e9 e10 e11
      exact bodyPost_ret (v := .tuple #[.agg #[.int .u8 (bat s 0), .int .u8 (bat s 1), .int .u8 (bat s 2), .int .u8 (bat s 3), .int .u8 (bat s 4), .int .u8 (bat s 5), .int .u8 (bat s 6), .int .u8 (bat s 7), .int .u8 (bat s 8), .int .u8 (bat s 9), .int .u8 (bat s 10), .int .u8 (bat s 11)], .int .i64 0]) (by simp [results, Tryd.results37, go_sem, e0, e1, e2, e3, e4, e5, e6, e7, e8, e9, e10, e11]) rfl ⟨s, by rw [HR.out, labV_at], fun _ => ⟨rfl, (nmB_iff s).1 hnb⟩, ((((((((((((HB3.out.setCell (p := ⟨w.heap.size, 0, none⟩) (by simp) _).setCell (p := ⟨w.heap.size, 1, none⟩) (by simp) _).setCell (p := ⟨w.heap.size, 2, none⟩) (by simp) _).setCell (p := ⟨w.heap.size, 3, none⟩) (by simp) _).setCell (p := ⟨w.heap.size, 4, none⟩) (by simp) _).setCell (p := ⟨w.heap.size, 5, none⟩) (by simp) _).setCell (p := ⟨w.heap.size, 6, none⟩) (by simp) _).setCell (p := ⟨w.heap.size, 7, none⟩) (by simp) _).setCell (p := ⟨w.heap.size, 8, none⟩) (by simp) _).setCell (p := ⟨w.heap.size, 9, none⟩) (by simp) _).setCell (p := ⟨w.heap.size, 10, none⟩) (by simp) _).setCell (p := ⟨w.heap.size, 11, none⟩) (by simp) _)⟩
end Go.Proofs.YtkfcilandmhomaaDoor
