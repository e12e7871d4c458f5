import Derived.Test.YtkfcilandmhomaaDoorPack18
namespace Go.Proofs.YtkfcilandmhomaaDoor
open Go.RowKit
set_option maxRecDepth 8000
theorem DkI.low_ {w : World} {C : Nat → Prop} {db : Nat} {D : DK} (h : DkI w C db D) : DkI w (fun k => C k ∧ k < w.heap.size) db D := h.mono fun _ hk hl => ⟨hk, hl⟩
def begE (D : DK) (s : ByteArray) : Int := if reachE D s = 0 then (if D.cntB = true then 101 else 0) else reachE D s
def begD (D : DK) (s : ByteArray) : DK := if reachE D s = 0 then D.cnt else D
def BegQ (D : DK) (s : ByteArray) (C : Nat → Prop) (db : Nat) (w : World) (e : Ending) (w' : World) : Prop :=
  ∃ t, e = .returned (.tuple #[labV t, .int .i64 (begE D s)]) ∧ (begE D s = 0 → t = s ∧ Nm s) ∧ RigQ (begD D s) C db w w'
theorem RigQ.fin {w w' w'' : World} {C : Nat → Prop} {db : Nat} {D' : DK} (h : DkI w' (fun k => C k ∧ k < w.heap.size) db D') (hb : But (fun k => k = db) w w') (hx : Below w.heap.size w' w'') : RigQ D' C db w w'' :=
  ⟨(h.kept fun k hk _ => hx.block k hk.2).mono fun _ hk _ => hk.1, hx.os.trans hb.os, hx.tape.trans hb.tape, hx.output.trans hb.output, Nat.le_trans hb.size hx.size, fun k hk hne => (hx.block k hk).trans (hb.block k hk hne)⟩
set_option maxHeartbeats 8000000 in
theorem dbegin_any (D : DK) (s : ByteArray) (w : World) (C : Nat → Prop) (db : Nat) (hD : DkI w C db D) (hO : D.Ok) (hmx : s.size ≤ 140737488355328) :
    Calls Tryd.prog 39 #[.pointer (some ⟨db, 0, none⟩), .string s] w fun e w' => BegQ D s C db w e w' := by
  have hdb := hD.bx.lt
  have HD := hid hD.low_
  clear hD
  obtain ⟨W, hW⟩ : ∃ V, V = w.alloc (.cells #[.int .u8 0, .int .u8 0, .int .u8 0, .int .u8 0, .int .u8 0, .int .u8 0, .int .u8 0, .int .u8 0, .int .u8 0, .int .u8 0, .int .u8 0, .int .u8 0] 69) := ⟨_, rfl⟩
  have HB : Hid (Below w.heap.size w W) := by show Below _ _ _; rw [hW]; exact (Below.refl _ _).alloc (Nat.le_refl _) _
  have HX : Hid (Box W w.heap.size #[.int .u8 0, .int .u8 0, .int .u8 0, .int .u8 0, .int .u8 0, .int .u8 0, .int .u8 0, .int .u8 0, .int .u8 0, .int .u8 0, .int .u8 0, .int .u8 0] 69) := by show Box _ _ _ _; rw [hW]; exact Box.new _ _ _
  have HW := hid hW
  clear hW
  have HRc := hid (dreach_any D s W _ db (HD.out.below HB.out) hmx)
  go_enter Tryd.func39, Tryd.ntmps39
  go_upto_region 1 with fail
  rw [← HW.out]
  go_wp2_with fail
  refine HRc.out.mono ?_
  rintro e w2 ⟨t, rfl, ht, hb2⟩
  have HT := hid ht
  have HB2 : Hid (Below w.heap.size w w2) := HB.out.trans (hb2.mono HB.out.size)
  have HX2 := hid (HX.out.below hb2)
  clear hb2 ht
  rw [labV_at]
  obtain ⟨W3, hW3⟩ : ∃ V, V = w2.alloc (.cells #[.int .u8 (bat t 0), .int .u8 (bat t 1), .int .u8 (bat t 2), .int .u8 (bat t 3), .int .u8 (bat t 4), .int .u8 (bat t 5), .int .u8 (bat t 6), .int .u8 (bat t 7), .int .u8 (bat t 8), .int .u8 (bat t 9), .int .u8 (bat t 10), .int .u8 (bat t 11)] 69) := ⟨_, rfl⟩
  have HBx : Hid (Below w2.heap.size w2 W3) := by show Below _ _ _; rw [hW3]; exact (Below.refl _ _).alloc (Nat.le_refl _) _
  have HB3 : Hid (Below w.heap.size w W3) := HB2.out.trans (HBx.out.mono HB2.out.size)
  have HX3 : Hid (Box W3 w.heap.size #[.int .u8 0, .int .u8 0, .int .u8 0, .int .u8 0, .int .u8 0, .int .u8 0, .int .u8 0, .int .u8 0, .int .u8 0, .int .u8 0, .int .u8 0, .int .u8 0] 69) := HX2.out.below HBx.out
  have HY3 : Hid (Box W3 w2.heap.size #[.int .u8 (bat t 0), .int .u8 (bat t 1), .int .u8 (bat t 2), .int .u8 (bat t 3), .int .u8 (bat t 4), .int .u8 (bat t 5), .int .u8 (bat t 6), .int .u8 (bat t 7), .int .u8 (bat t 8), .int .u8 (bat t 9), .int .u8 (bat t 10), .int .u8 (bat t 11)] 69) := by show Box _ _ _ _; rw [hW3]; exact Box.new _ _ _
  have HD3 : Hid (DkI W3 (fun k => C k ∧ k < w.heap.size) db D) := HD.out.below HB3.out
  have HW3 := hid hW3
  have HSz : Hid (w.heap.size < w2.heap.size) := HX2.out.lt
  clear hW3
  go_upto_region 2 with fail
  rw [← HW3.out]
  by_cases hr : reachE D s = 0
  · rw [hr]
    have HCn := hid (dcounts_any D W3 _ db HD3.out hO)
    have HRd : Hid (begD D s = D.cnt) := by show begD D s = _; rw [begD, if_pos hr]
    go_wp2_with fail
    refine HCn.out.mono ?_
    rintro e w4 ⟨rfl, hQ⟩
    have HQ := hid hQ
    have HX4 : Hid (Box w4 w.heap.size #[.int .u8 0, .int .u8 0, .int .u8 0, .int .u8 0, .int .u8 0, .int .u8 0, .int .u8 0, .int .u8 0, .int .u8 0, .int .u8 0, .int .u8 0, .int .u8 0] 69) := HX3.out.but hQ.2 (by show ¬ w.heap.size = db; omega)
    have HY4 : Hid (Box w4 w2.heap.size #[.int .u8 (bat t 0), .int .u8 (bat t 1), .int .u8 (bat t 2), .int .u8 (bat t 3), .int .u8 (bat t 4), .int .u8 (bat t 5), .int .u8 (bat t 6), .int .u8 (bat t 7), .int .u8 (bat t 8), .int .u8 (bat t 9), .int .u8 (bat t 10), .int .u8 (bat t 11)] 69) := HY3.out.but hQ.2 (by have := HSz.out; show ¬ w2.heap.size = db; omega)
    have HBt : Hid (But (fun k => k = db) w w4) := (But.ofBelow HB3.out).trans hQ.2
    clear hQ
    have x0 := HX4.out.cell 0
    have x1 := HX4.out.cell 1
    have x2 := HX4.out.cell 2
    have x3 := HX4.out.cell 3
    have x4 := HX4.out.cell 4
    have x5 := HX4.out.cell 5
    have x6 := HX4.out.cell 6
    have x7 := HX4.out.cell 7
    have x8 := HX4.out.cell 8
    have x9 := HX4.out.cell 9
    have x10 := HX4.out.cell 10
    have x11 := HX4.out.cell 11
    have xz0 := HX4.out.frozen 0
    have xz1 := HX4.out.frozen 1
    have xz2 := HX4.out.frozen 2
    have xz3 := HX4.out.frozen 3
    have xz4 := HX4.out.frozen 4
    have xz5 := HX4.out.frozen 5
    have xz6 := HX4.out.frozen 6
    have xz7 := HX4.out.frozen 7
    have xz8 := HX4.out.frozen 8
    have xz9 := HX4.out.frozen 9
    have xz10 := HX4.out.frozen 10
    have xz11 := HX4.out.frozen 11
    have xl := HX4.out.lt
    simp at x0 x1 x2 x3 x4 x5 x6 x7 x8 x9 x10 x11
    have y0 := HY4.out.cell 0
    have y1 := HY4.out.cell 1
    have y2 := HY4.out.cell 2
    have y3 := HY4.out.cell 3
    have y4 := HY4.out.cell 4
    have y5 := HY4.out.cell 5
    have y6 := HY4.out.cell 6
    have y7 := HY4.out.cell 7
    have y8 := HY4.out.cell 8
    have y9 := HY4.out.cell 9
    have y10 := HY4.out.cell 10
    have y11 := HY4.out.cell 11
    have yl := HY4.out.lt
    simp at y0 y1 y2 y3 y4 y5 y6 y7 y8 y9 y10 y11
    cases hcb : D.cntB with
    | true =>
      have HRe : Hid (begE D s = 101) := by show begE D s = _; rw [begE, if_pos hr, if_pos hcb]
      go_wp2
      have HE := ((((((((((((HX4.out.set 0 (.int .u8 (bat t 0))).set 1 (.int .u8 (bat t 1))).set 2 (.int .u8 (bat t 2))).set 3 (.int .u8 (bat t 3))).set 4 (.int .u8 (bat t 4))).set 5 (.int .u8 (bat t 5))).set 6 (.int .u8 (bat t 6))).set 7 (.int .u8 (bat t 7))).set 8 (.int .u8 (bat t 8))).set 9 (.int .u8 (bat t 9))).set 10 (.int .u8 (bat t 10))).set 11 (.int .u8 (bat t 11)))
      have e0 := HE.cell 0
      have e1 := HE.cell 1
      have e2 := HE.cell 2
      have e3 := HE.cell 3
      have e4 := HE.cell 4
      have e5 := HE.cell 5
      have e6 := HE.cell 6
      have e7 := HE.cell 7
      have e8 := HE.cell 8
      have e9 := HE.cell 9
      have e10 := HE.cell 10
      have e11 := HE.cell 11
      have el := HE.lt
      simp at e0 e1 e2 e3 e4 e5 e6 e7 e8 e9 e10 e11
      exact bodyPost_ret (v := .tuple #[.agg #[.int .u8 (bat t 0), .int .u8 (bat t 1), .int .u8 (bat t 2), .int .u8 (bat t 3), .int .u8 (bat t 4), .int .u8 (bat t 5), .int .u8 (bat t 6), .int .u8 (bat t 7), .int .u8 (bat t 8), .int .u8 (bat t 9), .int .u8 (bat t 10), .int .u8 (bat t 11)], .int .i64 101]) (by simp [results, Tryd.results39, go_sem, e0, e1, e2, e3, e4, e5, e6, e7, e8, e9, e10, e11]) rfl ⟨t, by rw [HRe.out, labV_at], fun h => absurd h (by rw [HRe.out]; decide), by rw [HRd.out]; exact RigQ.fin HQ.out.1 HBt.out (((((((((((((Below.refl _ _).setCell (p := ⟨w.heap.size, 0, none⟩) (by simp) _).setCell (p := ⟨w.heap.size, 1, none⟩) (by simp) _).setCell (p := ⟨w.heap.size, 2, none⟩) (by simp) _).setCell (p := ⟨w.heap.size, 3, none⟩) (by simp) _).setCell (p := ⟨w.heap.size, 4, none⟩) (by simp) _).setCell (p := ⟨w.heap.size, 5, none⟩) (by simp) _).setCell (p := ⟨w.heap.size, 6, none⟩) (by simp) _).setCell (p := ⟨w.heap.size, 7, none⟩) (by simp) _).setCell (p := ⟨w.heap.size, 8, none⟩) (by simp) _).setCell (p := ⟨w.heap.size, 9, none⟩) (by simp) _).setCell (p := ⟨w.heap.size, 10, none⟩) (by simp) _).setCell (p := ⟨w.heap.size, 11, none⟩) (by simp) _)⟩
    | false =>
      have HRe : Hid (begE D s = 0) := by show begE D s = _; rw [begE, if_pos hr, if_neg (by rw [hcb]; simp)]
      go_wp2
      have HE := ((((((((((((HX4.out.set 0 (.int .u8 (bat t 0))).set 1 (.int .u8 (bat t 1))).set 2 (.int .u8 (bat t 2))).set 3 (.int .u8 (bat t 3))).set 4 (.int .u8 (bat t 4))).set 5 (.int .u8 (bat t 5))).set 6 (.int .u8 (bat t 6))).set 7 (.int .u8 (bat t 7))).set 8 (.int .u8 (bat t 8))).set 9 (.int .u8 (bat t 9))).set 10 (.int .u8 (bat t 10))).set 11 (.int .u8 (bat t 11)))
      have e0 := HE.cell 0
      have e1 := HE.cell 1
      have e2 := HE.cell 2
      have e3 := HE.cell 3
      have e4 := HE.cell 4
      have e5 := HE.cell 5
      have e6 := HE.cell 6
      have e7 := HE.cell 7
      have e8 := HE.cell 8
      have e9 := HE.cell 9
      have e10 := HE.cell 10
      have e11 := HE.cell 11
      have el := HE.lt
      simp at e0 e1 e2 e3 e4 e5 e6 e7 e8 e9 e10 e11
      exact bodyPost_ret (v := .tuple #[.agg #[.int .u8 (bat t 0), .int .u8 (bat t 1), .int .u8 (bat t 2), .int .u8 (bat t 3), .int .u8 (bat t 4), .int .u8 (bat t 5), .int .u8 (bat t 6), .int .u8 (bat t 7), .int .u8 (bat t 8), .int .u8 (bat t 9), .int .u8 (bat t 10), .int .u8 (bat t 11)], .int .i64 0]) (by simp [results, Tryd.results39, go_sem, e0, e1, e2, e3, e4, e5, e6, e7, e8, e9, e10, e11]) rfl ⟨t, by rw [HRe.out, labV_at], fun _ => HT.out hr, by rw [HRd.out]; exact RigQ.fin HQ.out.1 HBt.out (((((((((((((Below.refl _ _).setCell (p := ⟨w.heap.size, 0, none⟩) (by simp) _).setCell (p := ⟨w.heap.size, 1, none⟩) (by simp) _).setCell (p := ⟨w.heap.size, 2, none⟩) (by simp) _).setCell (p := ⟨w.heap.size, 3, none⟩) (by simp) _).setCell (p := ⟨w.heap.size, 4, none⟩) (by simp) _).setCell (p := ⟨w.heap.size, 5, none⟩) (by simp) _).setCell (p := ⟨w.heap.size, 6, none⟩) (by simp) _).setCell (p := ⟨w.heap.size, 7, none⟩) (by simp) _).setCell (p := ⟨w.heap.size, 8, none⟩) (by simp) _).setCell (p := ⟨w.heap.size, 9, none⟩) (by simp) _).setCell (p := ⟨w.heap.size, 10, none⟩) (by simp) _).setCell (p := ⟨w.heap.size, 11, none⟩) (by simp) _)⟩
  · have HRd : Hid (begD D s = D) := by show begD D s = _; rw [begD, if_neg hr]
    have HRe : Hid (begE D s = reachE D s) := by show begE D s = _; rw [begE, if_neg hr]
    have x0 := HX3.out.cell 0
    have x1 := HX3.out.cell 1
    have x2 := HX3.out.cell 2
    have x3 := HX3.out.cell 3
    have x4 := HX3.out.cell 4
    have x5 := HX3.out.cell 5
    have x6 := HX3.out.cell 6
    have x7 := HX3.out.cell 7
    have x8 := HX3.out.cell 8
    have x9 := HX3.out.cell 9
    have x10 := HX3.out.cell 10
    have x11 := HX3.out.cell 11
    have xz0 := HX3.out.frozen 0
    have xz1 := HX3.out.frozen 1
    have xz2 := HX3.out.frozen 2
    have xz3 := HX3.out.frozen 3
    have xz4 := HX3.out.frozen 4
    have xz5 := HX3.out.frozen 5
    have xz6 := HX3.out.frozen 6
    have xz7 := HX3.out.frozen 7
    have xz8 := HX3.out.frozen 8
    have xz9 := HX3.out.frozen 9
    have xz10 := HX3.out.frozen 10
    have xz11 := HX3.out.frozen 11
    have xl := HX3.out.lt
    simp at x0 x1 x2 x3 x4 x5 x6 x7 x8 x9 x10 x11
    have y0 := HY3.out.cell 0
    have y1 := HY3.out.cell 1
    have y2 := HY3.out.cell 2
    have y3 := HY3.out.cell 3
    have y4 := HY3.out.cell 4
    have y5 := HY3.out.cell 5
    have y6 := HY3.out.cell 6
    have y7 := HY3.out.cell 7
    have y8 := HY3.out.cell 8
    have y9 := HY3.out.cell 9
    have y10 := HY3.out.cell 10
    have y11 := HY3.out.cell 11
    have yl := HY3.out.lt
    simp at y0 y1 y2 y3 y4 y5 y6 y7 y8 y9 y10 y11
    go_wp2
    have HE := ((((((((((((HX3.out.set 0 (.int .u8 (bat t 0))).set 1 (.int .u8 (bat t 1))).set 2 (.int .u8 (bat t 2))).set 3 (.int .u8 (bat t 3))).set 4 (.int .u8 (bat t 4))).set 5 (.int .u8 (bat t 5))).set 6 (.int .u8 (bat t 6))).set 7 (.int .u8 (bat t 7))).set 8 (.int .u8 (bat t 8))).set 9 (.int .u8 (bat t 9))).set 10 (.int .u8 (bat t 10))).set 11 (.int .u8 (bat t 11)))
    have e0 := HE.cell 0
    have e1 := HE.cell 1
    have e2 := HE.cell 2
    have e3 := HE.cell 3
    have e4 := HE.cell 4
    have e5 := HE.cell 5
    have e6 := HE.cell 6
    have e7 := HE.cell 7
    have e8 := HE.cell 8
    have e9 := HE.cell 9
    have e10 := HE.cell 10
    have e11 := HE.cell 11
    have el := HE.lt
    simp at e0 e1 e2 e3 e4 e5 e6 e7 e8 e9 e10 e11
    exact bodyPost_ret (v := .tuple #[.agg #[.int .u8 (bat t 0), .int .u8 (bat t 1), .int .u8 (bat t 2), .int .u8 (bat t 3), .int .u8 (bat t 4), .int .u8 (bat t 5), .int .u8 (bat t 6), .int .u8 (bat t 7), .int .u8 (bat t 8), .int .u8 (bat t 9), .int .u8 (bat t 10), .int .u8 (bat t 11)], .int .i64 (reachE D s)]) (by simp [results, Tryd.results39, go_sem, e0, e1, e2, e3, e4, e5, e6, e7, e8, e9, e10, e11]) rfl ⟨t, by rw [HRe.out, labV_at], fun h => absurd (HRe.out ▸ h) hr, by rw [HRd.out]; exact RigQ.fin HD3.out (But.ofBelow HB3.out) (((((((((((((Below.refl _ _).setCell (p := ⟨w.heap.size, 0, none⟩) (by simp) _).setCell (p := ⟨w.heap.size, 1, none⟩) (by simp) _).setCell (p := ⟨w.heap.size, 2, none⟩) (by simp) _).setCell (p := ⟨w.heap.size, 3, none⟩) (by simp) _).setCell (p := ⟨w.heap.size, 4, none⟩) (by simp) _).setCell (p := ⟨w.heap.size, 5, none⟩) (by simp) _).setCell (p := ⟨w.heap.size, 6, none⟩) (by simp) _).setCell (p := ⟨w.heap.size, 7, none⟩) (by simp) _).setCell (p := ⟨w.heap.size, 8, none⟩) (by simp) _).setCell (p := ⟨w.heap.size, 9, none⟩) (by simp) _).setCell (p := ⟨w.heap.size, 10, none⟩) (by simp) _).setCell (p := ⟨w.heap.size, 11, none⟩) (by simp) _)⟩
end Go.Proofs.YtkfcilandmhomaaDoor
