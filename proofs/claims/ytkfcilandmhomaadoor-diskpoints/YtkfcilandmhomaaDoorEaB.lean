import Derived.Test.YtkfcilandmhomaaDoorPack3
namespace Go.Proofs.YtkfcilandmhomaaDoor
open Go.RowKit
set_option maxRecDepth 8000
theorem preC_z (s : ByteArray) : preC s 0 = #[.int .u8 0, .int .u8 0, .int .u8 0, .int .u8 0, .int .u8 0, .int .u8 0, .int .u8 0, .int .u8 0, .int .u8 0, .int .u8 0, .int .u8 0, .int .u8 0] := by simp [preC]
theorem sEmpty (s : ByteArray) : s.toList.isEmpty = decide (s.size = 0) := by
  rw [ByteArray.toList_eq]
  rcases s with ⟨⟨l⟩⟩
  cases l <;> simp [ByteArray.size]
def labR (s : ByteArray) : Value := .tuple #[if nmB s = true then labV s else labV ⟨#[]⟩, .bool (nmB s)]
theorem labR_no {s : ByteArray} (h : nmB s = false) : labR s = .tuple #[.agg #[.int .u8 0, .int .u8 0, .int .u8 0, .int .u8 0, .int .u8 0, .int .u8 0, .int .u8 0, .int .u8 0, .int .u8 0, .int .u8 0, .int .u8 0, .int .u8 0], .bool false] := by
  unfold labR
  rw [if_neg (by rw [h]; simp), h]
  have hb : ∀ i, bat ⟨#[]⟩ i = 0 := fun i => by unfold bat; rw [dif_neg (by simp [ByteArray.size])]
  simp [labV, labC, hb]
theorem labR_yes {s : ByteArray} (h : nmB s = true) : labR s = .tuple #[labV s, .bool true] := by
  unfold labR
  rw [if_pos h, h]
set_option maxHeartbeats 8000000 in
theorem labelOf_any (s : ByteArray) (w : World) (hmx : s.size ≤ 140737488355328) : Calls Tryd.prog 26 #[.string s] w fun e w' => e = .returned (labR s) ∧ Below w.heap.size w w' := by
  obtain ⟨W, hW⟩ : ∃ V, V = (w.alloc (.cells #[.int .u8 0, .int .u8 0, .int .u8 0, .int .u8 0, .int .u8 0, .int .u8 0, .int .u8 0, .int .u8 0, .int .u8 0, .int .u8 0, .int .u8 0, .int .u8 0] 69)).alloc (.cells #[.int .u8 0, .int .u8 0, .int .u8 0, .int .u8 0, .int .u8 0, .int .u8 0, .int .u8 0, .int .u8 0, .int .u8 0, .int .u8 0, .int .u8 0, .int .u8 0] 69) := ⟨_, rfl⟩
  have hB : Below w.heap.size w W := by rw [hW]; exact ((Below.refl _ _).alloc (Nat.le_refl _) _).alloc (by simp) _
  have hx0 : Box W w.heap.size (preC s 0) 69 := by rw [hW, preC_z]; exact (Box.new w _ _).below ((Below.refl _ _).alloc (Nat.le_refl _) _)
  have hx1 : Box W (w.heap.size + 1) (preC s 0) 69 := by
    have h := Box.new (w.alloc (.cells #[.int .u8 0, .int .u8 0, .int .u8 0, .int .u8 0, .int .u8 0, .int .u8 0, .int .u8 0, .int .u8 0, .int .u8 0, .int .u8 0, .int .u8 0, .int .u8 0] 69)) #[.int .u8 0, .int .u8 0, .int .u8 0, .int .u8 0, .int .u8 0, .int .u8 0, .int .u8 0, .int .u8 0, .int .u8 0, .int .u8 0, .int .u8 0, .int .u8 0] 69
    rw [World.size_alloc] at h
    rw [hW, preC_z]; exact h
  have HW := hid hW
  have HB := hid hB
  have HX0 := hid hx0
  have HX1 := hid hx1
  clear hW hB hx0 hx1
  go_enter Tryd.func26, Tryd.ntmps26
  go_upto_region 2 with fail
  rw [← HW.out]
  by_cases h0 : s.size = 0
  · have HNo : Hid (nmB s = false) := by
      show nmB s = false
      cases h : nmB s with
      | false => rfl
      | true => have := (nmB_iff s).1 h; have := this.pos; omega
    have hse : s.toList.isEmpty = true := by rw [sEmpty]; simpa using h0
    have hz := HX0.out
    rw [preC_z] at hz
    have z0 := hz.cell 0
    have z1 := hz.cell 1
    have z2 := hz.cell 2
    have z3 := hz.cell 3
    have z4 := hz.cell 4
    have z5 := hz.cell 5
    have z6 := hz.cell 6
    have z7 := hz.cell 7
    have z8 := hz.cell 8
    have z9 := hz.cell 9
    have z10 := hz.cell 10
    have z11 := hz.cell 11
    have zl := hz.lt
    simp at z0 z1 z2 z3 z4 z5 z6 z7 z8 z9 z10 z11
    have zf0 := hz.frozen 0
    have zf1 := hz.frozen 1
    have zf2 := hz.frozen 2
    have zf3 := hz.frozen 3
    have zf4 := hz.frozen 4
    have zf5 := hz.frozen 5
    have zf6 := hz.frozen 6
    have zf7 := hz.frozen 7
    have zf8 := hz.frozen 8
    have zf9 := hz.frozen 9
    have zf10 := hz.frozen 10
    have zf11 := hz.frozen 11
    have HZ := hid hz
    clear hz
    go_wp2
    have HE : Box ((((((((((((W.setCell ⟨w.heap.size, 0, none⟩ (.int .u8 0)).setCell ⟨w.heap.size, 1, none⟩ (.int .u8 0)).setCell ⟨w.heap.size, 2, none⟩ (.int .u8 0)).setCell ⟨w.heap.size, 3, none⟩ (.int .u8 0)).setCell ⟨w.heap.size, 4, none⟩ (.int .u8 0)).setCell ⟨w.heap.size, 5, none⟩ (.int .u8 0)).setCell ⟨w.heap.size, 6, none⟩ (.int .u8 0)).setCell ⟨w.heap.size, 7, none⟩ (.int .u8 0)).setCell ⟨w.heap.size, 8, none⟩ (.int .u8 0)).setCell ⟨w.heap.size, 9, none⟩ (.int .u8 0)).setCell ⟨w.heap.size, 10, none⟩ (.int .u8 0)).setCell ⟨w.heap.size, 11, none⟩ (.int .u8 0)) w.heap.size #[.int .u8 0, .int .u8 0, .int .u8 0, .int .u8 0, .int .u8 0, .int .u8 0, .int .u8 0, .int .u8 0, .int .u8 0, .int .u8 0, .int .u8 0, .int .u8 0] 69 := by simpa using ((((((((((((HZ.out.set 0 (.int .u8 0)).set 1 (.int .u8 0)).set 2 (.int .u8 0)).set 3 (.int .u8 0)).set 4 (.int .u8 0)).set 5 (.int .u8 0)).set 6 (.int .u8 0)).set 7 (.int .u8 0)).set 8 (.int .u8 0)).set 9 (.int .u8 0)).set 10 (.int .u8 0)).set 11 (.int .u8 0))
    have e0 := HE.cell 0
    have e1 := HE.cell 1
    have e2 := HE.cell 2
    have e3 := HE.cell 3
    have e4 := HE.cell 4
    have e5 := HE.cell 5
    have e6 := HE.cell 6
    have e7 := HE.cell 7
    have e8 := HE.cell 8
    have e9 := HE.cell 9
    have e10 := HE.cell 10
    have e11 := HE.cell 11
    have el := HE.lt
    simp at e0 e1 e2 e3 e4 e5 e6 e7 e8 e9 e10 e11
    exact bodyPost_ret (v := .tuple #[.agg #[.int .u8 0, .int .u8 0, .int .u8 0, .int .u8 0, .int .u8 0, .int .u8 0, .int .u8 0, .int .u8 0, .int .u8 0, .int .u8 0, .int .u8 0, .int .u8 0], .bool false]) (by simp [results, Tryd.results26, go_sem, e0, e1, e2, e3, e4, e5, e6, e7, e8, e9, e10, e11]) rfl ⟨by rw [labR_no HNo.out], ((((((((((((HB.out.setCell (p := ⟨w.heap.size, 0, none⟩) (by simp) _).setCell (p := ⟨w.heap.size, 1, none⟩) (by simp) _).setCell (p := ⟨w.heap.size, 2, none⟩) (by simp) _).setCell (p := ⟨w.heap.size, 3, none⟩) (by simp) _).setCell (p := ⟨w.heap.size, 4, none⟩) (by simp) _).setCell (p := ⟨w.heap.size, 5, none⟩) (by simp) _).setCell (p := ⟨w.heap.size, 6, none⟩) (by simp) _).setCell (p := ⟨w.heap.size, 7, none⟩) (by simp) _).setCell (p := ⟨w.heap.size, 8, none⟩) (by simp) _).setCell (p := ⟨w.heap.size, 9, none⟩) (by simp) _).setCell (p := ⟨w.heap.size, 10, none⟩) (by simp) _).setCell (p := ⟨w.heap.size, 11, none⟩) (by simp) _)⟩
  · have hse : s.toList.isEmpty = false := by rw [sEmpty]; simpa using h0
    by_cases h12 : 12 < s.size
    · have h12' : (12 : Int) < (s.size : Int) := by omega
      have HNo : Hid (nmB s = false) := by
        show nmB s = false
        cases h : nmB s with
        | false => rfl
        | true => have := (nmB_iff s).1 h; have := this.le; omega
      have hz := HX0.out
      rw [preC_z] at hz
      have z0 := hz.cell 0
      have z1 := hz.cell 1
      have z2 := hz.cell 2
      have z3 := hz.cell 3
      have z4 := hz.cell 4
      have z5 := hz.cell 5
      have z6 := hz.cell 6
      have z7 := hz.cell 7
      have z8 := hz.cell 8
      have z9 := hz.cell 9
      have z10 := hz.cell 10
      have z11 := hz.cell 11
      have zl := hz.lt
      simp at z0 z1 z2 z3 z4 z5 z6 z7 z8 z9 z10 z11
      have zf0 := hz.frozen 0
      have zf1 := hz.frozen 1
      have zf2 := hz.frozen 2
      have zf3 := hz.frozen 3
      have zf4 := hz.frozen 4
      have zf5 := hz.frozen 5
      have zf6 := hz.frozen 6
      have zf7 := hz.frozen 7
      have zf8 := hz.frozen 8
      have zf9 := hz.frozen 9
      have zf10 := hz.frozen 10
      have zf11 := hz.frozen 11
      have HZ := hid hz
      clear hz
      go_wp2
      have HE : Box ((((((((((((W.setCell ⟨w.heap.size, 0, none⟩ (.int .u8 0)).setCell ⟨w.heap.size, 1, none⟩ (.int .u8 0)).setCell ⟨w.heap.size, 2, none⟩ (.int .u8 0)).setCell ⟨w.heap.size, 3, none⟩ (.int .u8 0)).setCell ⟨w.heap.size, 4, none⟩ (.int .u8 0)).setCell ⟨w.heap.size, 5, none⟩ (.int .u8 0)).setCell ⟨w.heap.size, 6, none⟩ (.int .u8 0)).setCell ⟨w.heap.size, 7, none⟩ (.int .u8 0)).setCell ⟨w.heap.size, 8, none⟩ (.int .u8 0)).setCell ⟨w.heap.size, 9, none⟩ (.int .u8 0)).setCell ⟨w.heap.size, 10, none⟩ (.int .u8 0)).setCell ⟨w.heap.size, 11, none⟩ (.int .u8 0)) w.heap.size #[.int .u8 0, .int .u8 0, .int .u8 0, .int .u8 0, .int .u8 0, .int .u8 0, .int .u8 0, .int .u8 0, .int .u8 0, .int .u8 0, .int .u8 0, .int .u8 0] 69 := by simpa using ((((((((((((HZ.out.set 0 (.int .u8 0)).set 1 (.int .u8 0)).set 2 (.int .u8 0)).set 3 (.int .u8 0)).set 4 (.int .u8 0)).set 5 (.int .u8 0)).set 6 (.int .u8 0)).set 7 (.int .u8 0)).set 8 (.int .u8 0)).set 9 (.int .u8 0)).set 10 (.int .u8 0)).set 11 (.int .u8 0))
      have e0 := HE.cell 0
      have e1 := HE.cell 1
      have e2 := HE.cell 2
      have e3 := HE.cell 3
      have e4 := HE.cell 4
      have e5 := HE.cell 5
      have e6 := HE.cell 6
      have e7 := HE.cell 7
      have e8 := HE.cell 8
      have e9 := HE.cell 9
      have e10 := HE.cell 10
      have e11 := HE.cell 11
      have el := HE.lt
      simp at e0 e1 e2 e3 e4 e5 e6 e7 e8 e9 e10 e11
      exact bodyPost_ret (v := .tuple #[.agg #[.int .u8 0, .int .u8 0, .int .u8 0, .int .u8 0, .int .u8 0, .int .u8 0, .int .u8 0, .int .u8 0, .int .u8 0, .int .u8 0, .int .u8 0, .int .u8 0], .bool false]) (by simp [results, Tryd.results26, go_sem, e0, e1, e2, e3, e4, e5, e6, e7, e8, e9, e10, e11]) rfl ⟨by rw [labR_no HNo.out], ((((((((((((HB.out.setCell (p := ⟨w.heap.size, 0, none⟩) (by simp) _).setCell (p := ⟨w.heap.size, 1, none⟩) (by simp) _).setCell (p := ⟨w.heap.size, 2, none⟩) (by simp) _).setCell (p := ⟨w.heap.size, 3, none⟩) (by simp) _).setCell (p := ⟨w.heap.size, 4, none⟩) (by simp) _).setCell (p := ⟨w.heap.size, 5, none⟩) (by simp) _).setCell (p := ⟨w.heap.size, 6, none⟩) (by simp) _).setCell (p := ⟨w.heap.size, 7, none⟩) (by simp) _).setCell (p := ⟨w.heap.size, 8, none⟩) (by simp) _).setCell (p := ⟨w.heap.size, 9, none⟩) (by simp) _).setCell (p := ⟨w.heap.size, 10, none⟩) (by simp) _).setCell (p := ⟨w.heap.size, 11, none⟩) (by simp) _)⟩
    · have h12' : ¬ (12 : Int) < (s.size : Int) := by omega
      go_wp2_with fail
      go_loopw [16] (fun x wr => ∃ i : Nat, i ≤ s.size ∧ x = .int .i64 (i : Int) ∧ (∀ j (hj : j < s.size), j < i → okB (s[j]).toNat = true) ∧ Box wr (w.heap.size + 1) (preC s i) 69 ∧ Box wr w.heap.size (preC s 0) 69 ∧ Below w.heap.size w wr) (fun x _ => s.size - (intOf x).toNat)
      case atStart => exact ⟨0, Nat.zero_le _, rfl, fun j hj h => absurd h (by omega), HX1.out, HX0.out, HB.out⟩
      case round =>
        obtain ⟨i, hi, rfl, hok, hx1, hx0, hbel⟩ := hrel
        have HOk := hid hok
        have HY1 := hid hx1
        have HY0 := hid hx0
        have HBr := hid hbel
        clear hok hx1 hx0 hbel
        by_cases hlt : i < s.size
        · have hlt' : (i : Int) < (s.size : Int) := by omega
          go_upto_region 7 with fail
          go_wp2_with fail
          refine (inNames_any (s[i]).toNat wr).mono ?_
          rintro e w1 ⟨rfl, rfl⟩
          cases hb : okB (s[i]).toNat with
          | false =>
            have HNo : Hid (nmB s = false) := by
              show nmB s = false
              cases h : nmB s with
              | false => rfl
              | true => have := ((nmB_iff s).1 h).ok i hlt; rw [hb] at this; cases this
            have hz := HY0.out
            rw [preC_z] at hz
            have z0 := hz.cell 0
            have z1 := hz.cell 1
            have z2 := hz.cell 2
            have z3 := hz.cell 3
            have z4 := hz.cell 4
            have z5 := hz.cell 5
            have z6 := hz.cell 6
            have z7 := hz.cell 7
            have z8 := hz.cell 8
            have z9 := hz.cell 9
            have z10 := hz.cell 10
            have z11 := hz.cell 11
            have zl := hz.lt
            simp at z0 z1 z2 z3 z4 z5 z6 z7 z8 z9 z10 z11
            have zf0 := hz.frozen 0
            have zf1 := hz.frozen 1
            have zf2 := hz.frozen 2
            have zf3 := hz.frozen 3
            have zf4 := hz.frozen 4
            have zf5 := hz.frozen 5
            have zf6 := hz.frozen 6
            have zf7 := hz.frozen 7
            have zf8 := hz.frozen 8
            have zf9 := hz.frozen 9
            have zf10 := hz.frozen 10
            have zf11 := hz.frozen 11
            have HZ := hid hz
            clear hz
            go_wp2
            have HE : Box ((((((((((((w1.setCell ⟨w.heap.size, 0, none⟩ (.int .u8 0)).setCell ⟨w.heap.size, 1, none⟩ (.int .u8 0)).setCell ⟨w.heap.size, 2, none⟩ (.int .u8 0)).setCell ⟨w.heap.size, 3, none⟩ (.int .u8 0)).setCell ⟨w.heap.size, 4, none⟩ (.int .u8 0)).setCell ⟨w.heap.size, 5, none⟩ (.int .u8 0)).setCell ⟨w.heap.size, 6, none⟩ (.int .u8 0)).setCell ⟨w.heap.size, 7, none⟩ (.int .u8 0)).setCell ⟨w.heap.size, 8, none⟩ (.int .u8 0)).setCell ⟨w.heap.size, 9, none⟩ (.int .u8 0)).setCell ⟨w.heap.size, 10, none⟩ (.int .u8 0)).setCell ⟨w.heap.size, 11, none⟩ (.int .u8 0)) w.heap.size #[.int .u8 0, .int .u8 0, .int .u8 0, .int .u8 0, .int .u8 0, .int .u8 0, .int .u8 0, .int .u8 0, .int .u8 0, .int .u8 0, .int .u8 0, .int .u8 0] 69 := by simpa using ((((((((((((HZ.out.set 0 (.int .u8 0)).set 1 (.int .u8 0)).set 2 (.int .u8 0)).set 3 (.int .u8 0)).set 4 (.int .u8 0)).set 5 (.int .u8 0)).set 6 (.int .u8 0)).set 7 (.int .u8 0)).set 8 (.int .u8 0)).set 9 (.int .u8 0)).set 10 (.int .u8 0)).set 11 (.int .u8 0))
            have e0 := HE.cell 0
            have e1 := HE.cell 1
            have e2 := HE.cell 2
            have e3 := HE.cell 3
            have e4 := HE.cell 4
            have e5 := HE.cell 5
            have e6 := HE.cell 6
            have e7 := HE.cell 7
            have e8 := HE.cell 8
            have e9 := HE.cell 9
            have e10 := HE.cell 10
            have e11 := HE.cell 11
            have el := HE.lt
            simp at e0 e1 e2 e3 e4 e5 e6 e7 e8 e9 e10 e11
            exact bodyPost_ret (v := .tuple #[.agg #[.int .u8 0, .int .u8 0, .int .u8 0, .int .u8 0, .int .u8 0, .int .u8 0, .int .u8 0, .int .u8 0, .int .u8 0, .int .u8 0, .int .u8 0, .int .u8 0], .bool false]) (by simp [results, Tryd.results26, go_sem, e0, e1, e2, e3, e4, e5, e6, e7, e8, e9, e10, e11]) rfl ⟨by rw [labR_no HNo.out], ((((((((((((HBr.out.setCell (p := ⟨w.heap.size, 0, none⟩) (by simp) _).setCell (p := ⟨w.heap.size, 1, none⟩) (by simp) _).setCell (p := ⟨w.heap.size, 2, none⟩) (by simp) _).setCell (p := ⟨w.heap.size, 3, none⟩) (by simp) _).setCell (p := ⟨w.heap.size, 4, none⟩) (by simp) _).setCell (p := ⟨w.heap.size, 5, none⟩) (by simp) _).setCell (p := ⟨w.heap.size, 6, none⟩) (by simp) _).setCell (p := ⟨w.heap.size, 7, none⟩) (by simp) _).setCell (p := ⟨w.heap.size, 8, none⟩) (by simp) _).setCell (p := ⟨w.heap.size, 9, none⟩) (by simp) _).setCell (p := ⟨w.heap.size, 10, none⟩) (by simp) _).setCell (p := ⟨w.heap.size, 11, none⟩) (by simp) _)⟩
          | true =>
            have hi12 : i < 12 := by omega
            have hi12' : (i : Int) < 12 := by omega
            obtain ⟨x, hx⟩ := preC_get s i i hi12
            have c0 := (HY1.out.cell i).trans hx
            have f0 := HY1.out.frozen i
            have l0 := HY1.out.lt
            have hba : bat s i = ((s[i]).toNat : Int) := by unfold bat; rw [dif_pos hlt]
            have HS : Hid (Box (w1.setCell ⟨w.heap.size + 1, i, none⟩ (.int .u8 ((s[i]).toNat : Int))) (w.heap.size + 1) (preC s (i + 1)) 69) := by
              show Box _ _ _ _
              rw [← preC_set s i hi12, hba]
              exact HY1.out.set i _
            have HS0 : Hid (Box (w1.setCell ⟨w.heap.size + 1, i, none⟩ (.int .u8 ((s[i]).toNat : Int))) w.heap.size (preC s 0) 69) := HY0.out.but ((But.one _ _).setAt i _) (by omega)
            have HB2 : Hid (Below w.heap.size w (w1.setCell ⟨w.heap.size + 1, i, none⟩ (.int .u8 ((s[i]).toNat : Int)))) := HBr.out.setCell (p := ⟨w.heap.size + 1, i, none⟩) (by simp) _
            have HO2 : Hid (∀ j (hj : j < s.size), j < i + 1 → okB (s[j]).toNat = true) := by
              intro j hj h
              by_cases hji : j < i
              · exact HOk.out j hj hji
              · obtain rfl : j = i := by omega
                exact hb
            clear hx hba
            go_wp2
            go_roundw
            case rel => exact ⟨i + 1, by omega, by go_num, HO2.out, HS.out, HS0.out, HB2.out⟩
            case measure => simp [intOf]; omega
        · have hlt' : ¬ (i : Int) < (s.size : Int) := by omega
          have HYes : Hid (nmB s = true) := (nmB_iff s).2 ⟨by omega, by omega, fun j hj => HOk.out j hj (by omega)⟩
          have h1 := HY1.out
          rw [preC_all s i (by omega)] at h1
          simp only [labC] at h1
          have hz := HY0.out
          rw [preC_z] at hz
          have y0 := h1.cell 0
          have y1 := h1.cell 1
          have y2 := h1.cell 2
          have y3 := h1.cell 3
          have y4 := h1.cell 4
          have y5 := h1.cell 5
          have y6 := h1.cell 6
          have y7 := h1.cell 7
          have y8 := h1.cell 8
          have y9 := h1.cell 9
          have y10 := h1.cell 10
          have y11 := h1.cell 11
          have yl := h1.lt
          simp at y0 y1 y2 y3 y4 y5 y6 y7 y8 y9 y10 y11
          have z0 := hz.cell 0
          have z1 := hz.cell 1
          have z2 := hz.cell 2
          have z3 := hz.cell 3
          have z4 := hz.cell 4
          have z5 := hz.cell 5
          have z6 := hz.cell 6
          have z7 := hz.cell 7
          have z8 := hz.cell 8
          have z9 := hz.cell 9
          have z10 := hz.cell 10
          have z11 := hz.cell 11
          have zl := hz.lt
          simp at z0 z1 z2 z3 z4 z5 z6 z7 z8 z9 z10 z11
          have zf0 := hz.frozen 0
          have zf1 := hz.frozen 1
          have zf2 := hz.frozen 2
          have zf3 := hz.frozen 3
          have zf4 := hz.frozen 4
          have zf5 := hz.frozen 5
          have zf6 := hz.frozen 6
          have zf7 := hz.frozen 7
          have zf8 := hz.frozen 8
          have zf9 := hz.frozen 9
          have zf10 := hz.frozen 10
          have zf11 := hz.frozen 11
          have HZ := hid hz
          clear hz h1
          have n12 : w.heap.size ≠ w.heap.size + 1 := by omega
          have n21 : w.heap.size + 1 ≠ w.heap.size := by omega
          go_wp2
          have HE : Box ((((((((((((wr.setCell ⟨w.heap.size, 0, none⟩ (.int .u8 (bat s 0))).setCell ⟨w.heap.size, 1, none⟩ (.int .u8 (bat s 1))).setCell ⟨w.heap.size, 2, none⟩ (.int .u8 (bat s 2))).setCell ⟨w.heap.size, 3, none⟩ (.int .u8 (bat s 3))).setCell ⟨w.heap.size, 4, none⟩ (.int .u8 (bat s 4))).setCell ⟨w.heap.size, 5, none⟩ (.int .u8 (bat s 5))).setCell ⟨w.heap.size, 6, none⟩ (.int .u8 (bat s 6))).setCell ⟨w.heap.size, 7, none⟩ (.int .u8 (bat s 7))).setCell ⟨w.heap.size, 8, none⟩ (.int .u8 (bat s 8))).setCell ⟨w.heap.size, 9, none⟩ (.int .u8 (bat s 9))).setCell ⟨w.heap.size, 10, none⟩ (.int .u8 (bat s 10))).setCell ⟨w.heap.size, 11, none⟩ (.int .u8 (bat s 11))) w.heap.size #[.int .u8 (bat s 0), .int .u8 (bat s 1), .int .u8 (bat s 2), .int .u8 (bat s 3), .int .u8 (bat s 4), .int .u8 (bat s 5), .int .u8 (bat s 6), .int .u8 (bat s 7), .int .u8 (bat s 8), .int .u8 (bat s 9), .int .u8 (bat s 10), .int .u8 (bat s 11)] 69 := by simpa using ((((((((((((HZ.out.set 0 (.int .u8 (bat s 0))).set 1 (.int .u8 (bat s 1))).set 2 (.int .u8 (bat s 2))).set 3 (.int .u8 (bat s 3))).set 4 (.int .u8 (bat s 4))).set 5 (.int .u8 (bat s 5))).set 6 (.int .u8 (bat s 6))).set 7 (.int .u8 (bat s 7))).set 8 (.int .u8 (bat s 8))).set 9 (.int .u8 (bat s 9))).set 10 (.int .u8 (bat s 10))).set 11 (.int .u8 (bat s 11)))
          have e0 := HE.cell 0
          have e1 := HE.cell 1
          have e2 := HE.cell 2
          have e3 := HE.cell 3
          have e4 := HE.cell 4
          have e5 := HE.cell 5
          have e6 := HE.cell 6
          have e7 := HE.cell 7
          have e8 := HE.cell 8
          have e9 := HE.cell 9
          have e10 := HE.cell 10
          have e11 := HE.cell 11
          have el := HE.lt
          simp at e0 e1 e2 e3 e4 e5 e6 e7 e8 e9 e10 e11
          exact bodyPost_ret (v := .tuple #[labV s, .bool true]) (by simp [results, Tryd.results26, go_sem, labV, labC, e0, e1, e2, e3, e4, e5, e6, e7, e8, e9, e10, e11]) rfl ⟨by rw [labR_yes HYes.out], ((((((((((((HBr.out.setCell (p := ⟨w.heap.size, 0, none⟩) (by simp) _).setCell (p := ⟨w.heap.size, 1, none⟩) (by simp) _).setCell (p := ⟨w.heap.size, 2, none⟩) (by simp) _).setCell (p := ⟨w.heap.size, 3, none⟩) (by simp) _).setCell (p := ⟨w.heap.size, 4, none⟩) (by simp) _).setCell (p := ⟨w.heap.size, 5, none⟩) (by simp) _).setCell (p := ⟨w.heap.size, 6, none⟩) (by simp) _).setCell (p := ⟨w.heap.size, 7, none⟩) (by simp) _).setCell (p := ⟨w.heap.size, 8, none⟩) (by simp) _).setCell (p := ⟨w.heap.size, 9, none⟩) (by simp) _).setCell (p := ⟨w.heap.size, 10, none⟩) (by simp) _).setCell (p := ⟨w.heap.size, 11, none⟩) (by simp) _)⟩
end Go.Proofs.YtkfcilandmhomaaDoor
