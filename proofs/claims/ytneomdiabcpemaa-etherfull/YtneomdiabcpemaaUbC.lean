import Derived.Test.YtneomdiabcpemaaUbB
namespace Go.Proofs.Ytneomdiabcpemaa
open Go.RowKit
set_option maxRecDepth 8000
set_option maxHeartbeats 8000000 in
/-- EtherFull -/
theorem etherFull_walk (copies out : Int) (W : World) : Calls Try.prog 4 #[.int .i64 copies, .int .i64 out] W fun e w' => e = .returned (.bool true) ∧ Below W.heap.size W w' := by
  have HWk := hid (works_any W)
  have hc := modE_in (n := copies) (k := 256) (by omega)
  have ho := modE_in (n := out) (k := 256) (by omega)
  obtain ⟨c, hcc⟩ : ∃ c, c = modE copies 256 := ⟨_, rfl⟩
  obtain ⟨o, hoo⟩ : ∃ o, o = modE out 256 := ⟨_, rfl⟩
  rw [← hcc] at hc
  rw [← hoo] at ho
  have HC := hid hcc
  have HO := hid hoo
  clear hcc hoo
  go_enter Try.func4, Try.ntmps4
  go_wp2_with fail
  refine HWk.out.mono ?_
  rintro e w1 ⟨rfl, hb1⟩
  have HN := hid (new_en (B := W.heap.size) (W := W) 2 hb1 (Nat.le_refl _) (by omega))
  clear hb1 HWk
  go_wp2_with fail
  refine HN.out.mono ?_
  rintro e w2 ⟨rfl, hE2⟩
  obtain ⟨b, hb⟩ : ∃ b, b = w1.heap.size := ⟨_, rfl⟩
  rw [← hb] at hE2 ⊢
  have HE2 := hid hE2
  have HM := hid (mod_any copies 256 w2 (by omega) (by omega))
  rw [← HC.out] at HM
  clear hE2 hb HN
  go_wp2_with fail
  refine HM.out.mono ?_
  rintro e w3 ⟨rfl, hw3⟩
  subst w3
  go_wp2_with fail
  go_loopw [8] (fun x wr => ∃ (i : Nat) (A : List FA), i ≤ 256 ∧ x = .int .i64 (i : Int) ∧ A.length = i ∧ En W.heap.size W wr b 2 A) (fun x _ => 256 - (intOf x).toNat)
  case atStart => exact ⟨0, [], by omega, rfl, rfl, HE2.out⟩
  case round =>
    obtain ⟨i, A, hi, rfl, hA, hE⟩ := hrel
    have HE := hid hE
    have HA := hid hA
    clear hE hA HE2 HM
    by_cases hlt : i < 256
    · have hlt' : (i : Int) < 256 := by omega
      by_cases hcp : 0 < i ∧ (i : Int) ≤ c
      · have h1 : (0 : Int) < (i : Int) := by omega
        have h2 := hcp.2
        have HCo := hid (copy_en HE.out ((i : Int) - 1) 0 (by unfold copyE; rw [HA.out, if_neg (by omega), if_neg (by omega)]))
        clear hcp
        go_wp2_with fail
        refine HCo.out.mono ?_
        rintro e w4 ⟨rfl, hq, _⟩
        obtain ⟨a, _, hE4⟩ := hq (by first | rfl | trivial)
        have HE4 := hid hE4
        clear hq hE4 HCo
        go_wp2
        go_roundw
        case rel => exact ⟨i + 1, _, by omega, by go_num, by simp [HA.out], HE4.out⟩
        case measure => simp [intOf]; omega
      · have hno : (decide (0 < (i : Int)) && decide ((i : Int) ≤ c)) = false := by
          by_cases h1 : 0 < i
          · have h2 : ¬ (i : Int) ≤ c := fun h => hcp ⟨h1, h⟩
            simp [h2]
          · simp [h1]
        obtain ⟨V, hV⟩ : ∃ V, V = wr.alloc (.cells #[.int .u8 (i : Int)] 5) := ⟨_, rfl⟩
        have hBV : Below wr.heap.size wr V := by rw [hV]; exact (Below.refl _ _).alloc (Nat.le_refl _) _
        have hsr := src_row wr (i : Int)
        rw [← hV] at hsr
        have HSd := hid (send_en (HE.out.below hBV) 0 1 _ _ [(i : Int)] hsr (fun z hz => by simp at hz; omega) 0 (by unfold sendE; rw [HA.out, if_neg (by omega), if_neg (by simp), if_neg (by omega)]))
        have HV := hid hV
        clear hV hBV hsr
        have key : ∀ (Q : Prop), Q → Q := fun _ h => h
        by_cases h1 : 0 < (i : Int)
        · have h2 : ¬ (i : Int) ≤ c := fun h => hcp ⟨by omega, h⟩
          clear hcp hno
          go_wp2_with fail
          rw [← HV.out]
          refine HSd.out.mono ?_
          rintro e w4 ⟨rfl, hq, _⟩
          have HE4 := hid (hq (by first | rfl | trivial))
          clear hq HSd
          go_wp2
          go_roundw
          case rel => exact ⟨i + 1, _, by omega, by go_num, by simp [HA.out], HE4.out⟩
          case measure => simp [intOf]; omega
        · clear hcp hno
          go_wp2_with fail
          rw [← HV.out]
          refine HSd.out.mono ?_
          rintro e w4 ⟨rfl, hq, _⟩
          have HE4 := hid (hq (by first | rfl | trivial))
          clear hq HSd
          go_wp2
          go_roundw
          case rel => exact ⟨i + 1, _, by omega, by go_num, by simp [HA.out], HE4.out⟩
          case measure => simp [intOf]; omega
    · obtain rfl : i = 256 := by omega
      have HS1 := hid (send_en HE.out 1 0 none 0 [] (src_nil _) (fun z hz => by cases hz) 223 (by unfold sendE; rw [HA.out, if_neg (by omega), if_neg (by simp), if_pos (by omega)]))
      clear hlt hi
      go_wp2_with fail
      refine HS1.out.mono ?_
      rintro e w4 ⟨rfl, _, hq⟩
      have HE4 := hid (hq (by first | trivial | decide))
      have HC1 := hid (copy_en HE4.out 255 223 (by unfold copyE; rw [HA.out, if_neg (by omega), if_pos (by omega)]))
      clear hq HS1 HE
      go_wp2_with fail
      refine HC1.out.mono ?_
      rintro e w5 ⟨rfl, _, hq⟩
      have HE5 := hid (hq (by first | trivial | decide))
      have HC2 := hid (copy_en HE5.out 256 224 (by unfold copyE; rw [HA.out, if_pos (by omega)]))
      clear hq HC1 HE4
      go_wp2_with fail
      refine HC2.out.mono ?_
      rintro e w6 ⟨rfl, _, hq⟩
      have HE6 := hid (hq (by first | trivial | decide))
      have HL := hid (list_en HE6.out)
      rw [HA.out] at HL
      clear hq HC2 HE5
      go_wp2_with fail
      refine HL.out.mono ?_
      rintro e w7 ⟨g, U, rfl, _, _, _, hE7⟩
      have HE7 := hid hE7
      have HM := hid (mod_any out 256 w7 (by omega) (by omega))
      rw [← HO.out] at HM
      clear hE7 HL HE6
      go_wp2_with fail
      refine HM.out.mono ?_
      rintro e w8 ⟨rfl, hw⟩
      subst w8
      have HD := hid (deliver_en HE7.out o (by rw [HA.out]; exact ho))
      go_wp2_with fail
      refine HD.out.mono ?_
      rintro e w8 ⟨a, d, ha, rfl, hd, hbx, hE8⟩
      have hA8 : (A.eraseIdx o.toNat).length = 255 := by
        rw [List.length_eraseIdx_of_lt (by rw [HA.out]; omega), HA.out]
      obtain ⟨A8, hA8e⟩ : ∃ A8, A8 = A.eraseIdx o.toNat := ⟨_, rfl⟩
      rw [← hA8e] at hE8 hA8
      have HA8 := hid hA8
      obtain ⟨V, hV⟩ : ∃ V, V = w8.alloc (.cells #[.int .i64 a.fr, .int .i64 a.tt, .slice (some ⟨d, 0, none⟩) a.zs.length a.zs.length] 32) := ⟨_, rfl⟩
      have hBV : Below w8.heap.size w8 V := by rw [hV]; exact (Below.refl _ _).alloc (Nat.le_refl _) _
      have HS2 := hid (send_en (hE8.below hBV) 1 0 none 0 [] (src_nil _) (fun z hz => by cases hz) 0 (by unfold sendE; rw [HA8.out, if_neg (by omega), if_neg (by simp), if_neg (by omega)]))
      have HV := hid hV
      clear hV hBV hE8 hA8 hA8e ha hd hbx HD HM HE7
      go_wp2_with fail
      rw [← HV.out]
      refine HS2.out.mono ?_
      rintro e w9 ⟨rfl, hq, _⟩
      have HE9 := hid (hq (by first | rfl | trivial))
      have HC3 := hid (copy_en HE9.out 0 223 (by unfold copyE; rw [List.length_append, HA8.out, if_neg (by simp), if_pos (by simp)]))
      clear hq HS2
      go_wp2_with fail
      refine HC3.out.mono ?_
      rintro e w10 ⟨rfl, _, hq⟩
      have HEa := hid (hq (by first | trivial | decide))
      have HL2 := hid (list_en HEa.out)
      have e256 : (A8 ++ [(⟨1, 0, []⟩ : FA)]).length = 256 := by rw [List.length_append, HA8.out]; rfl
      rw [e256] at HL2
      clear hq HC3 HE9 e256
      go_wp2_with fail
      refine HL2.out.mono ?_
      rintro e w11 ⟨g2, U2, rfl, hU, hLs, hb, hEb⟩
      have hx : ∃ x, U2[255]? = some x ∧ x.fr = 1 := by
        have h1 : (U2.map FL.a)[255]? = some ⟨1, 0, []⟩ := by rw [hU, List.getElem?_append_right (by rw [HA8.out]; omega), HA8.out]; rfl
        rw [List.getElem?_map] at h1
        cases h2 : U2[255]? with
        | none => rw [h2] at h1; cases h1
        | some x =>
          rw [h2] at h1
          simp at h1
          exact ⟨x, rfl, by rw [FL.a] at h1; injection h1⟩
      obtain ⟨x, hx, hxf⟩ := hx
      have y0 := (flat_cell hLs hx).1
      rw [hxf] at y0
      have yl := hLs.bx.lt
      have HEb := hid hEb
      clear hU hLs hb hEb hx hxf HL2 HEa
      go_wp2
      exact bodyPost_ret (v := .bool true) (by simp [results, Try.results4, go_sem]) rfl ⟨rfl, HEb.out.bel⟩
end Go.Proofs.Ytneomdiabcpemaa
