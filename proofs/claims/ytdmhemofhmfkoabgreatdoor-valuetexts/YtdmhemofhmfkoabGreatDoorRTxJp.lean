import Derived.Test.YtdmhemofhmfkoabGreatDoorPack27
namespace Go.Proofs.YtdmhemofhmfkoabGreatDoor
open Go.RowKit
set_option maxRecDepth 8000
set_option maxHeartbeats 40000000 in
theorem refNumber_pos (w0 : World) (rb : Nat) (s : ByteArray) (a : Nat) (L : List PT) (O : List Nat) (w : World) (h : RR w0 rb w s a L O 0) (hL : L.length < 12) (hs : s.size ≤ 140737488355328) (h1 : 49 ≤ pk s a ∧ pk s a ≤ 57) :
    Calls Tryz.prog 94 #[.pointer (some ⟨rb, 0, none⟩)] w fun x w' => LeafPost w0 rb s L O (intS s a) x w' := by
  obtain ⟨v5, v6, h⟩ := h
  have hlt1 := pk_pos (s := s) (a := a) (by omega)
  have hlt : a < s.size := by omega
  have hg := pk_get hlt
  have hg1 := pk_get hlt1
  have HX := hid (intS_pos h1)
  skip
  have HOv : Hid ((19 < dgE s a - a ∨ (dgE s a - a = 19 ∧ Op.bytesLess mostB.data.toList (cutL s a (dgE s a)) = true)) ↔ 9223372036854775807 < dvS s a) := by
    have hh := over_iff (s := s) (b := a) most_digs (by rfl) (by rw [most_val]; decide) h1
    rw [most_val] at hh
    exact hh
  have ha' : (a : Int) < (s.size : Int) := by omega
  skip
  skip
  have hE1 := dgE_gt (s := s) (b := a) (by omega)
  have hE2 := dgE_le (s := s) (a := a) (by omega)
  have hlen := cut_len (s := s) (a := a) hE2
  have hdg := cut_digs s a
  have HD : Hid (dvS s a = dvL 0 (cutL s a (dgE s a))) := rfl
  have hcut : cutL s a (dgE s a) = (s.extract a (dgE s a)).data.toList := rfl
  obtain ⟨E, hE⟩ : ∃ E, dgE s a = E := ⟨_, rfl⟩
  obtain ⟨N, hN⟩ : ∃ N, dvS s a = N := ⟨_, rfl⟩
  obtain ⟨C, hC⟩ : ∃ C, cutL s a E = C := ⟨_, rfl⟩
  rw [hE] at HX HOv hE1 hE2 hlen hdg HD hcut
  rw [hN] at HX HOv HD
  rw [hC] at HOv hlen hdg HD hcut
  have HEx := hid hcut
  have hDs : (s.extract a E).size = E - a := by rw [ByteArray.size_extract]; omega
  have HM := hid h
  have HR0 := hid hE
  obtain ⟨z, hz⟩ : ∃ z, pk s a = z := ⟨_, rfl⟩
  rw [hz] at hg hg1 h1
  have hz1 : ¬ (z : Int) < 49 := by omega
  have hz2 : ¬ (57 : Int) < (z : Int) := by omega
  have hz3 : ¬ (z : Int) = 45 := by omega
  have hz4 : ¬ (z : Int) = 48 := by omega
  have x0 := h.box.cell 0
  have x1 := h.box.cell 1
  simp at x0 x1
  clear h hE hN hC hcut hz 
  go_enter Tryz.func94, Tryz.ntmps94
  go_wp2_with fail
  go_loopw [4] (fun x wr => ∃ j : Nat, x = .int .i64 (j : Int) ∧ a ≤ j ∧ j ≤ s.size ∧ dgE s j = E ∧ RM w0 rb wr s a v5 v6 L O 0) (fun x _ => s.size - (intOf x).toNat)
  case atStart => exact ⟨a, rfl, Nat.le_refl _, by omega, HR0.out, HM.out⟩
  case round =>
    obtain ⟨j, rfl, hj1, hj2, hjE, hM⟩ := hrel
    clear HM HR0 x0 x1 hg hg1
    have HM := hid hM
    have x0 := hM.box.cell 0
    have x1 := hM.box.cell 1
    simp at x0 x1
    clear hM
    by_cases hdig : 48 ≤ pk s j ∧ pk s j ≤ 57
    · have hjl := pk_pos (s := s) (a := j) (by omega)
      have hg := pk_get hjl
      have hst := dgE_step hdig
      have hj' : (j : Int) < (s.size : Int) := by omega
      obtain ⟨y, hy⟩ : ∃ y, pk s j = y := ⟨_, rfl⟩
      rw [hy] at hg hdig
      have hy1 : (48 : Int) ≤ (y : Int) := by omega
      have hy2 : (y : Int) ≤ 57 := by omega
      clear hy
      go_wp2
      go_roundw
      case rel => exact ⟨j + 1, by go_num, by omega, by omega, by rw [hst, hjE], HM.out⟩
      case measure => simp [intOf]; omega
    · obtain rfl : j = E := by rw [← hjE]; exact (dgE_stop hdig).symm
      clear hjE
      have HL1 : Hid ((s.size ≤ j) ∨ (∃ (hl : j < s.size) (y : Nat), ((s[j]'hl).toNat : Int) = (y : Int) ∧ y < 48) ∨ (∃ (hl : j < s.size) (y : Nat), ((s[j]'hl).toNat : Int) = (y : Int) ∧ 57 < y)) := by
        by_cases hl : j < s.size
        · have hg := pk_get hl
          by_cases h48 : pk s j < 48
          · exact .inr (.inl ⟨hl, _, hg, h48⟩)
          · exact .inr (.inr ⟨hl, _, hg, by omega⟩)
        · exact .inl (by omega)
      clear hdig
      have hij : (a : Int) ≤ (j : Int) := by omega
      have hjs : (j : Int) ≤ (s.size : Int) := by omega
      have hti : ((a : Int)).toNat = a := by omega
      obtain ⟨D, hD⟩ : ∃ D, s.extract a j = D := ⟨_, rfl⟩
      rw [hD] at hDs HEx
      have HDx := hid hD
      have hDl : (D.size : Int) = (j : Int) - (a : Int) := by omega
      have HFa := hid (refFault_any w0 rb s a 0 v5 v6 L O wr HM.out 29 a (by omega))
      have HAd := hid (fun (n : Int) (h1 : -9223372036854775808 ≤ n) (h2 : n ≤ 9223372036854775807) W (hW : RM w0 rb W s a v5 v6 L O 0) => refAdd_any w0 rb s a 0 v5 v6 L O W hW ⟨1, n, ⟨#[]⟩, 0⟩ ⟨by simp, by simp, h1, h2, Nat.zero_le _, by simp⟩ hL j hj2)
      have hDC : D.toList = C := by rw [toList_dat, HEx.out]
      have HDC := hid hDC
      have hBl : mostB.data.toList = [57, 50, 50, 51, 51, 55, 50, 48, 51, 54, 56, 53, 52, 55, 55, 53, 56, 48, 55] := rfl
      have hdB : Digs mostB.data.toList := most_digs
      have hlB : mostB.data.toList.length = 19 := rfl
      by_cases hov : 19 < j - a ∨ (j - a = 19 ∧ Op.bytesLess mostB.data.toList C = true)
      · have HX2 : Hid (intS s a = .error (a, 29)) := by unfold Hid; rw [HX.out, if_neg (by have := HOv.out.1 hov; omega)]
        by_cases h19 : 19 < j - a
        · have h19' : (19 : Int) < (D.size : Int) := by omega
          clear hov
          rcases HL1.out with hx | ⟨hl, y, hy, hyn⟩ | ⟨hl, y, hy, hyn⟩
          · have hx' : ¬ (j : Int) < (s.size : Int) := by omega
            go_wp2_with fail
            refine HFa.out.mono ?_
            rintro e w1 ⟨rfl, hR1⟩
            have HR := hid hR1
            clear hR1 HFa
            go_wp2
            exact bodyPost_end (results_none rfl _ _ _) rfl (LeafPost.bad HX2.out ⟨_, _, HR.out⟩)
          · have hj' : (j : Int) < (s.size : Int) := by omega
            have hy1 : ¬ (48 : Int) ≤ (y : Int) := by omega
            go_wp2_with fail
            refine HFa.out.mono ?_
            rintro e w1 ⟨rfl, hR1⟩
            have HR := hid hR1
            clear hR1 HFa
            go_wp2
            exact bodyPost_end (results_none rfl _ _ _) rfl (LeafPost.bad HX2.out ⟨_, _, HR.out⟩)
          · have hj' : (j : Int) < (s.size : Int) := by omega
            have hy1 : (48 : Int) ≤ (y : Int) := by omega
            have hy2 : ¬ (y : Int) ≤ 57 := by omega
            go_wp2_with fail
            refine HFa.out.mono ?_
            rintro e w1 ⟨rfl, hR1⟩
            have HR := hid hR1
            clear hR1 HFa
            go_wp2
            exact bodyPost_end (results_none rfl _ _ _) rfl (LeafPost.bad HX2.out ⟨_, _, HR.out⟩)
        · have h19' : ¬ (19 : Int) < (D.size : Int) := by omega
          obtain ⟨h19a, hl1⟩ := hov.resolve_left h19
          have h19b : (D.size : Int) = 19 := by omega
          have h19c : D.size = 19 := by omega
          have hf := bytes_anti hdB hdg (by omega) hl1
          rw [hBl, ← HDC.out] at hf
          obtain ⟨hf1, hf2⟩ := hf
          rcases HL1.out with hx | ⟨hl, y, hy, hyn⟩ | ⟨hl, y, hy, hyn⟩
          · have hx' : ¬ (j : Int) < (s.size : Int) := by omega
            go_wp2_with fail
            refine HFa.out.mono ?_
            rintro e w1 ⟨rfl, hR1⟩
            have HR := hid hR1
            clear hR1 HFa
            go_wp2
            exact bodyPost_end (results_none rfl _ _ _) rfl (LeafPost.bad HX2.out ⟨_, _, HR.out⟩)
            all_goals (exfalso; simp_all)
          · have hj' : (j : Int) < (s.size : Int) := by omega
            have hy1 : ¬ (48 : Int) ≤ (y : Int) := by omega
            go_wp2_with fail
            refine HFa.out.mono ?_
            rintro e w1 ⟨rfl, hR1⟩
            have HR := hid hR1
            clear hR1 HFa
            go_wp2
            exact bodyPost_end (results_none rfl _ _ _) rfl (LeafPost.bad HX2.out ⟨_, _, HR.out⟩)
            all_goals (exfalso; simp_all)
          · have hj' : (j : Int) < (s.size : Int) := by omega
            have hy1 : (48 : Int) ≤ (y : Int) := by omega
            have hy2 : ¬ (y : Int) ≤ 57 := by omega
            go_wp2_with fail
            refine HFa.out.mono ?_
            rintro e w1 ⟨rfl, hR1⟩
            have HR := hid hR1
            clear hR1 HFa
            go_wp2
            exact bodyPost_end (results_none rfl _ _ _) rfl (LeafPost.bad HX2.out ⟨_, _, HR.out⟩)
            all_goals (exfalso; simp_all)
      · have hN : N ≤ 9223372036854775807 := Nat.le_of_not_lt fun h => hov (HOv.out.2 h)
        have HX2 : Hid (intS s a = .ok (mkI ((N : Int)), j)) := by unfold Hid; rw [HX.out, if_pos hN]
        have HAN := hid (HAd.out ((N : Int)) (by omega) (by omega))
        have hCl : C.length = D.size := by omega
        have hCd : ∀ (k : Nat) (hk : k < D.size), ∃ d : Nat, ((D[k]'hk).toNat : Int) = (d : Int) ∧ 48 ≤ d ∧ d ≤ 57 ∧ dvL 0 (C.take (k + 1)) = dvL 0 (C.take k) * 10 + (d - 48) := by
          intro k hk
          have hkl : k < C.length := by omega
          have e1 : C[k]'hkl = D[k]'hk := by
            have : C = D.data.toList := HEx.out
            subst this
            simp
            rfl
          have h9 := hdg (C[k]'hkl) (List.getElem_mem hkl)
          exact ⟨(C[k]'hkl).toNat, by rw [e1], h9.1, h9.2, dv_take hkl⟩
        have hpre : ∀ k, dvL 0 (C.take k) ≤ N := fun k => by rw [HD.out]; exact dv_pre C k
        have hall : dvL 0 (C.take D.size) = N := by rw [HD.out, List.take_of_length_le (by omega)]
        have HCd := hid hCd
        have HPre := hid hpre
        have HAll := hid hall
        have hlit : (([57, 50, 50, 51, 51, 55, 50, 48, 51, 54, 56, 53, 52, 55, 55, 53, 56, 48, 56] : List UInt8) == [57, 50, 50, 51, 51, 55, 50, 48, 51, 54, 56, 53, 52, 55, 55, 53, 56, 48, 55]) = false := by decide
        have hcs : D.size < 19 ∨ (D.size = 19 ∧ Op.bytesLess C mostB.data.toList = true) ∨ (D.size = 19 ∧ (C == mostB.data.toList) = true) := by
          by_cases h19 : D.size < 19
          · exact .inl h19
          · have hle : ¬ 19 < j - a := fun h => hov (.inl h)
            have h19e : D.size = 19 := by omega
            cases hb1 : Op.bytesLess C mostB.data.toList with
            | true => exact .inr (.inl ⟨h19e, rfl⟩)
            | false =>
              have hb2 : Op.bytesLess mostB.data.toList C = false := Bool.eq_false_iff.2 fun h => hov (.inr ⟨by omega, h⟩)
              exact .inr (.inr ⟨h19e, by rw [bytes_tri _ _ hb1 hb2]; simp⟩)
        rw [hBl, ← HDC.out] at hcs
        clear hpre hCd hall hDC hBl hdB hlB HAd HFa hov HOv
        rcases hcs with h19 | ⟨h19, hf1⟩ | ⟨h19, hf2⟩
        · have h19a : ¬ (19 : Int) < (D.size : Int) := by omega
          have h19b : ¬ (D.size : Int) = 19 := by omega
          have h19c : ¬ D.size = 19 := by omega
          rcases HL1.out with hx | ⟨hl, y, hy, hyn⟩ | ⟨hl, y, hy, hyn⟩
          · have hx' : ¬ (j : Int) < (s.size : Int) := by omega
            go_wp2_with fail
            go_loopw [6, 7] (fun x y wr => ∃ k : Nat, y = .int .i64 (k : Int) ∧ k ≤ D.size ∧ x = .int .i64 (-(dvL 0 (C.take k) : Int)) ∧ RM w0 rb wr s a v5 v6 L O 0) (fun _ y _ => D.size - (intOf y).toNat)
            case atStart => exact ⟨0, rfl, by omega, by simp [dvN], HM.out⟩
            case round =>
              obtain ⟨k, rfl, hk, rfl, hM⟩ := hrel
              clear HM x0 x1
              have HM := hid hM
              have x0 := hM.box.cell 0
              have x1 := hM.box.cell 1
              simp at x0 x1
              clear hM
              by_cases hkd : k < D.size
              · have hkd' : (k : Int) < (D.size : Int) := by omega
                obtain ⟨d, hd, hd1, hd2, hd3⟩ := HCd.out k hkd
                have hp1 := HPre.out (k + 1)
                obtain ⟨m, hm⟩ : ∃ m, dvL 0 (C.take k) = m := ⟨_, rfl⟩
                obtain ⟨m2, hm2⟩ : ∃ m, dvL 0 (C.take (k + 1)) = m := ⟨_, rfl⟩
                have Hm2 := hid hm2
                rw [hm, hm2] at hd3
                rw [hm2] at hp1
                rw [hm]
                have hb1 : m * 10 + (d - 48) ≤ 9223372036854775808 := by omega
                have hwm : IntKind.i64.wrap (-(m : Int) * 10) = -(m : Int) * 10 := by rw [IntKind.wrap_i64]; omega
                have hw8 : IntKind.u8.wrap ((d : Int) - 48) = (d : Int) - 48 := by rw [IntKind.wrap_u8]; omega
                have hws : IntKind.i64.wrap (-(m : Int) * 10 - ((d : Int) - 48)) = -(m : Int) * 10 - ((d : Int) - 48) := by rw [IntKind.wrap_i64]; omega
                clear hm hm2
                go_wp2
                go_roundw
                case rel => exact ⟨k + 1, by go_num, by omega, by rw [Hm2.out]; congr 1; omega, HM.out⟩
                case measure => simp [intOf]; omega
              · obtain rfl : k = D.size := by omega
                have hkd' : ¬ (D.size : Int) < (D.size : Int) := by omega
                rw [HAll.out]
                have HA := hid (HAN.out wr HM.out)
                have hwN : IntKind.i64.wrap (-(N : Int)) = -(N : Int) := by rw [IntKind.wrap_i64]; omega
                go_wp2_with fail
                refine HA.out.mono ?_
                rintro e w1 ⟨rfl, hR1⟩
                have HR := hid hR1
                clear hR1 HA
                go_wp2
                exact bodyPost_end (results_none rfl _ _ _) rfl (LeafPost.good HX2.out HR.out)
          · have hj' : (j : Int) < (s.size : Int) := by omega
            have hy1 : ¬ (48 : Int) ≤ (y : Int) := by omega
            go_wp2_with fail
            go_loopw [6, 7] (fun x y wr => ∃ k : Nat, y = .int .i64 (k : Int) ∧ k ≤ D.size ∧ x = .int .i64 (-(dvL 0 (C.take k) : Int)) ∧ RM w0 rb wr s a v5 v6 L O 0) (fun _ y _ => D.size - (intOf y).toNat)
            case atStart => exact ⟨0, rfl, by omega, by simp [dvN], HM.out⟩
            case round =>
              obtain ⟨k, rfl, hk, rfl, hM⟩ := hrel
              clear HM x0 x1
              have HM := hid hM
              have x0 := hM.box.cell 0
              have x1 := hM.box.cell 1
              simp at x0 x1
              clear hM
              by_cases hkd : k < D.size
              · have hkd' : (k : Int) < (D.size : Int) := by omega
                obtain ⟨d, hd, hd1, hd2, hd3⟩ := HCd.out k hkd
                have hp1 := HPre.out (k + 1)
                obtain ⟨m, hm⟩ : ∃ m, dvL 0 (C.take k) = m := ⟨_, rfl⟩
                obtain ⟨m2, hm2⟩ : ∃ m, dvL 0 (C.take (k + 1)) = m := ⟨_, rfl⟩
                have Hm2 := hid hm2
                rw [hm, hm2] at hd3
                rw [hm2] at hp1
                rw [hm]
                have hb1 : m * 10 + (d - 48) ≤ 9223372036854775808 := by omega
                have hwm : IntKind.i64.wrap (-(m : Int) * 10) = -(m : Int) * 10 := by rw [IntKind.wrap_i64]; omega
                have hw8 : IntKind.u8.wrap ((d : Int) - 48) = (d : Int) - 48 := by rw [IntKind.wrap_u8]; omega
                have hws : IntKind.i64.wrap (-(m : Int) * 10 - ((d : Int) - 48)) = -(m : Int) * 10 - ((d : Int) - 48) := by rw [IntKind.wrap_i64]; omega
                clear hm hm2
                go_wp2
                go_roundw
                case rel => exact ⟨k + 1, by go_num, by omega, by rw [Hm2.out]; congr 1; omega, HM.out⟩
                case measure => simp [intOf]; omega
              · obtain rfl : k = D.size := by omega
                have hkd' : ¬ (D.size : Int) < (D.size : Int) := by omega
                rw [HAll.out]
                have HA := hid (HAN.out wr HM.out)
                have hwN : IntKind.i64.wrap (-(N : Int)) = -(N : Int) := by rw [IntKind.wrap_i64]; omega
                go_wp2_with fail
                refine HA.out.mono ?_
                rintro e w1 ⟨rfl, hR1⟩
                have HR := hid hR1
                clear hR1 HA
                go_wp2
                exact bodyPost_end (results_none rfl _ _ _) rfl (LeafPost.good HX2.out HR.out)
          · have hj' : (j : Int) < (s.size : Int) := by omega
            have hy1 : (48 : Int) ≤ (y : Int) := by omega
            have hy2 : ¬ (y : Int) ≤ 57 := by omega
            go_wp2_with fail
            go_loopw [6, 7] (fun x y wr => ∃ k : Nat, y = .int .i64 (k : Int) ∧ k ≤ D.size ∧ x = .int .i64 (-(dvL 0 (C.take k) : Int)) ∧ RM w0 rb wr s a v5 v6 L O 0) (fun _ y _ => D.size - (intOf y).toNat)
            case atStart => exact ⟨0, rfl, by omega, by simp [dvN], HM.out⟩
            case round =>
              obtain ⟨k, rfl, hk, rfl, hM⟩ := hrel
              clear HM x0 x1
              have HM := hid hM
              have x0 := hM.box.cell 0
              have x1 := hM.box.cell 1
              simp at x0 x1
              clear hM
              by_cases hkd : k < D.size
              · have hkd' : (k : Int) < (D.size : Int) := by omega
                obtain ⟨d, hd, hd1, hd2, hd3⟩ := HCd.out k hkd
                have hp1 := HPre.out (k + 1)
                obtain ⟨m, hm⟩ : ∃ m, dvL 0 (C.take k) = m := ⟨_, rfl⟩
                obtain ⟨m2, hm2⟩ : ∃ m, dvL 0 (C.take (k + 1)) = m := ⟨_, rfl⟩
                have Hm2 := hid hm2
                rw [hm, hm2] at hd3
                rw [hm2] at hp1
                rw [hm]
                have hb1 : m * 10 + (d - 48) ≤ 9223372036854775808 := by omega
                have hwm : IntKind.i64.wrap (-(m : Int) * 10) = -(m : Int) * 10 := by rw [IntKind.wrap_i64]; omega
                have hw8 : IntKind.u8.wrap ((d : Int) - 48) = (d : Int) - 48 := by rw [IntKind.wrap_u8]; omega
                have hws : IntKind.i64.wrap (-(m : Int) * 10 - ((d : Int) - 48)) = -(m : Int) * 10 - ((d : Int) - 48) := by rw [IntKind.wrap_i64]; omega
                clear hm hm2
                go_wp2
                go_roundw
                case rel => exact ⟨k + 1, by go_num, by omega, by rw [Hm2.out]; congr 1; omega, HM.out⟩
                case measure => simp [intOf]; omega
              · obtain rfl : k = D.size := by omega
                have hkd' : ¬ (D.size : Int) < (D.size : Int) := by omega
                rw [HAll.out]
                have HA := hid (HAN.out wr HM.out)
                have hwN : IntKind.i64.wrap (-(N : Int)) = -(N : Int) := by rw [IntKind.wrap_i64]; omega
                go_wp2_with fail
                refine HA.out.mono ?_
                rintro e w1 ⟨rfl, hR1⟩
                have HR := hid hR1
                clear hR1 HA
                go_wp2
                exact bodyPost_end (results_none rfl _ _ _) rfl (LeafPost.good HX2.out HR.out)
        · have h19a : ¬ (19 : Int) < (D.size : Int) := by omega
          have h19b : (D.size : Int) = 19 := by omega
          rcases HL1.out with hx | ⟨hl, y, hy, hyn⟩ | ⟨hl, y, hy, hyn⟩
          · have hx' : ¬ (j : Int) < (s.size : Int) := by omega
            go_wp2_with fail
            go_loopw [6, 7] (fun x y wr => ∃ k : Nat, y = .int .i64 (k : Int) ∧ k ≤ D.size ∧ x = .int .i64 (-(dvL 0 (C.take k) : Int)) ∧ RM w0 rb wr s a v5 v6 L O 0) (fun _ y _ => D.size - (intOf y).toNat)
            case atStart => exact ⟨0, rfl, by omega, by simp [dvN], HM.out⟩
            case round =>
              obtain ⟨k, rfl, hk, rfl, hM⟩ := hrel
              clear HM x0 x1
              have HM := hid hM
              have x0 := hM.box.cell 0
              have x1 := hM.box.cell 1
              simp at x0 x1
              clear hM
              by_cases hkd : k < D.size
              · have hkd' : (k : Int) < (D.size : Int) := by omega
                obtain ⟨d, hd, hd1, hd2, hd3⟩ := HCd.out k hkd
                have hp1 := HPre.out (k + 1)
                obtain ⟨m, hm⟩ : ∃ m, dvL 0 (C.take k) = m := ⟨_, rfl⟩
                obtain ⟨m2, hm2⟩ : ∃ m, dvL 0 (C.take (k + 1)) = m := ⟨_, rfl⟩
                have Hm2 := hid hm2
                rw [hm, hm2] at hd3
                rw [hm2] at hp1
                rw [hm]
                have hb1 : m * 10 + (d - 48) ≤ 9223372036854775808 := by omega
                have hwm : IntKind.i64.wrap (-(m : Int) * 10) = -(m : Int) * 10 := by rw [IntKind.wrap_i64]; omega
                have hw8 : IntKind.u8.wrap ((d : Int) - 48) = (d : Int) - 48 := by rw [IntKind.wrap_u8]; omega
                have hws : IntKind.i64.wrap (-(m : Int) * 10 - ((d : Int) - 48)) = -(m : Int) * 10 - ((d : Int) - 48) := by rw [IntKind.wrap_i64]; omega
                clear hm hm2
                go_wp2
                go_roundw
                case rel => exact ⟨k + 1, by go_num, by omega, by rw [Hm2.out]; congr 1; omega, HM.out⟩
                case measure => simp [intOf]; omega
              · obtain rfl : k = D.size := by omega
                have hkd' : ¬ (D.size : Int) < (D.size : Int) := by omega
                rw [HAll.out]
                have HA := hid (HAN.out wr HM.out)
                have hwN : IntKind.i64.wrap (-(N : Int)) = -(N : Int) := by rw [IntKind.wrap_i64]; omega
                go_wp2_with fail
                refine HA.out.mono ?_
                rintro e w1 ⟨rfl, hR1⟩
                have HR := hid hR1
                clear hR1 HA
                go_wp2
                exact bodyPost_end (results_none rfl _ _ _) rfl (LeafPost.good HX2.out HR.out)
          · have hj' : (j : Int) < (s.size : Int) := by omega
            have hy1 : ¬ (48 : Int) ≤ (y : Int) := by omega
            go_wp2_with fail
            go_loopw [6, 7] (fun x y wr => ∃ k : Nat, y = .int .i64 (k : Int) ∧ k ≤ D.size ∧ x = .int .i64 (-(dvL 0 (C.take k) : Int)) ∧ RM w0 rb wr s a v5 v6 L O 0) (fun _ y _ => D.size - (intOf y).toNat)
            case atStart => exact ⟨0, rfl, by omega, by simp [dvN], HM.out⟩
            case round =>
              obtain ⟨k, rfl, hk, rfl, hM⟩ := hrel
              clear HM x0 x1
              have HM := hid hM
              have x0 := hM.box.cell 0
              have x1 := hM.box.cell 1
              simp at x0 x1
              clear hM
              by_cases hkd : k < D.size
              · have hkd' : (k : Int) < (D.size : Int) := by omega
                obtain ⟨d, hd, hd1, hd2, hd3⟩ := HCd.out k hkd
                have hp1 := HPre.out (k + 1)
                obtain ⟨m, hm⟩ : ∃ m, dvL 0 (C.take k) = m := ⟨_, rfl⟩
                obtain ⟨m2, hm2⟩ : ∃ m, dvL 0 (C.take (k + 1)) = m := ⟨_, rfl⟩
                have Hm2 := hid hm2
                rw [hm, hm2] at hd3
                rw [hm2] at hp1
                rw [hm]
                have hb1 : m * 10 + (d - 48) ≤ 9223372036854775808 := by omega
                have hwm : IntKind.i64.wrap (-(m : Int) * 10) = -(m : Int) * 10 := by rw [IntKind.wrap_i64]; omega
                have hw8 : IntKind.u8.wrap ((d : Int) - 48) = (d : Int) - 48 := by rw [IntKind.wrap_u8]; omega
                have hws : IntKind.i64.wrap (-(m : Int) * 10 - ((d : Int) - 48)) = -(m : Int) * 10 - ((d : Int) - 48) := by rw [IntKind.wrap_i64]; omega
                clear hm hm2
                go_wp2
                go_roundw
                case rel => exact ⟨k + 1, by go_num, by omega, by rw [Hm2.out]; congr 1; omega, HM.out⟩
                case measure => simp [intOf]; omega
              · obtain rfl : k = D.size := by omega
                have hkd' : ¬ (D.size : Int) < (D.size : Int) := by omega
                rw [HAll.out]
                have HA := hid (HAN.out wr HM.out)
                have hwN : IntKind.i64.wrap (-(N : Int)) = -(N : Int) := by rw [IntKind.wrap_i64]; omega
                go_wp2_with fail
                refine HA.out.mono ?_
                rintro e w1 ⟨rfl, hR1⟩
                have HR := hid hR1
                clear hR1 HA
                go_wp2
                exact bodyPost_end (results_none rfl _ _ _) rfl (LeafPost.good HX2.out HR.out)
          · have hj' : (j : Int) < (s.size : Int) := by omega
            have hy1 : (48 : Int) ≤ (y : Int) := by omega
            have hy2 : ¬ (y : Int) ≤ 57 := by omega
            go_wp2_with fail
            go_loopw [6, 7] (fun x y wr => ∃ k : Nat, y = .int .i64 (k : Int) ∧ k ≤ D.size ∧ x = .int .i64 (-(dvL 0 (C.take k) : Int)) ∧ RM w0 rb wr s a v5 v6 L O 0) (fun _ y _ => D.size - (intOf y).toNat)
            case atStart => exact ⟨0, rfl, by omega, by simp [dvN], HM.out⟩
            case round =>
              obtain ⟨k, rfl, hk, rfl, hM⟩ := hrel
              clear HM x0 x1
              have HM := hid hM
              have x0 := hM.box.cell 0
              have x1 := hM.box.cell 1
              simp at x0 x1
              clear hM
              by_cases hkd : k < D.size
              · have hkd' : (k : Int) < (D.size : Int) := by omega
                obtain ⟨d, hd, hd1, hd2, hd3⟩ := HCd.out k hkd
                have hp1 := HPre.out (k + 1)
                obtain ⟨m, hm⟩ : ∃ m, dvL 0 (C.take k) = m := ⟨_, rfl⟩
                obtain ⟨m2, hm2⟩ : ∃ m, dvL 0 (C.take (k + 1)) = m := ⟨_, rfl⟩
                have Hm2 := hid hm2
                rw [hm, hm2] at hd3
                rw [hm2] at hp1
                rw [hm]
                have hb1 : m * 10 + (d - 48) ≤ 9223372036854775808 := by omega
                have hwm : IntKind.i64.wrap (-(m : Int) * 10) = -(m : Int) * 10 := by rw [IntKind.wrap_i64]; omega
                have hw8 : IntKind.u8.wrap ((d : Int) - 48) = (d : Int) - 48 := by rw [IntKind.wrap_u8]; omega
                have hws : IntKind.i64.wrap (-(m : Int) * 10 - ((d : Int) - 48)) = -(m : Int) * 10 - ((d : Int) - 48) := by rw [IntKind.wrap_i64]; omega
                clear hm hm2
                go_wp2
                go_roundw
                case rel => exact ⟨k + 1, by go_num, by omega, by rw [Hm2.out]; congr 1; omega, HM.out⟩
                case measure => simp [intOf]; omega
              · obtain rfl : k = D.size := by omega
                have hkd' : ¬ (D.size : Int) < (D.size : Int) := by omega
                rw [HAll.out]
                have HA := hid (HAN.out wr HM.out)
                have hwN : IntKind.i64.wrap (-(N : Int)) = -(N : Int) := by rw [IntKind.wrap_i64]; omega
                go_wp2_with fail
                refine HA.out.mono ?_
                rintro e w1 ⟨rfl, hR1⟩
                have HR := hid hR1
                clear hR1 HA
                go_wp2
                exact bodyPost_end (results_none rfl _ _ _) rfl (LeafPost.good HX2.out HR.out)
        · have h19a : ¬ (19 : Int) < (D.size : Int) := by omega
          have h19b : (D.size : Int) = 19 := by omega
          rcases HL1.out with hx | ⟨hl, y, hy, hyn⟩ | ⟨hl, y, hy, hyn⟩
          · have hx' : ¬ (j : Int) < (s.size : Int) := by omega
            go_wp2_with fail
            go_loopw [6, 7] (fun x y wr => ∃ k : Nat, y = .int .i64 (k : Int) ∧ k ≤ D.size ∧ x = .int .i64 (-(dvL 0 (C.take k) : Int)) ∧ RM w0 rb wr s a v5 v6 L O 0) (fun _ y _ => D.size - (intOf y).toNat)
            case atStart => exact ⟨0, rfl, by omega, by simp [dvN], HM.out⟩
            case round =>
              obtain ⟨k, rfl, hk, rfl, hM⟩ := hrel
              clear HM x0 x1
              have HM := hid hM
              have x0 := hM.box.cell 0
              have x1 := hM.box.cell 1
              simp at x0 x1
              clear hM
              by_cases hkd : k < D.size
              · have hkd' : (k : Int) < (D.size : Int) := by omega
                obtain ⟨d, hd, hd1, hd2, hd3⟩ := HCd.out k hkd
                have hp1 := HPre.out (k + 1)
                obtain ⟨m, hm⟩ : ∃ m, dvL 0 (C.take k) = m := ⟨_, rfl⟩
                obtain ⟨m2, hm2⟩ : ∃ m, dvL 0 (C.take (k + 1)) = m := ⟨_, rfl⟩
                have Hm2 := hid hm2
                rw [hm, hm2] at hd3
                rw [hm2] at hp1
                rw [hm]
                have hb1 : m * 10 + (d - 48) ≤ 9223372036854775808 := by omega
                have hwm : IntKind.i64.wrap (-(m : Int) * 10) = -(m : Int) * 10 := by rw [IntKind.wrap_i64]; omega
                have hw8 : IntKind.u8.wrap ((d : Int) - 48) = (d : Int) - 48 := by rw [IntKind.wrap_u8]; omega
                have hws : IntKind.i64.wrap (-(m : Int) * 10 - ((d : Int) - 48)) = -(m : Int) * 10 - ((d : Int) - 48) := by rw [IntKind.wrap_i64]; omega
                clear hm hm2
                go_wp2
                go_roundw
                case rel => exact ⟨k + 1, by go_num, by omega, by rw [Hm2.out]; congr 1; omega, HM.out⟩
                case measure => simp [intOf]; omega
              · obtain rfl : k = D.size := by omega
                have hkd' : ¬ (D.size : Int) < (D.size : Int) := by omega
                rw [HAll.out]
                have HA := hid (HAN.out wr HM.out)
                have hwN : IntKind.i64.wrap (-(N : Int)) = -(N : Int) := by rw [IntKind.wrap_i64]; omega
                go_wp2_with fail
                refine HA.out.mono ?_
                rintro e w1 ⟨rfl, hR1⟩
                have HR := hid hR1
                clear hR1 HA
                go_wp2
                exact bodyPost_end (results_none rfl _ _ _) rfl (LeafPost.good HX2.out HR.out)
          · have hj' : (j : Int) < (s.size : Int) := by omega
            have hy1 : ¬ (48 : Int) ≤ (y : Int) := by omega
            go_wp2_with fail
            go_loopw [6, 7] (fun x y wr => ∃ k : Nat, y = .int .i64 (k : Int) ∧ k ≤ D.size ∧ x = .int .i64 (-(dvL 0 (C.take k) : Int)) ∧ RM w0 rb wr s a v5 v6 L O 0) (fun _ y _ => D.size - (intOf y).toNat)
            case atStart => exact ⟨0, rfl, by omega, by simp [dvN], HM.out⟩
            case round =>
              obtain ⟨k, rfl, hk, rfl, hM⟩ := hrel
              clear HM x0 x1
              have HM := hid hM
              have x0 := hM.box.cell 0
              have x1 := hM.box.cell 1
              simp at x0 x1
              clear hM
              by_cases hkd : k < D.size
              · have hkd' : (k : Int) < (D.size : Int) := by omega
                obtain ⟨d, hd, hd1, hd2, hd3⟩ := HCd.out k hkd
                have hp1 := HPre.out (k + 1)
                obtain ⟨m, hm⟩ : ∃ m, dvL 0 (C.take k) = m := ⟨_, rfl⟩
                obtain ⟨m2, hm2⟩ : ∃ m, dvL 0 (C.take (k + 1)) = m := ⟨_, rfl⟩
                have Hm2 := hid hm2
                rw [hm, hm2] at hd3
                rw [hm2] at hp1
                rw [hm]
                have hb1 : m * 10 + (d - 48) ≤ 9223372036854775808 := by omega
                have hwm : IntKind.i64.wrap (-(m : Int) * 10) = -(m : Int) * 10 := by rw [IntKind.wrap_i64]; omega
                have hw8 : IntKind.u8.wrap ((d : Int) - 48) = (d : Int) - 48 := by rw [IntKind.wrap_u8]; omega
                have hws : IntKind.i64.wrap (-(m : Int) * 10 - ((d : Int) - 48)) = -(m : Int) * 10 - ((d : Int) - 48) := by rw [IntKind.wrap_i64]; omega
                clear hm hm2
                go_wp2
                go_roundw
                case rel => exact ⟨k + 1, by go_num, by omega, by rw [Hm2.out]; congr 1; omega, HM.out⟩
                case measure => simp [intOf]; omega
              · obtain rfl : k = D.size := by omega
                have hkd' : ¬ (D.size : Int) < (D.size : Int) := by omega
                rw [HAll.out]
                have HA := hid (HAN.out wr HM.out)
                have hwN : IntKind.i64.wrap (-(N : Int)) = -(N : Int) := by rw [IntKind.wrap_i64]; omega
                go_wp2_with fail
                refine HA.out.mono ?_
                rintro e w1 ⟨rfl, hR1⟩
                have HR := hid hR1
                clear hR1 HA
                go_wp2
                exact bodyPost_end (results_none rfl _ _ _) rfl (LeafPost.good HX2.out HR.out)
          · have hj' : (j : Int) < (s.size : Int) := by omega
            have hy1 : (48 : Int) ≤ (y : Int) := by omega
            have hy2 : ¬ (y : Int) ≤ 57 := by omega
            go_wp2_with fail
            go_loopw [6, 7] (fun x y wr => ∃ k : Nat, y = .int .i64 (k : Int) ∧ k ≤ D.size ∧ x = .int .i64 (-(dvL 0 (C.take k) : Int)) ∧ RM w0 rb wr s a v5 v6 L O 0) (fun _ y _ => D.size - (intOf y).toNat)
            case atStart => exact ⟨0, rfl, by omega, by simp [dvN], HM.out⟩
            case round =>
              obtain ⟨k, rfl, hk, rfl, hM⟩ := hrel
              clear HM x0 x1
              have HM := hid hM
              have x0 := hM.box.cell 0
              have x1 := hM.box.cell 1
              simp at x0 x1
              clear hM
              by_cases hkd : k < D.size
              · have hkd' : (k : Int) < (D.size : Int) := by omega
                obtain ⟨d, hd, hd1, hd2, hd3⟩ := HCd.out k hkd
                have hp1 := HPre.out (k + 1)
                obtain ⟨m, hm⟩ : ∃ m, dvL 0 (C.take k) = m := ⟨_, rfl⟩
                obtain ⟨m2, hm2⟩ : ∃ m, dvL 0 (C.take (k + 1)) = m := ⟨_, rfl⟩
                have Hm2 := hid hm2
                rw [hm, hm2] at hd3
                rw [hm2] at hp1
                rw [hm]
                have hb1 : m * 10 + (d - 48) ≤ 9223372036854775808 := by omega
                have hwm : IntKind.i64.wrap (-(m : Int) * 10) = -(m : Int) * 10 := by rw [IntKind.wrap_i64]; omega
                have hw8 : IntKind.u8.wrap ((d : Int) - 48) = (d : Int) - 48 := by rw [IntKind.wrap_u8]; omega
                have hws : IntKind.i64.wrap (-(m : Int) * 10 - ((d : Int) - 48)) = -(m : Int) * 10 - ((d : Int) - 48) := by rw [IntKind.wrap_i64]; omega
                clear hm hm2
                go_wp2
                go_roundw
                case rel => exact ⟨k + 1, by go_num, by omega, by rw [Hm2.out]; congr 1; omega, HM.out⟩
                case measure => simp [intOf]; omega
              · obtain rfl : k = D.size := by omega
                have hkd' : ¬ (D.size : Int) < (D.size : Int) := by omega
                rw [HAll.out]
                have HA := hid (HAN.out wr HM.out)
                have hwN : IntKind.i64.wrap (-(N : Int)) = -(N : Int) := by rw [IntKind.wrap_i64]; omega
                go_wp2_with fail
                refine HA.out.mono ?_
                rintro e w1 ⟨rfl, hR1⟩
                have HR := hid hR1
                clear hR1 HA
                go_wp2
                exact bodyPost_end (results_none rfl _ _ _) rfl (LeafPost.good HX2.out HR.out)
end Go.Proofs.YtdmhemofhmfkoabGreatDoor
