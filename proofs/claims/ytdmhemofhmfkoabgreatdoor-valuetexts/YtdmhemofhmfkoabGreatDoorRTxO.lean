import Derived.Test.YtdmhemofhmfkoabGreatDoorRTxH
namespace Go.Proofs.YtdmhemofhmfkoabGreatDoor
open Go.RowKit
set_option maxRecDepth 8000
theorem conv_ownR {base : Nat} {w : World} {v : Value} {zs : List Int} (h : OwnBy base w v zs) : (convert 25 9 v).run Tryz.prog w = .ok (.string (strOf zs)) w := by
  obtain ⟨hl, ⟨hv, h0⟩ | ⟨b, cap, cur, hv, r⟩⟩ := id h
  · have hz : zs = [] := List.eq_nil_of_length_eq_zero h0
    subst hv hz
    exact conv_none 0 w
  · subst hv
    exact conv_any h
theorem own_lenR {base : Nat} {w : World} {v : Value} {zs : List Int} (h : OwnBy base w v zs) : ∃ p c, v = .slice p zs.length c := by
  obtain ⟨hl, ⟨hv, h0⟩ | ⟨b, cap, cur, hv, r⟩⟩ := id h
  · exact ⟨none, 0, by rw [hv, h0]⟩
  · exact ⟨_, _, hv⟩
set_option maxHeartbeats 8000000 in
theorem refQuoted_any (w0 : World) (rb : Nat) (s : ByteArray) (a : Nat) (L : List PT) (O : List Nat) (w : World) (h : RR w0 rb w s a L O 0) (hL : L.length < 12) (hs : s.size ≤ 140737488355328) (hc : pk s a = 34) :
    Calls Tryz.prog 93 #[.pointer (some ⟨rb, 0, none⟩)] w fun x w' => LeafPost w0 rb s L O (txtS s a) x w' := by
  have hs' : s.size ≤ 140737488355328 := by omega
  obtain ⟨v5, v6, h⟩ := h
  obtain ⟨i0, Kd⟩ := kindB
  have hlt0 := pk_pos (s := s) (a := a) (by omega)
  obtain ⟨R, hR⟩ : ∃ R, quoS s (s.size + 1) (a + 1) [] = R := ⟨_, rfl⟩
  have HX : Hid (txtS s a = txtOf a R) := by unfold Hid txtS; rw [hR]
  have HR0 := hid hR
  have HM := hid h
  have hrb := h.box.lt
  have HFa := hid (fun W (hW : Below w.heap.size w W) e2 a2 (ha2 : a2 ≤ s.size) => refFault_any w0 rb s a 0 v5 v6 L O W (h.kept hW) e2 a2 ha2)
  have x0 := h.box.cell 0
  have x1 := h.box.cell 1
  simp at x0 x1
  clear h hc hR
  go_enter Tryz.func93, Tryz.ntmps93
  go_wp2_with fail
  go_loopw [2, 3] (fun x y wr => ∃ (Z : List Int) (p k : Nat), y = .int .i64 (p : Int) ∧ p ≤ s.size ∧ s.size < p + k ∧ Z.length ≤ p ∧ quoS s k p Z = R ∧ OwnBy w.heap.size wr x Z ∧ Below w.heap.size w wr) (fun _ y _ => s.size - (intOf y).toNat)
  case atStart => exact ⟨[], a + 1, s.size + 1, by simp, hlt0, by omega, by simp, HR0.out, World.ownsRow_nil _ _ _ _, Below.refl _ _⟩
  case round =>
    obtain ⟨Z, p, k, rfl, hp, hk, hZp, hq, hO, hb⟩ := hrel
    clear HR0 x0 x1
    have HO := hid hO
    have HB := hid hb
    have hsw := hb.size
    obtain ⟨pz, cz, rfl⟩ := own_lenR hO
    clear hO hb
    obtain ⟨k, rfl⟩ : ∃ k', k = k' + 1 := ⟨k - 1, by omega⟩
    have x0 := (HM.out.kept HB.out).box.cell 0
    have x1 := (HM.out.kept HB.out).box.cell 1
    simp at x0 x1
    by_cases hlt : p < s.size
    · have hg := pk_get hlt
      have hk8 := pk_lt s p
      have hn1 : (p : Int) < (s.size : Int) := by omega
      have hn2 : ¬ (s.size : Int) ≤ (p : Int) := by omega
      have hs := hs'
      by_cases h34 : pk s p = 34
      · rw [quo_shut h34] at hq
        rw [h34] at hg
        by_cases h24 : 24 < Z.length
        · have h24' : (24 : Int) < (Z.length : Int) := by omega
          have HX2 : Hid (txtS s a = .error (a, 21)) := by unfold Hid; rw [HX.out, ← hq, txtOf, if_pos h24]
          have HF := hid (HFa.out wr HB.out 21 a (by omega))
          clear hq
          go_wp2_with fail
          refine HF.out.mono ?_
          rintro e w9 ⟨rfl, hR1⟩
          have HR := hid hR1
          clear hR1
          go_wp2
          exact bodyPost_end (results_none rfl _ _ _) rfl (LeafPost.bad HX2.out ⟨_, _, HR.out⟩)
        · have h24' : ¬ (24 : Int) < (Z.length : Int) := by omega
          have HX2 : Hid (txtS s a = .ok (mkT (strOf Z), p + 1)) := by unfold Hid; rw [HX.out, ← hq, txtOf, if_neg h24]
          have hcv := conv_ownR HO.out
          have HA := hid (refAdd_any w0 rb s a 0 v5 v6 L O wr (HM.out.kept HB.out) ⟨2, 0, strOf Z, 0⟩ ⟨by simp, by simp, by simp, by simp, by rw [strOf_size]; omega, by simp⟩ hL (p + 1) hlt)
          clear hq
          go_wp2_with fail
          refine HA.out.mono ?_
          rintro e w9 ⟨rfl, hR1⟩
          have HR := hid hR1
          clear hR1 HA
          go_wp2
          exact bodyPost_end (results_none rfl _ _ _) rfl (LeafPost.good HX2.out HR.out)
      have hne34 : ((pk s p : Nat) : Int) ≠ 34 := by omega
      have hne34b : ((pk s p : Nat) : Int) != 34 := by simp; omega
      by_cases h92 : pk s p = 92
      · rw [h92] at hg
        have HE := hid (refEscape_any s p)
        cases hes : escS s p with
        | error pe =>
          obtain ⟨pe, en⟩ := pe
          rw [quo_esc_err h92 hes] at hq
          obtain ⟨hpe, rfl⟩ := esc_err hlt hes
          have HX2 : Hid (txtS s a = .error (pe, 28)) := by unfold Hid; rw [HX.out, ← hq, txtOf]
          rw [hes] at HE
          clear hq hes
          have HC1 := hid (runeAt_any s p wr hlt hs)
          obtain ⟨r1, r2, hrr⟩ : ∃ r1 r2, runR s p = (r1, r2) := ⟨_, _, rfl⟩
          rw [hrr] at HC1
          clear hrr
          go_wp2_with fail
          refine HC1.out.mono ?_
          intro ex w1 hP1
          obtain ⟨rfl, hb1⟩ := hP1
          have HB1 := hid (HB.out.trans (hb1.mono HB.out.size))
          have HO1 := hid (HO.out.below hb1)
          clear hb1 HC1 x0 x1
          have x0 := (HM.out.kept HB1.out).box.cell 0
          have x1 := (HM.out.kept HB1.out).box.cell 1
          simp at x0 x1
          have HC2 := hid (HE.out w1 hlt hs)
          go_wp2_with fail
          refine HC2.out.mono ?_
          rintro ex w2 ⟨hP2, hb2⟩
          obtain rfl := hP2.2 pe 28 rfl
          have HB2 := hid (HB1.out.trans (hb2.mono HB1.out.size))
          have HF := hid (HFa.out w2 HB2.out 28 pe hpe)
          clear hb2 hP2 HC2 x0 x1
          have x0 := (HM.out.kept HB2.out).box.cell 0
          have x1 := (HM.out.kept HB2.out).box.cell 1
          simp at x0 x1
          go_wp2_with fail
          refine HF.out.mono ?_
          rintro e w9 ⟨rfl, hR1⟩
          have HR := hid hR1
          clear hR1
          go_wp2
          exact bodyPost_end (results_none rfl _ _ _) rfl (LeafPost.bad HX2.out ⟨_, _, HR.out⟩)
        | ok ba =>
          obtain ⟨bb, a'⟩ := ba
          rw [quo_esc_ok h92 hes] at hq
          obtain ⟨he1, he2, he3⟩ := esc_ok hes
          rw [hes] at HE
          have HQ := hid hq
          clear hq hes
          obtain ⟨da, rfl⟩ : ∃ d, a' = p + d := ⟨a' - p, by omega⟩
          have hda : 0 < da := by omega
          have HC1 := hid (runeAt_any s p wr hlt hs)
          obtain ⟨r1, r2, hrr⟩ : ∃ r1 r2, runR s p = (r1, r2) := ⟨_, _, rfl⟩
          rw [hrr] at HC1
          clear hrr
          go_wp2_with fail
          refine HC1.out.mono ?_
          intro ex w1 hP1
          obtain ⟨rfl, hb1⟩ := hP1
          have HB1 := hid (HB.out.trans (hb1.mono HB.out.size))
          have HO1 := hid (HO.out.below hb1)
          clear hb1 HC1 x0 x1
          have x0 := (HM.out.kept HB1.out).box.cell 0
          have x1 := (HM.out.kept HB1.out).box.cell 1
          simp at x0 x1
          have HC2 := hid (HE.out w1 hlt hs)
          go_wp2_with fail
          refine HC2.out.mono ?_
          rintro ex w2 ⟨hP2, hb2⟩
          obtain rfl := hP2.1 bb (p + da) rfl
          have HB2 := hid (HB1.out.trans (hb2.mono HB1.out.size))
          have HO2 := hid (HO1.out.below hb2)
          have hs2 := HB2.out.size
          have hda2 : ((p + da : Nat) : Int) - (p : Int) = (da : Int) := by omega
          have hda3 : ¬ (da : Int) = 0 := by omega
          have hrow : (w2.alloc (.cells #[.int .u8 (bb : Int)] 5)).ownsRow w.heap.size 5 1 (.slice pz Z.length cz) Z.length (Z.map (Value.int .u8)) := HO2.out.below ((Below.refl _ _).alloc (Nat.le_refl _) _)
          rw [hda2]
          clear hb2 hP2 HC2 x0 x1
          go_wp2_with (at_builtin; refine wpList_app rfl (.tmp 67) (.tmp 69) 25 5 i0 _ 1 1 Kd rfl w.heap.size (.slice pz Z.length cz) Z.length (Z.map (Value.int .u8)) rfl hrow ⟨w2.heap.size, 0, none⟩ 1 1 [.int .u8 (bb : Int)] rfl rfl ?_ ?_ (by omega) (by omega) ?_ ?_)
          · intro j u h
            rw [cell_new, ← h]
            simp
          · intro u hu
            rw [List.mem_singleton.1 hu]
            rfl
          · simp; omega
          · intro v8 w8 ho8 hg8 hn8
            have HO8 := hid (HO2.out.below ((Below.refl _ _).alloc (Nat.le_refl _) (.cells #[.int .u8 (bb : Int)] 5)) |>.app (ys := [(bb : Int)]) ho8)
            have HB8 := hid ((HB2.out.alloc hs2 (.cells #[.int .u8 (bb : Int)] 5)).grown hg8 (by simp; omega) (fun k hk => (World.ownsRow.lt HO2.out k hk).1))
            clear ho8 hg8 hn8 hrow
            go_wp2
            go_roundw
            case rel => exact ⟨Z ++ [(bb : Int)], p + da, k, by go_num, by omega, by omega, by simp; omega, HQ.out, HO8.out, HB8.out⟩
            case measure => simp [intOf]; omega
      have hne92 : ((pk s p : Nat) : Int) ≠ 92 := by omega
      by_cases hasc : 32 ≤ pk s p ∧ pk s p < 127
      · rw [quo_asc hasc.1 hasc.2 h34 h92] at hq
        have HQ := hid hq
        obtain ⟨z, hz⟩ : ∃ z, pk s p = z := ⟨_, rfl⟩
        rw [hz] at hg HQ hasc hne34 hne92 h34 h92 hne34b
        have hz1 : (32 : Int) ≤ (z : Int) := by omega
        have hz2 : (z : Int) < 127 := by omega
        clear hq hz
        have HC1 := hid (runeAt_any s p wr hlt hs)
        obtain ⟨r1, r2, hrr⟩ : ∃ r1 r2, runR s p = (r1, r2) := ⟨_, _, rfl⟩
        rw [hrr] at HC1
        clear hrr
        go_wp2_with fail
        refine HC1.out.mono ?_
        intro ex w1 hP1
        obtain ⟨rfl, hb1⟩ := hP1
        have HB1 := hid (HB.out.trans (hb1.mono HB.out.size))
        have HO1 := hid (HO.out.below hb1)
        clear hb1 HC1 x0 x1
        have x0 := (HM.out.kept HB1.out).box.cell 0
        have x1 := (HM.out.kept HB1.out).box.cell 1
        simp at x0 x1
        have hs2 := HB1.out.size
        have hrow : (w1.alloc (.cells #[.int .u8 (z : Int)] 5)).ownsRow w.heap.size 5 1 (.slice pz Z.length cz) Z.length (Z.map (Value.int .u8)) := HO1.out.below ((Below.refl _ _).alloc (Nat.le_refl _) _)
        go_wp2_with (at_builtin; refine wpList_app rfl (.tmp 81) (.tmp 83) 25 5 i0 _ 1 1 Kd rfl w.heap.size (.slice pz Z.length cz) Z.length (Z.map (Value.int .u8)) rfl hrow ⟨w1.heap.size, 0, none⟩ 1 1 [.int .u8 (z : Int)] rfl rfl ?_ ?_ (by omega) (by omega) ?_ ?_)
        · intro j u h
          rw [cell_new, ← h]
          simp
        · intro u hu
          rw [List.mem_singleton.1 hu]
          rfl
        · simp; omega
        · intro v8 w8 ho8 hg8 hn8
          have HO8 := hid (HO1.out.below ((Below.refl _ _).alloc (Nat.le_refl _) (.cells #[.int .u8 (z : Int)] 5)) |>.app (ys := [(z : Int)]) ho8)
          have HB8 := hid ((HB1.out.alloc hs2 (.cells #[.int .u8 (z : Int)] 5)).grown hg8 (by simp; omega) (fun k hk => (World.ownsRow.lt HO1.out k hk).1))
          clear ho8 hg8 hn8 hrow
          go_wp2
          go_roundw
          case rel => exact ⟨Z ++ [(z : Int)], p + 1, k, by go_num, by omega, by omega, by simp; omega, HQ.out, HO8.out, HB8.out⟩
          case measure => simp [intOf]; omega
      by_cases hrun : 0 < (runR s p).2
      · by_cases h127 : 127 ≤ pk s p
        · obtain ⟨hq2, hle, h4⟩ := quo_run (k := k) (acc := Z) hlt h127 hrun
          rw [hq2] at hq
          obtain ⟨z, hz⟩ : ∃ z, pk s p = z := ⟨_, rfl⟩
          rw [hz] at hg h127 hne34 hne92 h34 h92 hne34b
          have hz1 : (32 : Int) ≤ (z : Int) := by omega
          have hz2 : ¬ (z : Int) < 127 := by omega
          clear hz hq2 hasc
          have HC1 := hid (runeAt_any s p wr hlt hs)
          obtain ⟨r1, r2, hrr⟩ : ∃ r1 r2, runR s p = (r1, r2) := ⟨_, _, rfl⟩
          rw [hrr] at HC1 hq hle h4 hrun
          have HQ := hid hq
          clear hrr hq
          go_wp2_with fail
          refine HC1.out.mono ?_
          intro ex w1 hP1
          obtain ⟨rfl, hb1⟩ := hP1
          have HB1 := hid (HB.out.trans (hb1.mono HB.out.size))
          have HO1 := hid (HO.out.below hb1)
          clear hb1 HC1 x0 x1
          have x0 := (HM.out.kept HB1.out).box.cell 0
          have x1 := (HM.out.kept HB1.out).box.cell 1
          simp at x0 x1
          have hs2 := HB1.out.size

          have hr0 : (0 : Int) < (r2 : Int) := by omega
          have hpr : (p : Int) ≤ (p : Int) + (r2 : Int) := by omega
          have hpr2 : (p : Int) + (r2 : Int) ≤ (s.size : Int) := by omega
          have htp : ((p : Int) + (r2 : Int)).toNat = p + r2 := by omega
          have hrow : w1.ownsRow w.heap.size 5 1 (.slice pz Z.length cz) Z.length (Z.map (Value.int .u8)) := HO1.out
          have hxs : (s.extract p (p + r2)).size = r2 := by rw [ByteArray.size_extract]; omega
          go_wp2_with (at_builtin; refine Go.Lib.wpList_append_own_string _ rfl (.tmp 90) (.tmp 99) 25 9 rfl w.heap.size 5 i0 Kd.ht Tryz.underlying9 Kd.hi Kd.hz Kd.hsize Kd.hby (.slice pz Z.length cz) Z.length _ rfl hrow (s.extract p (p + r2)) rfl (by unfold maxLen; omega) (by omega) (by omega) ?_)
          intro v8 w8 ho8 hg8 hn8
          have ho9 : OwnBy w.heap.size w8 v8 (Z ++ txtB (s.extract p (p + r2))) := HO1.out.app (ys := txtB (s.extract p (p + r2))) (by rw [txtB_len, ← strCells_txt, hxs]; exact ho8)
          have HO8 := hid ho9
          have HB8 := hid (HB1.out.grown hg8 (by omega) (fun k hk => (World.ownsRow.lt HO1.out k hk).1))
          clear ho8 hg8 hn8 hrow ho9
          go_wp2
          go_roundw
          case rel => exact ⟨Z ++ txtB (s.extract p (p + r2)), p + r2, k, by go_num, by omega, by omega, by rw [List.length_append, txtB_len]; omega, HQ.out, HO8.out, HB8.out⟩
          case measure => simp [intOf]; omega
        · exfalso
          rw [run_no (by omega)] at hrun
          simp at hrun
      · rw [quo_no hlt h34 h92 (by omega) (by omega)] at hq
        have HX2 : Hid (txtS s a = .error (p, 28)) := by unfold Hid; rw [HX.out, ← hq, txtOf]
        obtain ⟨z, hz⟩ : ∃ z, pk s p = z := ⟨_, rfl⟩
        rw [hz] at hg hasc hne34 hne92 h34 h92 hne34b
        clear hz hq
        have HC1 := hid (runeAt_any s p wr hlt hs)
        obtain ⟨r1, r2, hrr⟩ : ∃ r1 r2, runR s p = (r1, r2) := ⟨_, _, rfl⟩
        rw [hrr] at HC1 hrun
        clear hrr
        go_wp2_with fail
        refine HC1.out.mono ?_
        intro ex w1 hP1
        obtain ⟨rfl, hb1⟩ := hP1
        have HB1 := hid (HB.out.trans (hb1.mono HB.out.size))
        have HO1 := hid (HO.out.below hb1)
        clear hb1 HC1 x0 x1
        have x0 := (HM.out.kept HB1.out).box.cell 0
        have x1 := (HM.out.kept HB1.out).box.cell 1
        simp at x0 x1

        have hr0 : ¬ (0 : Int) < (r2 : Int) := by omega
        have HF := hid (HFa.out w1 HB1.out 28 p hp)
        by_cases hz1 : z < 32
        · have hz2 : ¬ (32 : Int) ≤ (z : Int) := by omega
          go_wp2_with fail
          refine HF.out.mono ?_
          rintro e w9 ⟨rfl, hR1⟩
          have HR := hid hR1
          clear hR1
          go_wp2
          exact bodyPost_end (results_none rfl _ _ _) rfl (LeafPost.bad HX2.out ⟨_, _, HR.out⟩)
        · have hz2 : (32 : Int) ≤ (z : Int) := by omega
          have hz3 : ¬ (z : Int) < 127 := by omega
          go_wp2_with fail
          refine HF.out.mono ?_
          rintro e w9 ⟨rfl, hR1⟩
          have HR := hid hR1
          clear hR1
          go_wp2
          exact bodyPost_end (results_none rfl _ _ _) rfl (LeafPost.bad HX2.out ⟨_, _, HR.out⟩)
    · obtain rfl : p = s.size := by omega
      rw [quo_end (Nat.le_refl _)] at hq
      have HX2 : Hid (txtS s a = .error (s.size, 28)) := by unfold Hid; rw [HX.out, ← hq, txtOf]
      have HF := hid (HFa.out wr HB.out 28 s.size (Nat.le_refl _))
      clear hq
      go_wp2_with fail
      refine HF.out.mono ?_
      rintro e w9 ⟨rfl, hR1⟩
      have HR := hid hR1
      clear hR1
      go_wp2
      exact bodyPost_end (results_none rfl _ _ _) rfl (LeafPost.bad HX2.out ⟨_, _, HR.out⟩)
end Go.Proofs.YtdmhemofhmfkoabGreatDoor
