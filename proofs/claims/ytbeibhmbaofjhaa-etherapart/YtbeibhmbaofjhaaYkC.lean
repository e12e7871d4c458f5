import Derived.Test.YtbeibhmbaofjhaaYkB
namespace Go.Proofs.Ytbeibhmbaofjhaa
open Go.RowKit
set_option maxRecDepth 8000
theorem row_val {w : World} {ty : TypeId} {sz : Nat} {v : Value} {n : Nat} {xs : List Value} (h : w.ownsRow 0 ty sz v n xs) : ∃ p c, v = .slice p n c := by
  obtain ⟨_, ⟨hv, h0⟩ | ⟨g, cap, cur, hv, _⟩⟩ := h
  · exact ⟨none, 0, by rw [hv, h0]⟩
  · exact ⟨_, cap, hv⟩
theorem row_at {w : World} {ty : TypeId} {v : Value} {n : Nat} {xs : List Value} (h : w.ownsRow 0 ty 1 v n xs) (hn : 0 < n) : ∃ g cap, v = .slice (some ⟨g, 0, none⟩) n cap ∧ n ≤ cap ∧ g < w.heap.size ∧ g ∈ ob v ∧ ∀ j u, xs[j]? = some u → w.cell? ⟨g, j, none⟩ = some u := by
  have hce := @World.ownsRow.cells _ _ _ _ _ _ _ h
  have hlt := h.lt
  obtain ⟨_, ⟨hv, h0⟩ | ⟨g, cap, cur, hv, _, hh, hnc, hcm, _⟩⟩ := id h
  · omega
  · have hg : v.ownBlock = some g := by rw [hv]; rfl
    refine ⟨g, cap, hv, hnc, (hlt g hg).2, ob_mem.2 hg, fun j u hu => ?_⟩
    have := hce hg j u hu
    rw [Go.WideShapes.add_plain] at this
    simpa using this
theorem zs_at {l m : List YS} (h : l.map YS.zs = m.map YS.zs) {i : Nat} {x : YS} (hx : m[i]? = some x) : ∃ y, l[i]? = some y ∧ y.zs = x.zs := by
  have h1 := congrArg (fun q => q[i]?) h
  simp only [List.getElem?_map, hx, Option.map_some] at h1
  cases hl : l[i]? with
  | none => rw [hl] at h1; cases h1
  | some y => rw [hl] at h1; exact ⟨y, rfl, Option.some.inj h1⟩
theorem zs_len {l m : List YS} (h : l.map YS.zs = m.map YS.zs) : l.length = m.length := by
  have := congrArg List.length h
  simpa using this
theorem wait_ok {w : World} {x : YS} (h : OwnBy 0 w x.val x.zs ∧ (∀ z ∈ x.zs, 0 ≤ z ∧ z ≤ 255) ∧ x.zs.length ≤ 140000) : x.ok w := by
  obtain ⟨h, hz, hl⟩ := h
  obtain ⟨p, c, zs⟩ := x
  have hc := @World.ownsRow.cells _ _ _ _ _ _ _ h
  have hlt := h.lt
  have hfit : ∀ j, j < zs.length → 0 ≤ zs.getD j 0 ∧ zs.getD j 0 < 256 := fun j hj => by
    rw [List.getD_eq_getElem?_getD, List.getElem?_eq_getElem hj, Option.getD_some]
    have := hz _ (List.getElem_mem hj)
    omega
  have hl' : zs.length ≤ 140000 := hl
  obtain ⟨_, ⟨hv, h0⟩ | ⟨g, cap, cur, hv, _, hh, hnc, hcm, _⟩⟩ := id h
  · simp only [YS.val, Value.slice.injEq] at hv
    obtain ⟨hp, hn, hcc⟩ := hv
    have h0 : zs.length = 0 := h0
    exact ⟨fun h1 => by have h2 : 0 < zs.length := h1; omega, by show zs.length ≤ c; omega, by show zs.length ≤ _; omega, by show c ≤ maxLen; rw [hcc]; exact Nat.zero_le _, hfit, fun _ => ⟨h0, hcc⟩⟩
  · simp only [YS.val, Value.slice.injEq] at hv
    obtain ⟨hp, hn, hcc⟩ := hv
    have hnc : zs.length ≤ cap := hnc
    have hg : (YS.val ⟨p, c, zs⟩).ownBlock = some g := by simp [YS.val, hp, Value.ownBlock]
    refine ⟨fun h1 => ⟨g, 0, hp, ⟨h1, 0, hp⟩, (hlt g hg).2, fun j hj => ?_⟩, by show zs.length ≤ c; omega, by show zs.length ≤ _; omega, by show c ≤ maxLen; rw [hcc]; exact hcm, hfit, fun e => by have e' : p = none := e; rw [hp] at e'; cases e'⟩
    have hj' : j < zs.length := hj
    have h2 := hc hg j (.int .u8 (zs.getD j 0)) (by rw [List.getElem?_map, List.getElem?_eq_getElem hj', List.getD_eq_getElem?_getD, List.getElem?_eq_getElem hj']; rfl)
    rw [Go.WideShapes.add_plain] at h2
    exact h2
set_option maxHeartbeats 8000000 in
theorem holdBytes_any (Z : Nat → Prop) (kb : Nat) (b : Yb) (outs told waits notes : List YS) (marks lefts : List Int) (w : World) (hI : YbI w Z kb b outs told waits notes marks lefts) :
    Calls Try.prog 20 #[.pointer (some ⟨kb, 0, none⟩)] w fun e w' => e = .returned (.bool true) ∧ Below w.heap.size w w' := by
  have HI := hid hI
  have HB : Hid (Below w.heap.size w w) := Below.refl _ _
  have hbo : outs.length ≤ 2000000 := by have := hI.2.le; have := hI.2.s0; omega
  have hbw0 : waits.length ≤ 2000000 := by have := hI.2.le; have := hI.2.s0; omega
  clear hI
  go_enter Try.func20, Try.ntmps20
  go_wp2_with fail
  go_loopw [3] (fun x wr => ∃ i : Nat, i ≤ outs.length ∧ x = .int .i64 (i : Int) ∧ Below w.heap.size w wr) (fun x _ => outs.length - (intOf x).toNat)
  case atStart => exact ⟨0, Nat.zero_le _, rfl, HB.out⟩
  case round =>
    obtain ⟨i, hi, rfl, hbw⟩ := hrel
    have HBw := hid hbw
    clear hbw
    have hIw := HI.out.1.below HBw.out
    have hro := hIw.row 0 (by decide)
    have hrt := hIw.row 1 (by decide)
    rw [HI.out.2.x0, List.length_map] at hro
    rw [HI.out.2.x1, List.length_map] at hrt
    obtain ⟨po, co, hpo⟩ := row_val hro
    have cf : wr.cell? ⟨kb, 2, none⟩ = some (.slice po outs.length co) := by rw [← hpo]; exact (hIw.bx.cell 2).trans rfl
    have cl := hIw.bx.lt
    by_cases hlt : i < outs.length
    · as_aux_lemma =>
      have hlt' : (i : Int) < (outs.length : Int) := by omega
      obtain ⟨g, cap, hv, hcap, hgl, _, hat⟩ := row_at hro (by omega)
      have hMl : told.length = outs.length := zs_len HI.out.2.so
      obtain ⟨h, cap2, hv2, hcap2, hhl, _, hat2⟩ := row_at hrt (by omega)
      rw [hMl] at hv2 hcap2
      have e1 := hpo.symm.trans hv
      simp only [Value.slice.injEq, true_and] at e1
      obtain ⟨rfl, rfl⟩ := e1
      have cf2 : wr.cell? ⟨kb, 3, none⟩ = some (.slice (some ⟨h, 0, none⟩) outs.length cap2) := by rw [← hv2]; exact (hIw.bx.cell 3).trans rfl
      obtain ⟨x, hx⟩ : ∃ x, outs[i]? = some x := ⟨_, List.getElem?_eq_getElem hlt⟩
      obtain ⟨y, hy, hyz⟩ := zs_at HI.out.2.so hx
      have cx : wr.cell? ⟨g, i, none⟩ = some (.slice x.p x.zs.length x.c) := hat i _ (by rw [List.getElem?_map, hx]; rfl)
      have cy : wr.cell? ⟨h, i, none⟩ = some (.slice y.p x.zs.length y.c) := hat2 i _ (by rw [List.getElem?_map, hy]; show some y.val = _; rw [YS.val, hyz])
      have kx : x.ok wr := hIw.cc x (HI.out.2.rd x (.inl (List.mem_of_getElem? hx)))
      have ky : y.ok wr := hIw.cc y (HI.out.2.rd y (.inr (.inl (List.mem_of_getElem? hy))))
      have HS : Hid (∀ u : BW wr, Calls Try.prog 39 #[.slice x.p x.zs.length x.c, .slice y.p x.zs.length y.c] u.val fun e w' => e = .returned (.bool true) ∧ ∃ u' : BW wr, w' = u'.val) := by
        intro u
        have k1 := YS.ok_kept kx u.prop.size fun k _ hl => u.prop.block k hl
        have k2 := YS.ok_kept ky u.prop.size fun k _ hl => u.prop.block k hl
        unfold YS.ok at k1 k2
        rw [hyz] at k2
        exact (ksame_yes _ _ _ _ _ _ u.val _ _ k1 k2).mono fun e w' hq => ⟨hq.1, u, hq.2⟩
      clear hIw hro hrt hpo hv hv2 hat hat2 hMl hx hy hyz kx ky
      go_upto_region 4 with fail
      have E0 := fun u : BW wr => u.fact cf cl
      have E1 := fun u : BW wr => u.fact cf2 cl
      have E2 := fun u : BW wr => u.fact cx hgl
      have E3 := fun u : BW wr => u.fact cy hhl
      refine wp_region_bw wr (Below.refl _ _).drew (by kernel_rfl) (by kernel_rfl) ?_
      repeat (go_big_quiet_step (fail))
      go_big_quiet_step (exact HS.out _)
      repeat (go_big_quiet_step (fail))
      refine wpQuiet_nil ?_
      rintro w4 ⟨u0, hw0⟩
      have hb4 : Below wr.heap.size wr w4 := by rw [hw0]; exact u0.prop
      clear hw0 u0
      clear E0 E1 E2 E3
      have HB4 : Hid (Below w.heap.size w w4) := HBw.out.trans (hb4.mono HBw.out.size)
      clear hb4 HS cf cf2 cx cy cl hgl hhl
      go_wp2
      go_roundw
      case rel => exact ⟨i + 1, hlt, by go_num, HB4.out⟩
      case measure =>
        simp [intOf]; omega
    · as_aux_lemma =>
      have hlt' : ¬ (i : Int) < (outs.length : Int) := by omega
      clear hIw hro hrt hpo
      have HB := hid HBw.out
      go_wp2_with fail
      go_loopw [4] (fun x wr => ∃ i : Nat, i ≤ waits.length ∧ x = .int .i64 (i : Int) ∧ Below w.heap.size w wr) (fun x _ => waits.length - (intOf x).toNat)
      case atStart => exact ⟨0, Nat.zero_le _, rfl, HB.out⟩
      case round =>
        obtain ⟨i, hi, rfl, hbw⟩ := hrel
        have HBw := hid hbw
        clear hbw
        have hIw := HI.out.1.below HBw.out
        have hro := hIw.row 2 (by decide)
        have hrt := hIw.row 3 (by decide)
        rw [HI.out.2.x2, List.length_map] at hro
        rw [HI.out.2.x3, List.length_map] at hrt
        obtain ⟨po, co, hpo⟩ := row_val hro
        have cf : wr.cell? ⟨kb, 4, none⟩ = some (.slice po waits.length co) := by rw [← hpo]; exact (hIw.bx.cell 4).trans rfl
        have cl := hIw.bx.lt
        by_cases hlt : i < waits.length
        · as_aux_lemma =>
          have hlt' : (i : Int) < (waits.length : Int) := by omega
          obtain ⟨g, cap, hv, hcap, hgl, _, hat⟩ := row_at hro (by omega)
          have hMl : notes.length = waits.length := zs_len HI.out.2.sn
          obtain ⟨h, cap2, hv2, hcap2, hhl, _, hat2⟩ := row_at hrt (by omega)
          rw [hMl] at hv2 hcap2
          have e1 := hpo.symm.trans hv
          simp only [Value.slice.injEq, true_and] at e1
          obtain ⟨rfl, rfl⟩ := e1
          have cf2 : wr.cell? ⟨kb, 5, none⟩ = some (.slice (some ⟨h, 0, none⟩) waits.length cap2) := by rw [← hv2]; exact (hIw.bx.cell 5).trans rfl
          obtain ⟨x, hx⟩ : ∃ x, waits[i]? = some x := ⟨_, List.getElem?_eq_getElem hlt⟩
          obtain ⟨y, hy, hyz⟩ := zs_at HI.out.2.sn hx
          have cx : wr.cell? ⟨g, i, none⟩ = some (.slice x.p x.zs.length x.c) := hat i _ (by rw [List.getElem?_map, hx]; rfl)
          have cy : wr.cell? ⟨h, i, none⟩ = some (.slice y.p x.zs.length y.c) := hat2 i _ (by rw [List.getElem?_map, hy]; show some y.val = _; rw [YS.val, hyz])
          have kx : x.ok wr := wait_ok (hIw.cw x (by rw [HI.out.2.ow]; exact List.mem_of_getElem? hx))
          have ky : y.ok wr := hIw.cc y (HI.out.2.rd y (.inr (.inr (List.mem_of_getElem? hy))))
          have HS : Hid (∀ u : BW wr, Calls Try.prog 39 #[.slice x.p x.zs.length x.c, .slice y.p x.zs.length y.c] u.val fun e w' => e = .returned (.bool true) ∧ ∃ u' : BW wr, w' = u'.val) := by
            intro u
            have k1 := YS.ok_kept kx u.prop.size fun k _ hl => u.prop.block k hl
            have k2 := YS.ok_kept ky u.prop.size fun k _ hl => u.prop.block k hl
            unfold YS.ok at k1 k2
            rw [hyz] at k2
            exact (ksame_yes _ _ _ _ _ _ u.val _ _ k1 k2).mono fun e w' hq => ⟨hq.1, u, hq.2⟩
          clear hIw hro hrt hpo hv hv2 hat hat2 hMl hx hy hyz kx ky
          go_upto_region 9 with fail
          have E0 := fun u : BW wr => u.fact cf cl
          have E1 := fun u : BW wr => u.fact cf2 cl
          have E2 := fun u : BW wr => u.fact cx hgl
          have E3 := fun u : BW wr => u.fact cy hhl
          refine wp_region_bw wr (Below.refl _ _).drew (by kernel_rfl) (by kernel_rfl) ?_
          repeat (go_big_quiet_step (fail))
          go_big_quiet_step (exact HS.out _)
          repeat (go_big_quiet_step (fail))
          refine wpQuiet_nil ?_
          rintro w4 ⟨u0, hw0⟩
          have hb4 : Below wr.heap.size wr w4 := by rw [hw0]; exact u0.prop
          clear hw0 u0
          clear E0 E1 E2 E3
          have HB4 : Hid (Below w.heap.size w w4) := HBw.out.trans (hb4.mono HBw.out.size)
          clear hb4 HS cf cf2 cx cy cl hgl hhl
          go_wp2
          go_roundw
          case rel => exact ⟨i + 1, hlt, by go_num, HB4.out⟩
          case measure =>
            simp [intOf]; omega
        · as_aux_lemma =>
          have hlt' : ¬ (i : Int) < (waits.length : Int) := by omega
          clear hIw hro hrt hpo
          go_wp2
          exact bodyPost_ret (v := .bool true) (by simp [results, Try.results20, go_sem]) rfl (⟨rfl, HBw.out⟩)
set_option maxHeartbeats 8000000 in
/-- Hold says yes -/
theorem hold_any (Z : Nat → Prop) (kb : Nat) (b : Yb) (outs told waits notes : List YS) (marks lefts : List Int) (w : World) (hI : YbI w Z kb b outs told waits notes marks lefts) :
    Calls Try.prog 10 #[.pointer (some ⟨kb, 0, none⟩)] w fun e w' => e = .returned (.bool true) ∧ Below w.heap.size w w' := by
  have HC := hid (holdBytes_any Z kb b outs told waits notes marks lefts w hI)
  have HI := hid hI
  have cb : w.cell? ⟨kb, 1, none⟩ = some (.bool false) := (hI.1.bx.cell 1).trans rfl
  have cl := hI.1.bx.lt
  clear hI
  go_enter Try.func10, Try.ntmps10
  go_wp2_with fail
  refine HC.out.mono ?_
  rintro e w1 ⟨rfl, hb1⟩
  have HX := hid (HI.out.1.bx.below hb1)
  have HB := hid hb1
  clear hb1 HC HI cb cl
  have HN := hid (holdByteLists_nil kb _ _ _ _ _ _ _ _ HX.out)
  go_wp2_with fail
  refine HN.out.mono ?_
  rintro e w' ⟨rfl, hw⟩
  obtain rfl := hw.symm
  clear HN
  have HN := hid (holdInts_nil kb _ _ _ _ _ _ _ _ HX.out)
  go_wp2_with fail
  refine HN.out.mono ?_
  rintro e w' ⟨rfl, hw⟩
  obtain rfl := hw.symm
  clear HN
  have HN := hid (holdBools_nil kb _ _ _ _ _ _ _ _ HX.out)
  go_wp2_with fail
  refine HN.out.mono ?_
  rintro e w' ⟨rfl, hw⟩
  obtain rfl := hw.symm
  clear HN
  have HN := hid (holdTexts_nil kb _ _ _ _ _ _ _ _ HX.out)
  go_wp2_with fail
  refine HN.out.mono ?_
  rintro e w' ⟨rfl, hw⟩
  obtain rfl := hw.symm
  clear HN
  have HN := hid (holdValues_nil kb _ _ _ _ _ _ _ _ HX.out)
  go_wp2_with fail
  refine HN.out.mono ?_
  rintro e w' ⟨rfl, hw⟩
  obtain rfl := hw.symm
  clear HN
  have HN := hid (holdRecords_nil kb _ _ _ _ _ _ _ _ HX.out)
  go_wp2_with fail
  refine HN.out.mono ?_
  rintro e w' ⟨rfl, hw⟩
  obtain rfl := hw.symm
  clear HN
  have HN := hid (holdCells_nil kb _ _ _ _ _ _ _ _ HX.out)
  go_wp2_with fail
  refine HN.out.mono ?_
  rintro e w' ⟨rfl, hw⟩
  obtain rfl := hw.symm
  clear HN
  have HN := hid (holdStates_nil kb _ _ _ _ _ _ _ _ HX.out)
  go_wp2_with fail
  refine HN.out.mono ?_
  rintro e w' ⟨rfl, hw⟩
  obtain rfl := hw.symm
  clear HN
  have HN := hid (holdRecordLists_nil kb _ _ _ _ _ _ _ _ HX.out)
  go_wp2_with fail
  refine HN.out.mono ?_
  rintro e w' ⟨rfl, hw⟩
  obtain rfl := hw.symm
  clear HN
  have HN := hid (holdIntLists_nil kb _ _ _ _ _ _ _ _ HX.out)
  go_wp2_with fail
  refine HN.out.mono ?_
  rintro e w' ⟨rfl, hw⟩
  obtain rfl := hw.symm
  clear HN
  have HN := hid (holdRows_nil kb _ _ _ _ _ _ _ _ HX.out)
  go_wp2_with fail
  refine HN.out.mono ?_
  rintro e w' ⟨rfl, hw⟩
  obtain rfl := hw.symm
  clear HN
  have HN := hid (holdTrails_nil kb _ _ _ _ _ _ _ _ HX.out)
  go_wp2_with fail
  refine HN.out.mono ?_
  rintro e w' ⟨rfl, hw⟩
  obtain rfl := hw.symm
  clear HN
  have HN := hid (holdParts_nil kb _ _ _ _ _ _ _ _ HX.out)
  go_wp2_with fail
  refine HN.out.mono ?_
  rintro e w' ⟨rfl, hw⟩
  obtain rfl := hw.symm
  clear HN
  have HN := hid (holdFlights_nil kb _ _ _ _ _ _ _ _ HX.out)
  go_wp2_with fail
  refine HN.out.mono ?_
  rintro e w' ⟨rfl, hw⟩
  obtain rfl := hw.symm
  clear HN
  go_wp2
  exact bodyPost_ret (v := .bool true) (by simp [results, Try.results10, go_sem]) rfl (⟨rfl, HB.out⟩)
end Go.Proofs.Ytbeibhmbaofjhaa
