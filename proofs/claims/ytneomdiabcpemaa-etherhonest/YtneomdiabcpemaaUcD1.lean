import Derived.Test.YtneomdiabcpemaaUcD
namespace Go.Proofs.Ytneomdiabcpemaa
open Go.RowKit
set_option maxRecDepth 8000
set_option maxHeartbeats 8000000 in
theorem step_1 (W w : World) (b kb : Nat) (m : Int) (N : Nat) (h : HT W w b kb m N) (hN : N * 56 ≤ 140737488355328) (wh a1 b1 : Int) (y : BY) (hy : Byts W (fun k => k < W.heap.size) y.p y.n y.c y.f) (_hb1 : b1 ≤ 9223372036854775807) :
    Calls Try.prog 16 #[.pointer (some ⟨kb, 0, none⟩), .pointer (some ⟨b, 0, none⟩), .int .i64 m, .agg #[.int .i64 1, .int .i64 wh, .int .i64 a1, .int .i64 b1, .slice y.p y.n y.c]] w fun e w' => StQ W b kb m N e w' := by
  obtain ⟨Z, A, l, cp, dl, dr, fl, h, hkb, hrw, hon, hbd⟩ := h
  obtain ⟨V, hV⟩ : ∃ V, V = w.alloc (.cells #[.int .i64 1, .int .i64 wh, .int .i64 a1, .int .i64 b1, .slice y.p y.n y.c] 48) := ⟨_, rfl⟩
  have hBV : Below w.heap.size w V := by rw [hV]; exact (Below.refl _ _).alloc (Nat.le_refl _) _
  have hX : Box V w.heap.size #[.int .i64 1, .int .i64 wh, .int .i64 a1, .int .i64 b1, .slice y.p y.n y.c] 48 := by rw [hV]; exact Box.new _ _ _
  have hVs : V.heap.size = w.heap.size + 1 := by rw [hV]; simp
  have hs := h.below hBV
  have hZx : (Z w.heap.size ∨ Bt w.heap.size V.heap.size w.heap.size) := .inr ⟨Nat.le_refl _, by omega⟩
  obtain ⟨Z1, hZ1⟩ : ∃ Z1 : Nat → Prop, Z1 = fun k => Z k ∨ Bt w.heap.size V.heap.size k := ⟨_, rfl⟩
  have hZx1 : Z1 w.heap.size := by rw [hZ1]; exact hZx
  rw [← hZ1] at hs
  have HS := hid hs
  have HX := hid hX
  have HZx := hid hZx1
  have HV := hid hV
  have HKb := hid hkb
  have HRw := hid hrw
  have HOn := hid hon
  have HBd := hid hbd
  have HY := hid hy
  have o0 := hX.cell 0
  have o1 := hX.cell 1
  have o2 := hX.cell 2
  have o3 := hX.cell 3
  have o4 := hX.cell 4
  simp at o0 o1 o2 o3 o4
  have ol := hX.lt
  have hcl : cp + 1 ≤ 4611686018427387904 ∧ dl + 1 ≤ 4611686018427387904 ∧ dr + 1 ≤ 4611686018427387904 ∧ fl + 1 ≤ 4611686018427387904 := by omega
  obtain ⟨hc1, hc2, hc3, hc4⟩ := hcl
  clear h hkb hrw hon hbd hy hX hV hVs hs hZx hZx1 hZ1 hBV
  go_enter Try.func16, Try.ntmps16
  go_upto_region 1 with fail
  rw [← HV.out]
  have hyV : Byts V (fun k => k < W.heap.size) y.p y.n y.c y.f := HY.out.kept HS.out.bel.size fun k hk _ => HS.out.bel.block k hk
  have HD := hid (send_any V Z1 b m A HS.out.et HS.out.lt a1 b1 y.p y.c y.zs (BY.src hyV) (BY.by_ hyV))
  rw [BY.len] at HD
  obtain ⟨x, hx⟩ : ∃ x, x = sendE m a1 b1 y.zs.length A.length := ⟨_, rfl⟩
  have HXx := hid hx
  clear hyV
  by_cases hi : x = 0
  case neg =>
    have HI := hid hi
    have hi' : (x == 0) = false := by simpa using hi
    clear hx hi
    go_wp2_with fail
    refine HD.out.mono ?_
    rintro e w2 ⟨he, _, hE, hF⟩
    have he' : e = .returned (.int .i64 x) := by rw [HXx.out]; exact he
    subst he'
    have H2 := hid (HS.out.ether hF (hE (fun e => HI.out (HXx.out.trans e))))
    clear hE hF HD he
    go_wp2
    refine bodyPost_ret (v := .bool true) (by simp [results, Try.results16, go_sem]) rfl ⟨rfl, ?_⟩
    exact ⟨Z1, A, l, cp, dl, dr, fl, H2.out, HKb.out, HRw.out, HOn.out, by have := HBd.out; omega⟩
  case pos =>
    subst hi
    have hgood : (0 ≤ a1 ∧ a1 < m) ∧ (0 ≤ b1 ∧ b1 < m) ∧ a1 ≠ b1 ∧ y.zs.length ≤ 32776 := by
      unfold sendE at hx
      split at hx
      · cases hx
      · rename_i h1
        split at hx
        · cases hx
        · rename_i h2
          refine ⟨?_, ?_, fun e => h1 (.inr (.inr e)), by omega⟩
          · by_cases h3 : 0 ≤ a1 ∧ a1 < m
            · exact h3
            · exact absurd (.inl h3) h1
          · by_cases h3 : 0 ≤ b1 ∧ b1 < m
            · exact h3
            · exact absurd (.inr (.inl h3)) h1
    obtain ⟨⟨ga, gb⟩, ⟨gc, gd⟩, ge, gf⟩ := hgood
    rw [BY.len] at gf
    have ge' : (a1 == b1) = false := by simpa using ge
    have ge2 : (a1 != b1) = true := by simpa using ge
    clear hx ge
    go_wp2_with fail
    refine HD.out.mono ?_
    rintro e w2 ⟨he, hE, _, hF⟩
    have he' : e = .returned (.int .i64 0) := by rw [HXx.out]; exact he
    subst he'
    have hs2 := HS.out.ether hF (hE HXx.out.symm)
    have hX2 := HX.out.but hF (fun h => h HZx.out)
    have hy2 : Byts w2 (fun k => k < W.heap.size) y.p y.n y.c y.f := HY.out.kept hs2.bel.size fun k hk _ => hs2.bel.block k hk
    obtain ⟨U, hU⟩ : ∃ U, U = w2.alloc (.cells #[.int .i64 a1, .int .i64 b1, .slice none 0 0] 32) := ⟨_, rfl⟩
    have hBU : Below w2.heap.size w2 U := by rw [hU]; exact (Below.refl _ _).alloc (Nat.le_refl _) _
    have hsx : Box U w2.heap.size #[.int .i64 a1, .int .i64 b1, .slice none 0 0] 32 := by rw [hU]; exact Box.new _ _ _
    have hUs : U.heap.size = w2.heap.size + 1 := by rw [hU]; simp
    have n2 := hX2.cell 2
    have n3 := hX2.cell 3
    have nl := hX2.lt
    simp at n2 n3
    have hXU := hX2.below hBU
    have o4' := hXU.cell 4
    simp at o4'
    have olU := hXU.lt
    have t2 := hsx.cell 2
    simp at t2
    have tl := hsx.lt
    obtain ⟨i0, Kd⟩ := kindB
    have HKd := hid Kd
    have HSrc : Hid (Src U y.p y.n y.c 1 ((List.range y.n).map fun j => .int .u8 (y.f j))) := (hy2.kept hBU.size fun k _ hl => hBU.block k hl).src
    have HS2 := hid hs2
    have HX2 := hid hXU
    have HBU := hid hBU
    have HU := hid hU
    have HUs := hid hUs
    have Hsx := hid hsx
    have HOwn : Hid (U.ownsRow U.heap.size 5 1 (.slice none 0 0) 0 []) := World.ownsRow_nil _ _ _ _
    clear hs2 hX2 hBU hU hUs hsx hXU hE hF HD he Kd o0 o1 o2 o3 o4 ol hy2
    go_upto_region 7 with fail
    rw [← HU.out]
    clear n2 n3 nl
    go_wp2_with (at_builtin; refine wpList_appS rfl (.tmp 34) (.tmp 36) 29 5 i0 _ 1 1 HKd.out rfl U.heap.size _ 0 [] rfl HOwn.out y.p y.n y.c _ rfl HSrc.out (oneCell_byts y.n y.f) (by omega) (by omega) (Nat.le_refl _) ?_)
    intro v3 w3 ho hg hn
    obtain ⟨p3, c3, hv3⟩ := ownsRow_slice ho
    subst hv3
    have hB3 : Below U.heap.size U w3 := (Below.refl _ _).grown hg (Nat.le_refl _) (fun k hk => (HOwn.out.lt k hk).1)
    have hs3 := Hsx.out.below hB3
    have q2 := hs3.cell 2
    have qf := hs3.frozen 2
    have ql := hs3.lt
    simp at q2
    have HOw3 := hid ho
    have HB3 := hid hB3
    have Hs3 := hid hs3
    clear ho hg hn hB3 hs3 t2 tl o4' olU
    go_upto_region 8 with fail
    obtain ⟨T, hT⟩ : ∃ T, T = w3.setCell ⟨w2.heap.size, 2, none⟩ (.slice p3 y.n c3) := ⟨_, rfl⟩
    rw [← hT]
    have hbt : But (fun k => k = w2.heap.size) w3 T := by rw [hT]; exact (But.one w3 w2.heap.size).setAt 2 _
    have hsT : Box T w2.heap.size #[.int .i64 a1, .int .i64 b1, .slice p3 y.n c3] 32 := by
      rw [hT]
      have h1 := Hs3.out.set 2 (.slice p3 y.n c3)
      simpa using h1
    have h23 : Below w2.heap.size w2 w3 := HBU.out.trans (HB3.out.mono HBU.out.size)
    have h2T : Below w2.heap.size w2 T := h23.trans (hbt.below h23.size (fun k hk e => by have e' : k = w2.heap.size := e; omega))
    have hsT2 := HS2.out.below h2T
    obtain ⟨Z2, hZ2⟩ : ∃ Z2 : Nat → Prop, Z2 = fun k => Z1 k ∨ Bt w2.heap.size T.heap.size k := ⟨_, rfl⟩
    rw [← hZ2] at hsT2
    have hXo : Box T w.heap.size #[.int .i64 1, .int .i64 wh, .int .i64 a1, .int .i64 b1, .slice y.p y.n y.c] 48 := (HX2.out.below HB3.out).but hbt (fun e => by
      have e' : w.heap.size = w2.heap.size := e
      have h1 := HX2.out
      rw [e'] at h1
      have := box_ty h1 Hsx.out
      cases this)
    have hXT := hid hXo
    have HST : Hid (∀ wx, Below T.heap.size T wx → Go.Proofs.Ytneomdiabcpemaa.HS W wx (fun k => Z2 k ∨ Bt T.heap.size wx.heap.size k) b kb m (A ++ [⟨a1, b1, y.zs⟩]) l cp dl dr fl) := fun wx hx => hsT2.below hx
    have HUy : Hid (∀ wx, Below T.heap.size T wx → Byts wx (fun k => (Z2 k ∨ Bt T.heap.size wx.heap.size k) ∧ k ≠ kb ∧ (Value.slice l.p l.n l.c).ownBlock ≠ some k) p3 y.n c3 y.f) := fun wx hx => by
      have hown := HOw3.out
      have hlt := World.ownsRow.lt hown
      have hce := @World.ownsRow.cells _ _ _ _ _ _ _ hown
      have hkl := HS2.out.bk.bx.lt
      have hus := HUs.out
      obtain ⟨_, ⟨hv, h0⟩ | ⟨g, cap, cur, hv, hbg, hh, hnc, hcm, hcs, htk⟩⟩ := id hown
      · obtain ⟨rfl, h1, rfl⟩ := Value.slice.inj hv
        rw [h0]
        exact ⟨fun h => absurd h (by omega), Nat.le_refl _, by omega, Nat.zero_le _, fun j hj => absurd hj (by omega), fun _ => ⟨rfl, rfl⟩⟩
      · obtain ⟨rfl, _, rfl⟩ := Value.slice.inj hv
        refine ⟨fun hp => ⟨g, 0, rfl, ⟨.inl ?_, by omega, fun e => ?_⟩, ?_, fun j hj => ?_⟩, hnc, by omega, hcm, fun j hj => HY.out.fit j hj, fun h => by cases h⟩
        · rw [hZ2]
          refine .inr ⟨by omega, ?_⟩
          have := (hlt g rfl).2
          have := hbt.size
          omega
        · have := (HS2.out.bk.row.lt e).1
          omega
        · have := (hlt g rfl).2
          have := hbt.size
          have := hx.size
          omega
        · have h1 := hce (g := g) rfl j (.int .u8 (y.f j)) (by simp [List.getElem?_range hj])
          rw [Go.WideShapes.add_plain] at h1
          have hg3 := (hlt g rfl).2
          have h2 : T.cell? ⟨g, 0 + j, none⟩ = some (.int .u8 (y.f j)) := (World.cell?_of_block (a := ⟨g, 0 + j, none⟩) (hbt.block g hg3 (show ¬ g = w2.heap.size by omega))).trans h1
          exact (World.cell?_of_block (a := ⟨g, 0 + j, none⟩) (hx.block g (by have := hbt.size; omega))).trans h2
    have k0 := hsT2.bk.bx.cell 0
    have kl := hsT2.bk.bx.lt
    simp at k0
    have s0 := hsT.cell 0
    have s1 := hsT.cell 1
    have s2 := hsT.cell 2
    have sl := hsT.lt
    simp at s0 s1 s2
    clear hT hbt hsT h23 h2T hsT2 hZ2 hXo q2 qf ql
    refine wp_region_calmE 30 (fun wx => Below T.heap.size T wx) [(0, true), (1, true), (2, true), (3, true), (4, false), (5, false)] (.one 6 true [] (.one 7 false [(8, true), (9, true)] (.one 10 false [] .done))) (by kernel_rfl) (by kernel_rfl) (Below.refl _ _).drew ?_
    refine wpPre_e rfl rfl (fun K1 hK1 => ?_)
    apply Exists.intro
    refine And.intro (fun wx hx => ?_) ?_
    · go_simp
      try rfl
    go_simp
    refine hK1 _ ?_
    clear hK1 K1
    refine wpPre_e rfl rfl (fun K1 hK1 => ?_)
    apply Exists.intro
    refine And.intro (fun wx hx => ?_) ?_
    · go_simp
      try rfl
    go_simp
    refine hK1 _ ?_
    clear hK1 K1
    refine wpPre_e rfl rfl (fun K1 hK1 => ?_)
    apply Exists.intro
    refine And.intro (fun wx hx => ?_) ?_
    · go_simp
      try rfl
    go_simp
    refine hK1 _ ?_
    clear hK1 K1
    refine wpPre_e rfl rfl (fun K1 hK1 => ?_)
    apply Exists.intro
    refine And.intro (fun wx hx => ?_) ?_
    · go_simp
      try rfl
    go_simp
    refine hK1 _ ?_
    clear hK1 K1
    refine wpPre_e rfl rfl (fun K1 hK1 => ?_)
    apply Exists.intro
    refine And.intro (fun wx hx => ?_) ?_
    · have e0 := below_fact hx rfl k0
      have e1 := below_fact hx rfl s0
      have e2 := below_fact hx rfl s1
      have e3 := below_fact hx rfl s2
      go_simp
      try rfl
    go_simp
    refine hK1 _ ?_
    clear hK1 K1
    refine wpPre_e rfl rfl (fun K1 hK1 => ?_)
    apply Exists.intro
    refine And.intro (fun wx hx => ?_) ?_
    · have e0 := below_fact hx rfl k0
      have e1 := below_fact hx rfl s0
      have e2 := below_fact hx rfl s1
      have e3 := below_fact hx rfl s2
      go_simp
      try rfl
    go_simp
    refine hK1 _ ?_
    clear hK1 K1
    refine wpPre_nil ?_
    refine wpTr_e rfl (fun K1 hK1 => ?_)
    go_simp
    refine hK1 _ _ (fun _ => ((Below.refl _ _).alloc (Nat.le_refl _) _).drew) ?_
    clear hK1 K1
    refine wpPre_nil ?_
    refine wpTr_e rfl (fun K1 hK1 => ?_)
    have hT1 : Below T.heap.size T (T.alloc (.cells #[.int .i64 a1, .int .i64 b1, .slice p3 y.n c3] 32)).drew := ((Below.refl _ _).alloc (Nat.le_refl _) _).drew
    have HT1 := hid hT1
    refine step_appX rfl (.tmp 43) (.tmp 45) rfl (.slice l.p l.n l.c) l.n _ rfl (HST.out _ hT1).bk.row ⟨T.heap.size, 0, none⟩ 1 1 (elFY.cells ⟨a1, b1, ⟨p3, y.n, c3, y.f⟩⟩) rfl rfl ?_ (elFY.one _) (by have := HBd.out; omega) ?_
    · intro j u hu
      show World.cell? (T.alloc _) _ = _
      rw [cell_new, ← hu]
      simp [elFY]
    intro v5 w5 ho hg hn
    obtain ⟨p5, c5, hv5⟩ := ho.slice
    subst hv5
    have HA := hid ((HST.out _ HT1.out).add (u := ⟨a1, b1, ⟨p3, y.n, c3, y.f⟩⟩) HKb.out HRw.out (HUy.out _ HT1.out) ho hg hn)
    have HO5 := hid (hXT.out.below HT1.out)
    have HO6 : Hid (Box w5 w.heap.size _ 48) := HO5.out.kept (hg.block _ HO5.out.lt (fun e => by
      obtain ⟨_, cur, hc⟩ := (HST.out _ HT1.out).bk.row.lt e.symm
      have := box_ty HO5.out hc
      cases this))
    have e0 := HA.out.2.2.1
    have e1 := HA.out.2.2.2.1
    have e2 := HA.out.2.2.2.2
    clear ho hg hn hT1
    go_simp
    refine hK1 _ _ (fun h => by cases h) ?_
    clear hK1 K1
    refine wpPre_e rfl rfl (fun K1 hK1 => ?_)
    apply Exists.intro
    refine And.intro (fun wx hx => ?_) ?_
    · go_simp
      try rfl
    go_simp
    refine hK1 _ ?_
    clear hK1 K1
    refine wpPre_e rfl rfl (fun K1 hK1 => ?_)
    apply Exists.intro
    refine And.intro (fun wx hx => ?_) ?_
    · go_simp
      try rfl
    go_simp
    refine hK1 _ ?_
    clear hK1 K1
    refine wpPre_nil ?_
    refine wpTr_e rfl (fun K1 hK1 => ?_)
    go_simp
    refine hK1 _ _ (fun h => by cases h) ?_
    clear hK1 K1
    refine wpPre_nil ?_
    refine wpTr_done ?_
    have HF := hid HA.out.1
    have HF2 := hid HA.out.2.1
    have HO7 : Hid (Box (w5.setCell ⟨kb, 0, none⟩ (.slice p5 (l.n + 1) c5)) w.heap.size _ 48) := HO6.out.kept (Below.heap_setCell _ _ _ _ (fun e => by
      have e' : w.heap.size = kb := e
      have h1 := HO6.out
      have h2 := HA.out.1.bk.bx
      have h3 := (HO6.out).lt
      rw [e'] at h1
      have hk5 : w5.heap[kb]? = some (.cells _ 48 (0, 0)) := h1
      unfold Box at h2
      simp [World.setCell, Array.getElem?_modify, hk5] at h2))
    have HO8 := HO7.out
    have r2 := HO7.out.cell 2
    have r3 := HO7.out.cell 3
    have rl := HO7.out.lt
    simp at r2 r3
    clear HA e0 e1 e2 k0 s0 s1 s2 HO8
    go_wp2
    refine bodyPost_ret (v := .bool true) (by simp [results, Try.results16, go_sem]) rfl ⟨rfl, ?_⟩
    refine ⟨_, _, addY l ⟨a1, b1, ⟨p3, y.n, c3, y.f⟩⟩ p5 c5, cp, dl, dr, fl, HF.out, HKb.out, HF2.out, ?_, ?_⟩
    · rw [addY_fas]
      have h1 := HOn.out.send (a := ⟨a1, b1, y.zs⟩) ⟨by show y.zs.length ≤ _; rw [BY.len]; exact gf, BY.by_ HY.out⟩
      exact h1
    · have := HBd.out
      show l.n + 1 + cp + dl + dr + fl ≤ N + 1
      omega
end Go.Proofs.Ytneomdiabcpemaa
