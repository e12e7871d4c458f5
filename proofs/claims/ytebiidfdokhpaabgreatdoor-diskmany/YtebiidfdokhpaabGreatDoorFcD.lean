import Derived.Test.YtebiidfdokhpaabGreatDoorPack47
namespace Go.Proofs.YtebiidfdokhpaabGreatDoor
open Go.RowKit
set_option maxRecDepth 8000
theorem kindPp : ∃ i, Kind 39 25 i (.pointer none) 1 8 := by
  obtain ⟨i0, hi, hz0, hz1, hz2⟩ := info_parts (show (Tryz.prog.info? 25).map (fun i => (i.zero, i.size, i.bytes)) = some (some (.pointer none), 1, 8) by kernel_rfl)
  exact ⟨i0, Tryz.underlying39, hi, hz0, hz1, hz2, rfl, by decide⟩
theorem MI.nil (w : World) : MI w w.heap.size none 0 [] :=
  ⟨World.ownsRow_nil _ _ _ _, Many.nil fun k hk => hk.elim id fun h => by simp [Value.ownBlock] at h, Nat.le_refl _⟩
theorem byts_one {w : World} {b : Nat} {z : Int} (hx : Box w b #[.int .u8 z] 5) (hz : 0 ≤ z ∧ z < 256) : Byts w (fun k => k = b) (some ⟨b, 0, none⟩) [z].length 1 (fun j => [z].getD j 0) := by
  refine ⟨fun _ => ⟨b, 0, rfl, rfl, hx.lt, fun j hj => ?_⟩, by show (1 : Nat) ≤ 1; decide, by show (1 : Nat) ≤ _; decide, by show (1 : Nat) ≤ maxLen; decide, fun j hj => ?_, fun h => by cases h⟩
  all_goals
    have hj' : j < 1 := hj
    obtain rfl : j = 0 := by omega
  · have := hx.cell 0
    simpa using this
  · exact hz
set_option maxHeartbeats 32000000 in
theorem diskMany_walk (n : Int) (P : LT OpD) (w : World) (hP : LT.In elD w (fun b => b < w.heap.size) P) :
    Calls Tryz.prog 4 #[.int .i64 n, .slice P.p P.n P.c] w fun e w' => e = .returned (.bool true) ∧ Below w.heap.size w w' := by
  obtain ⟨iP, KdP⟩ := kindPp
  have HKd := hid KdP
  have HP := hid hP
  have hpn := hP.nn
  have HFt := hid (sfits_any ⟨none, 0, 0, fun _ => ⟨⟨#[]⟩, none, 0, 0, fun _ => 0, 0⟩⟩ P w (fun _ => True) _ (LT.In.none_ _ _ _ none 0 _ (Nat.zero_le _) (fun _ => rfl)) hP)
  clear hP KdP
  go_enter Tryz.func4, Tryz.ntmps4
  go_wp2_with fail
  refine HFt.out.mono ?_
  rintro e w0 ⟨q, rfl, hb0, hq⟩
  have HB0 := hid hb0
  have HZ0 : Hid (w.heap.size ≤ w0.heap.size) := hb0.size
  clear hb0 HFt
  cases q with
  | false =>
    go_wp2
    exact bodyPost_ret (v := .bool true) (by simp [results, Tryz.results4, go_sem]) rfl ⟨rfl, HB0.out⟩
  | true =>
    obtain ⟨_, hp4, hpz⟩ := hq rfl
    have HPz := hid hpz
    clear hq hpz
    by_cases hn0 : n < 0
    · go_wp2
      exact bodyPost_ret (v := .bool true) (by simp [results, Tryz.results4, go_sem]) rfl ⟨rfl, HB0.out⟩
    by_cases hn1 : n > 69
    · go_wp2
      exact bodyPost_ret (v := .bool true) (by simp [results, Tryz.results4, go_sem]) rfl ⟨rfl, HB0.out⟩
    obtain ⟨N, rfl⟩ : ∃ N : Nat, n = (N : Int) := ⟨n.toNat, by omega⟩
    obtain ⟨M, hMe⟩ : ∃ M : Nat, M = N + 2 := ⟨_, rfl⟩
    have hM1 : M ≤ 71 := by omega
    have hwM : IntKind.i64.wrap ((N : Int) + 2) = (M : Int) := by rw [IntKind.wrap_i64]; omega
    have HMe := hid hMe
    have HN0 := hid (And.intro hn0 hn1)
    go_wp2_with fail
    clear hn0 hn1 hMe
    go_loopw [5, 6, 7] (fun v x _ wr => ∃ (i : Nat) (p : Option Addr) (c : Nat) (L : List Nat), i ≤ M ∧ x = .int .i64 (i : Int) ∧ v = .slice p i c ∧ L.length = i ∧ MI wr w0.heap.size p c L ∧ Below w.heap.size w wr) (fun _ x _ _ => M - (intOf x).toNat)
    case atStart => exact ⟨0, none, 0, [], Nat.zero_le _, rfl, rfl, rfl, MI.nil _, HB0.out⟩
    case round =>
      obtain ⟨i, p, c, L, hi, rfl, rfl, hL, hMI, hbw⟩ := hrel
      have HL := hid hL
      have HMI := hid hMI
      have HBw := hid hbw
      clear hL hMI hbw
      by_cases hlt : i < M
      · have hlt' : (i : Int) < (M : Int) := by omega
        have hwi : IntKind.u8.wrap (i : Int) = (i : Int) := by rw [IntKind.wrap_u8]; omega
        obtain ⟨V1, hV1⟩ : ∃ V, V = wr.alloc (.cells #[.pointer none, .pointer none] 29) := ⟨_, rfl⟩
        obtain ⟨V2, hV2⟩ : ∃ V, V = V1.alloc (.cells #[.int .u8 (i : Int), .int .u8 7] 5) := ⟨_, rfl⟩
        obtain ⟨V3, hV3⟩ : ∃ V, V = V2.alloc (.cells #[.string ownT, .slice (some ⟨V1.heap.size, 0, none⟩) 2 2, .int .i64 1] 41) := ⟨_, rfl⟩
        have hs1 : V1.heap.size = wr.heap.size + 1 := by rw [hV1]; simp
        have hs2 : V2.heap.size = wr.heap.size + 2 := by rw [hV2]; simp [hs1]
        have hs3 : V3.heap.size = wr.heap.size + 3 := by rw [hV3]; simp [hs2]
        have HX1 : Hid (Box V1 wr.heap.size #[.pointer none, .pointer none] 29) := by show Box _ _ _ _; rw [hV1]; exact Box.new _ _ _
        have HBa : Hid (Below wr.heap.size wr V1) := by show Below _ _ _; rw [hV1]; exact (Below.refl _ _).alloc (Nat.le_refl _) _
        have HBb : Hid (Below V1.heap.size V1 V2) := by show Below _ _ _; rw [hV2]; exact (Below.refl _ _).alloc (Nat.le_refl _) _
        have HBc : Hid (Below V2.heap.size V2 V3) := by show Below _ _ _; rw [hV3]; exact (Below.refl _ _).alloc (Nat.le_refl _) _
        have HB3 : Hid (Below wr.heap.size wr V3) := (HBa.out.trans (HBb.out.mono HBa.out.size)).trans (HBc.out.mono (Nat.le_trans HBa.out.size HBb.out.size))
        have HOw := hid (ownL_in (w := V1) (V1 := V2) (V2 := V3) (x := (i : Int)) (by omega) hV2 hV3)
        have HBg := hid (beginM_any (ownL V1.heap.size V2.heap.size (i : Int)) V3 wr.heap.size ((HX1.out.below HBb.out).below HBc.out) HOw.out (by show (1 : Nat) ≤ 500; decide) (fun j _ => by show (2 : Nat) ≤ _; decide))
        have HS := hid (And.intro hs1 (And.intro hs2 hs3))
        have HV1 := hid hV1
        have HV2 := hid hV2
        have HV3 := hid hV3
        simp only [ownT] at HV3
        have hs21 : V2.heap.size = V1.heap.size + 1 := by omega
        have hsa : (ownL V1.heap.size V2.heap.size (i : Int)).p = some ⟨V1.heap.size + 1, 0, none⟩ := by rw [← hs21]; rfl
        have hnew := ownL_new V1.heap.size V2.heap.size (i : Int)
        have hln : (ownL V1.heap.size V2.heap.size (i : Int)).n = 1 ∧ (ownL V1.heap.size V2.heap.size (i : Int)).c = 1 := ⟨rfl, rfl⟩
        obtain ⟨ol, hol⟩ : ∃ ol, ol = ownL V1.heap.size V2.heap.size (i : Int) := ⟨_, rfl⟩
        rw [← hol] at HBg hsa hnew hln
        rw [hsa, hln.1, hln.2] at HBg
        have HNew := hid hnew
        clear hV1 hV2 hV3 hs1 hs2 hs3 hs21 hsa hnew hln hol
        go_upto_region 8 with fail
        rw [← HV1.out]
        go_wp2_with fail
        rw [← HV2.out, ← HV3.out]
        refine HBg.out.mono ?_
        intro e W1 hg
        obtain ⟨rfl⟩ := hg.1
        obtain ⟨⟨db, rb, d0, d1⟩, hrow, hbl, hnext⟩ := HMI.out.add HB3.out (Nat.le_refl _) (by have := HS.out.2.2; omega) hg HNew.out
        rw [HL.out] at hrow hnext
        have HRow := hid hrow
        have HNext := hid hnext
        have HBl := hid hbl
        clear hg hrow hnext hbl HBg
        go_upto_region 10 with fail
        clear d0 d1
        obtain ⟨Wa, hWa⟩ : ∃ V, V = W1.alloc (.cells #[.pointer (some ⟨wr.heap.size, 0, none⟩)] 25) := ⟨_, rfl⟩
        have HBe : Hid (Below W1.heap.size W1 Wa) := by show Below _ _ _; rw [hWa]; exact (Below.refl _ _).alloc (Nat.le_refl _) _
        have HXa : Hid (Box Wa W1.heap.size #[.pointer (some ⟨wr.heap.size, 0, none⟩)] 25) := by show Box _ _ _ _; rw [hWa]; exact Box.new _ _ _
        have HWa := hid hWa
        have HRow2 : Hid (Wa.ownsRow w0.heap.size 25 1 (.slice p i c) i (ptrs L)) := ownsRow_keep HRow.out fun g _ hl => HBe.out.block g hl
        have HBs : Hid (w0.heap.size ≤ Wa.heap.size) := by have h1 := HBl.out.size; have h2 := HBe.out.size; have h3 := HMI.out.sz; show _ ≤ _; omega
        clear hWa
        go_wp2_with (at_builtin; rw [← HWa.out]; refine wpList_app rfl (.tmp 45) (.tmp 47) 39 25 iP _ 1 8 HKd.out rfl w0.heap.size (.slice p i c) i (ptrs L) rfl HRow2.out ⟨W1.heap.size, 0, none⟩ 1 1 [.pointer (some ⟨wr.heap.size, 0, none⟩)] rfl rfl (fun j u hu => by
          cases j with
          | zero =>
            have := HXa.out.cell 0
            simp at this hu
            rw [← hu]
            exact this
          | succ j => simp at hu) (fun u hu => by simp at hu; subst hu; rfl) (by omega) (by omega) HBs.out ?_)
        intro v' W2 hrow2 hgr hnear
        obtain ⟨p', c', rfl⟩ := row_slice hrow2
        have HFin := hid (HNext.out p' c' Wa W2 HBe.out hgr hnear hrow2)
        clear hrow2 hgr hnear
        go_wp2
        go_roundw
        case rel => exact ⟨i + 1, p', c', L ++ [wr.heap.size], by omega, by go_num, rfl, by rw [List.length_append, HL.out]; rfl, HFin.out.1, HBw.out.trans (HFin.out.2.mono HZ0.out)⟩
        case measure => simp [intOf]; omega
      · have hlt' : ¬ (i : Int) < (M : Int) := by omega
        have hiM : M = i := by omega
        subst hiM
        obtain ⟨pb0, hpb0⟩ : ∃ pb, L[0]? = some pb := ⟨_, List.getElem?_eq_getElem (by rw [HL.out]; have := HMe.out; omega)⟩
        obtain ⟨g, hp, hgY, _, _⟩ := HMI.out.at_ hpb0
        subst hp
        have HG := hid hgY
        clear hgY hpb0 hlt'
        rw [HL.out] at HG
        go_wp2_with fail
        go_loopw [8] (fun x wq => ∃ i : Nat, i ≤ M ∧ x = .int .i64 (i : Int) ∧ MI wq w0.heap.size (some ⟨g, 0, none⟩) c L ∧ Below w.heap.size w wq) (fun x _ => M - (intOf x).toNat)
        case atStart => exact ⟨0, Nat.zero_le _, rfl, HMI.out, HBw.out⟩
        case round =>
          obtain ⟨i, hi, rfl, hMI, hbw⟩ := hrel
          clear HMI HBw
          have HMI := hid hMI
          have HBw := hid hbw
          clear hMI hbw
          by_cases hlt : i < M
          · have hlt' : (i : Int) < (M : Int) := by omega
            obtain ⟨pb, hpb⟩ : ∃ pb, L[i]? = some pb := ⟨_, List.getElem?_eq_getElem (by rw [HL.out]; exact hlt)⟩
            obtain ⟨g', hp, _, hgl, r0⟩ := HMI.out.at_ hpb
            obtain rfl : g = g' := by simpa using hp
            clear hp
            obtain ⟨Z, db, rb, D, R, Cd, Cr, hZ, hM, hR, hst⟩ := HMI.out.one hpb
            rw [HL.out] at hZ
            have p0 := hM.bx.cell 0
            have p1 := hM.bx.cell 1
            simp at p0 p1
            have HZ := hid hZ
            have HM := hid hM
            have HR := hid hR
            have HSt := hid hst
            have HGl := hid hgl
            clear hZ hM hR hst hgl hpb
            obtain ⟨z, hze⟩ : ∃ z, z = 100 + (i : Int) := ⟨_, rfl⟩
            have hw1 : IntKind.i64.wrap (100 + (i : Int)) = z := by rw [IntKind.wrap_i64]; omega
            have hw2 : IntKind.u8.wrap z = z := by rw [IntKind.wrap_u8]; omega
            have hz1 : 0 ≤ z ∧ z < 256 := by omega
            have HDa : Hid (∀ Wx b, Below wr.heap.size wr Wx → wr.heap.size ≤ b → Box Wx b #[.int .u8 z] 5 → Calls Tryz.prog 12 #[.pointer (some ⟨db, 0, none⟩), .string ⟨#[111, 119, 110]⟩, .slice (some ⟨b, 0, none⟩) 1 1] Wx fun e w' => ApD D ⟨#[111, 119, 110]⟩ [z] Cd db Wx e w') := fun Wx b hW hb hx => dappend_any D ⟨#[111, 119, 110]⟩ (some ⟨b, 0, none⟩) 1 [z] Wx Cd (fun k => k = b) db (HM.out.dk.below hW) HR.out.ok (by show (3 : Nat) ≤ _; omega) (byts_one hx hz1) (fun k hk hc => by have h1 := (HM.out.cd k hc).2.1; have h2 : k = b := hk; omega) (fun k hk => by have h2 : k = b := hk; rw [h2]; exact hx.lt) (by show (1 : Nat) ≤ _; omega)
            have HRa : Hid (∀ Wx b, But Cd wr Wx → wr.heap.size ≤ b → Box Wx b #[.int .u8 z] 5 → Calls Tryz.prog 13 #[.pointer (some ⟨rb, 0, none⟩), .string ⟨#[111, 119, 110]⟩, .slice (some ⟨b, 0, none⟩) 1 1] Wx fun e w' => ApQ R ⟨#[111, 119, 110]⟩ [z] Cr rb Wx e w') := fun Wx b hW hb hx => rappend_any R ⟨#[111, 119, 110]⟩ (some ⟨b, 0, none⟩) 1 [z] Wx Cr (fun k => k = b) rb (HM.out.rk.kept fun k hk hl => hW.block k hl fun e => (HM.out.cd k e).2.2.2 hk) (by show (3 : Nat) ≤ _; omega) (byts_one hx hz1) (fun k hk hc => by have h1 := (HM.out.cr k hc).2.1; have h2 : k = b := hk; omega) (fun k hk => by have h2 : k = b := hk; rw [h2]; exact hx.lt) (by show (1 : Nat) ≤ _; omega)
            clear hze hz1
            go_upto_region 14 with fail
            refine wp_region_calmE 30 (fun wx => But Cd wr wx) [(0, true), (1, true), (2, true), (3, false), (4, true), (5, true), (6, false), (7, true), (8, true), (9, true), (13, true), (14, true), (15, true), (16, false), (17, true), (18, true), (19, false), (20, true), (21, true), (22, true)] (.two 10 true [] (.two 11 true [] (.two 12 true [] (.one 23 true [] (.one 24 false [(25, true)] .done)) 23 true [] (.one 12 true [] (.one 24 false [(25, true)] .done))) 23 true [] (.one 11 true [] (.one 12 true [] (.one 24 false [(25, true)] .done)))) 23 true [] (.one 10 true [] (.one 11 true [] (.one 12 true [] (.one 24 false [(25, true)] .done))))) (by kernel_rfl) (by kernel_rfl) (But.ofBelow (Below.refl _ _).drew) ?_
            refine wpPre_e rfl rfl (fun K1 hK1 => ?_)
            apply Exists.intro
            refine And.intro (fun wx hx => ?_) ?_
            · go_simp
              try rfl
            go_simp
            refine hK1 _ ?_
            clear hK1 K1
            refine wpPre_e rfl rfl (fun K1 hK1 => ?_)
            apply Exists.intro
            refine And.intro (fun wx hx => ?_) ?_
            · go_simp
              try rfl
            go_simp
            refine hK1 _ ?_
            clear hK1 K1
            refine wpPre_e rfl rfl (fun K1 hK1 => ?_)
            apply Exists.intro
            refine And.intro (fun wx hx => ?_) ?_
            · go_simp
              try rfl
            go_simp
            refine hK1 _ ?_
            clear hK1 K1
            refine wpPre_e rfl rfl (fun K1 hK1 => ?_)
            apply Exists.intro
            refine And.intro (fun wx hx => ?_) ?_
            · have hx2 := hx.resolve_left (by simp)
              have e0 := (World.cell?_of_block (a := ⟨g, i, none⟩) (hx2.block _ HGl.out (fun e => (HM.out.cd g e).1 (HZ.out g HG.out)))).trans r0
              go_simp
              try rfl
            go_simp
            refine hK1 _ ?_
            clear hK1 K1
            refine wpPre_e rfl rfl (fun K1 hK1 => ?_)
            apply Exists.intro
            refine And.intro (fun wx hx => ?_) ?_
            · go_simp
              try rfl
            go_simp
            refine hK1 _ ?_
            clear hK1 K1
            refine wpPre_e rfl rfl (fun K1 hK1 => ?_)
            apply Exists.intro
            refine And.intro (fun wx hx => ?_) ?_
            · go_simp
              try rfl
            go_simp
            refine hK1 _ ?_
            clear hK1 K1
            refine wpPre_e rfl rfl (fun K1 hK1 => ?_)
            apply Exists.intro
            refine And.intro (fun wx hx => ?_) ?_
            · have hx2 := hx.resolve_left (by simp)
              have e0 := (World.cell?_of_block (a := ⟨pb, 0, none⟩) (hx2.block _ HM.out.bx.lt (fun e => (HM.out.cd pb e).2.2.1 rfl))).trans p0
              go_simp
              try rfl
            go_simp
            refine hK1 _ ?_
            clear hK1 K1
            refine wpPre_e rfl rfl (fun K1 hK1 => ?_)
            apply Exists.intro
            refine And.intro (fun wx hx => ?_) ?_
            · go_simp
              try rfl
            go_simp
            refine hK1 _ ?_
            clear hK1 K1
            refine wpPre_e rfl rfl (fun K1 hK1 => ?_)
            apply Exists.intro
            refine And.intro (fun wx hx => ?_) ?_
            · go_simp
              try rfl
            go_simp
            refine hK1 _ ?_
            clear hK1 K1
            refine wpPre_e rfl rfl (fun K1 hK1 => ?_)
            apply Exists.intro
            refine And.intro (fun wx hx => ?_) ?_
            · go_simp
              try rfl
            go_simp
            refine hK1 _ ?_
            clear hK1 K1
            refine wpPre_e rfl rfl (fun K1 hK1 => ?_)
            apply Exists.intro
            refine And.intro (fun wx hx => ?_) ?_
            · go_simp
              try rfl
            go_simp
            refine hK1 _ ?_
            clear hK1 K1
            refine wpPre_e rfl rfl (fun K1 hK1 => ?_)
            apply Exists.intro
            refine And.intro (fun wx hx => ?_) ?_
            · go_simp
              try rfl
            go_simp
            refine hK1 _ ?_
            clear hK1 K1
            refine wpPre_e rfl rfl (fun K1 hK1 => ?_)
            apply Exists.intro
            refine And.intro (fun wx hx => ?_) ?_
            · go_simp
              try rfl
            go_simp
            refine hK1 _ ?_
            clear hK1 K1
            refine wpPre_e rfl rfl (fun K1 hK1 => ?_)
            apply Exists.intro
            refine And.intro (fun wx hx => ?_) ?_
            · have hx2 := hx.resolve_left (by simp)
              have e0 := (World.cell?_of_block (a := ⟨g, i, none⟩) (hx2.block _ HGl.out (fun e => (HM.out.cd g e).1 (HZ.out g HG.out)))).trans r0
              go_simp
              try rfl
            go_simp
            refine hK1 _ ?_
            clear hK1 K1
            refine wpPre_e rfl rfl (fun K1 hK1 => ?_)
            apply Exists.intro
            refine And.intro (fun wx hx => ?_) ?_
            · go_simp
              try rfl
            go_simp
            refine hK1 _ ?_
            clear hK1 K1
            refine wpPre_e rfl rfl (fun K1 hK1 => ?_)
            apply Exists.intro
            refine And.intro (fun wx hx => ?_) ?_
            · go_simp
              try rfl
            go_simp
            refine hK1 _ ?_
            clear hK1 K1
            refine wpPre_e rfl rfl (fun K1 hK1 => ?_)
            apply Exists.intro
            refine And.intro (fun wx hx => ?_) ?_
            · have hx2 := hx.resolve_left (by simp)
              have e0 := (World.cell?_of_block (a := ⟨pb, 1, none⟩) (hx2.block _ HM.out.bx.lt (fun e => (HM.out.cd pb e).2.2.1 rfl))).trans p1
              go_simp
              try rfl
            go_simp
            refine hK1 _ ?_
            clear hK1 K1
            refine wpPre_e rfl rfl (fun K1 hK1 => ?_)
            apply Exists.intro
            refine And.intro (fun wx hx => ?_) ?_
            · go_simp
              try rfl
            go_simp
            refine hK1 _ ?_
            clear hK1 K1
            refine wpPre_e rfl rfl (fun K1 hK1 => ?_)
            apply Exists.intro
            refine And.intro (fun wx hx => ?_) ?_
            · go_simp
              try rfl
            go_simp
            refine hK1 _ ?_
            clear hK1 K1
            refine wpPre_e rfl rfl (fun K1 hK1 => ?_)
            apply Exists.intro
            refine And.intro (fun wx hx => ?_) ?_
            · go_simp
              try rfl
            go_simp
            refine hK1 _ ?_
            clear hK1 K1
            refine wpPre_nil ?_
            refine wpTr_two rfl rfl (fun K1 hK1 => ?_) (fun K1 hK1 => ?_)
            · go_simp
              obtain ⟨w1, hw1⟩ : ∃ V, V = (wr.alloc (.cells #[.int .u8 z] 5)).drew := ⟨_, rfl⟩
              rw [← hw1]
              have HX1 : Hid (Box w1 wr.heap.size #[.int .u8 z] 5) := by show Box _ _ _ _; rw [hw1]; exact (Box.new _ _ _).below (Below.refl _ _).drew
              have HBs1 : Hid (Below wr.heap.size wr w1) := by show Below _ _ _; rw [hw1]; exact ((Below.refl _ _).alloc (Nat.le_refl _) _).drew
              have HBt1 : Hid (But Cd wr w1) := ((But.ofBelow (Below.refl _ _) : But Cd wr wr)).trans (But.ofBelow HBs1.out)
              have HGe1 : Hid (wr.heap.size ≤ wr.heap.size) := ((But.ofBelow (Below.refl _ _) : But Cd wr wr)).size
              clear hw1
              refine hK1 _ _ (fun _ => HBt1.out) ?_
              clear hK1 K1
              refine wpPre_nil ?_
              refine wpTr_two rfl rfl (fun K1 hK1 => ?_) (fun K1 hK1 => ?_)
              · refine step_callG (by first | rfl | go_simp) 12 #[.tmp 61, .const (.string ⟨#[111, 119, 110]⟩), .tmp 65] _ rfl Tryz.f12 Tryz.func12 (by kernel_rfl) rfl #[.pointer (some ⟨db, 0, none⟩), .string ⟨#[111, 119, 110]⟩, .slice (some ⟨wr.heap.size, 0, none⟩) 1 1] rfl _ (HDa.out w1 wr.heap.size ((((Below.refl wr.heap.size wr)).trans (HBs1.out.mono ((Below.refl wr.heap.size wr)).size))) (HGe1.out) (HX1.out)) ?_
                rintro e_ w2 hd
                obtain ⟨xd, rfl⟩ := hd.int
                refine ⟨_, rfl, ?_⟩
                have HDd := hid hd
                have HBt2 : Hid (But Cd wr w2) := (HBt1.out).trans hd.but
                clear hd
                go_simp
                refine hK1 _ _ (fun _ => HBt2.out) ?_
                clear hK1 K1
                refine wpPre_nil ?_
                refine wpTr_two rfl rfl (fun K1 hK1 => ?_) (fun K1 hK1 => ?_)
                · refine step_callG (by first | rfl | go_simp) 11 #[.tmp 66] _ rfl Tryz.f11 Tryz.func11 (by kernel_rfl) rfl #[.int .i64 xd] rfl _ (num_any xd w2) ?_
                  rintro e_ w3 ⟨rfl, hw3⟩
                  obtain rfl := hw3.symm
                  refine ⟨_, rfl, ?_⟩
                  go_simp
                  refine hK1 _ _ (fun _ => HBt2.out) ?_
                  clear hK1 K1
                  refine wpPre_nil ?_
                  refine wpTr_e rfl (fun K1 hK1 => ?_)
                  go_simp
                  obtain ⟨w4, hw4⟩ : ∃ V, V = (w2.alloc (.cells #[.int .u8 z] 5)) := ⟨_, rfl⟩
                  rw [← hw4]
                  have HX4 : Hid (Box w4 w2.heap.size #[.int .u8 z] 5) := by show Box _ _ _ _; rw [hw4]; exact Box.new _ _ _
                  have HBs4 : Hid (Below w2.heap.size w2 w4) := by show Below _ _ _; rw [hw4]; exact ((Below.refl _ _).alloc (Nat.le_refl _) _)
                  have HBt4 : Hid (But Cd wr w4) := (HBt2.out).trans (But.ofBelow HBs4.out)
                  have HGe4 : Hid (wr.heap.size ≤ w2.heap.size) := (HBt2.out).size
                  clear hw4
                  refine hK1 _ _ (fun _ => HBt4.out) ?_
                  clear hK1 K1
                  refine wpPre_nil ?_
                  refine wpTr_e rfl (fun K1 hK1 => ?_)
                  refine step_callG (by first | rfl | go_simp) 13 #[.tmp 74, .const (.string ⟨#[111, 119, 110]⟩), .tmp 78] _ rfl Tryz.f13 Tryz.func13 (by kernel_rfl) rfl #[.pointer (some ⟨rb, 0, none⟩), .string ⟨#[111, 119, 110]⟩, .slice (some ⟨w2.heap.size, 0, none⟩) 1 1] rfl _ (HRa.out w4 w2.heap.size (HBt4.out) (HGe4.out) (HX4.out)) ?_
                  rintro e_ w5 hq
                  obtain ⟨x_, rfl, he2, hz⟩ := duo_append2 (HM.out.bel ((((Below.refl wr.heap.size wr)).trans (HBs1.out.mono ((Below.refl wr.heap.size wr)).size)))).1 HR.out HDd.out ((((Below.refl w2.heap.size w2)).trans (HBs4.out.mono ((Below.refl w2.heap.size w2)).size))) hq
                  obtain rfl : xd = x_ := by simpa using he2
                  refine ⟨_, rfl, ?_⟩
                  have HFin := hid (HSt.out w5 (PZ.ahead (HM.out.bel ((((Below.refl wr.heap.size wr)).trans (HBs1.out.mono ((Below.refl wr.heap.size wr)).size)))).2 hz))
                  clear hq he2 hz
                  go_simp
                  refine hK1 _ _ (fun h => by cases h) ?_
                  clear hK1 K1
                  refine wpPre_e rfl rfl (fun K1 hK1 => ?_)
                  apply Exists.intro
                  refine And.intro (fun wx hx => ?_) ?_
                  · go_simp
                    try rfl
                  go_simp
                  refine hK1 _ ?_
                  clear hK1 K1
                  refine wpPre_nil ?_
                  refine wpTr_done ?_
                  clear r0 p0 p1
                  have hxx : (xd == xd) = true := by simp
                  go_wp2
                  go_roundw
                  case rel => exact ⟨i + 1, by omega, by go_num, HFin.out.1, HBw.out.trans (HFin.out.2.mono HZ0.out)⟩
                  case measure => simp [intOf]; omega
                · go_simp
                  obtain ⟨w6, hw6⟩ : ∃ V, V = (w2.alloc (.cells #[.int .u8 z] 5)) := ⟨_, rfl⟩
                  rw [← hw6]
                  have HX6 : Hid (Box w6 w2.heap.size #[.int .u8 z] 5) := by show Box _ _ _ _; rw [hw6]; exact Box.new _ _ _
                  have HBs6 : Hid (Below w2.heap.size w2 w6) := by show Below _ _ _; rw [hw6]; exact ((Below.refl _ _).alloc (Nat.le_refl _) _)
                  have HBt6 : Hid (But Cd wr w6) := (HBt2.out).trans (But.ofBelow HBs6.out)
                  have HGe6 : Hid (wr.heap.size ≤ w2.heap.size) := (HBt2.out).size
                  clear hw6
                  refine hK1 _ _ (fun _ => HBt6.out) ?_
                  clear hK1 K1
                  refine wpPre_nil ?_
                  refine wpTr_e rfl (fun K1 hK1 => ?_)
                  refine step_callG (by first | rfl | go_simp) 11 #[.tmp 66] _ rfl Tryz.f11 Tryz.func11 (by kernel_rfl) rfl #[.int .i64 xd] rfl _ (num_any xd w6) ?_
                  rintro e_ w7 ⟨rfl, hw7⟩
                  obtain rfl := hw7.symm
                  refine ⟨_, rfl, ?_⟩
                  go_simp
                  refine hK1 _ _ (fun _ => HBt6.out) ?_
                  clear hK1 K1
                  refine wpPre_nil ?_
                  refine wpTr_e rfl (fun K1 hK1 => ?_)
                  refine step_callG (by first | rfl | go_simp) 13 #[.tmp 74, .const (.string ⟨#[111, 119, 110]⟩), .tmp 78] _ rfl Tryz.f13 Tryz.func13 (by kernel_rfl) rfl #[.pointer (some ⟨rb, 0, none⟩), .string ⟨#[111, 119, 110]⟩, .slice (some ⟨w2.heap.size, 0, none⟩) 1 1] rfl _ (HRa.out w6 w2.heap.size (HBt6.out) (HGe6.out) (HX6.out)) ?_
                  rintro e_ w8 hq
                  obtain ⟨x_, rfl, he2, hz⟩ := duo_append2 (HM.out.bel ((((Below.refl wr.heap.size wr)).trans (HBs1.out.mono ((Below.refl wr.heap.size wr)).size)))).1 HR.out HDd.out ((((Below.refl w2.heap.size w2)).trans (HBs6.out.mono ((Below.refl w2.heap.size w2)).size))) hq
                  obtain rfl : xd = x_ := by simpa using he2
                  refine ⟨_, rfl, ?_⟩
                  have HFin := hid (HSt.out w8 (PZ.ahead (HM.out.bel ((((Below.refl wr.heap.size wr)).trans (HBs1.out.mono ((Below.refl wr.heap.size wr)).size)))).2 hz))
                  clear hq he2 hz
                  go_simp
                  refine hK1 _ _ (fun h => by cases h) ?_
                  clear hK1 K1
                  refine wpPre_e rfl rfl (fun K1 hK1 => ?_)
                  apply Exists.intro
                  refine And.intro (fun wx hx => ?_) ?_
                  · go_simp
                    try rfl
                  go_simp
                  refine hK1 _ ?_
                  clear hK1 K1
                  refine wpPre_nil ?_
                  refine wpTr_done ?_
                  clear r0 p0 p1
                  have hxx : (xd == xd) = true := by simp
                  go_wp2
                  go_roundw
                  case rel => exact ⟨i + 1, by omega, by go_num, HFin.out.1, HBw.out.trans (HFin.out.2.mono HZ0.out)⟩
                  case measure => simp [intOf]; omega
              · go_simp
                obtain ⟨w9, hw9⟩ : ∃ V, V = (w1.alloc (.cells #[.int .u8 z] 5)) := ⟨_, rfl⟩
                rw [← hw9]
                have HX9 : Hid (Box w9 w1.heap.size #[.int .u8 z] 5) := by show Box _ _ _ _; rw [hw9]; exact Box.new _ _ _
                have HBs9 : Hid (Below w1.heap.size w1 w9) := by show Below _ _ _; rw [hw9]; exact ((Below.refl _ _).alloc (Nat.le_refl _) _)
                have HBt9 : Hid (But Cd wr w9) := (HBt1.out).trans (But.ofBelow HBs9.out)
                have HGe9 : Hid (wr.heap.size ≤ w1.heap.size) := (HBt1.out).size
                clear hw9
                refine hK1 _ _ (fun _ => HBt9.out) ?_
                clear hK1 K1
                refine wpPre_nil ?_
                refine wpTr_e rfl (fun K1 hK1 => ?_)
                refine step_callG (by first | rfl | go_simp) 12 #[.tmp 61, .const (.string ⟨#[111, 119, 110]⟩), .tmp 65] _ rfl Tryz.f12 Tryz.func12 (by kernel_rfl) rfl #[.pointer (some ⟨db, 0, none⟩), .string ⟨#[111, 119, 110]⟩, .slice (some ⟨wr.heap.size, 0, none⟩) 1 1] rfl _ (HDa.out w9 wr.heap.size ((((((Below.refl wr.heap.size wr)).trans (HBs1.out.mono ((Below.refl wr.heap.size wr)).size))).trans (HBs9.out.mono ((((Below.refl wr.heap.size wr)).trans (HBs1.out.mono ((Below.refl wr.heap.size wr)).size))).size))) (HGe1.out) (((HX1.out).below HBs9.out))) ?_
                rintro e_ w10 hd
                obtain ⟨xd, rfl⟩ := hd.int
                refine ⟨_, rfl, ?_⟩
                have HDd := hid hd
                have HBt10 : Hid (But Cd wr w10) := (HBt9.out).trans hd.but
                clear hd
                go_simp
                refine hK1 _ _ (fun _ => HBt10.out) ?_
                clear hK1 K1
                refine wpPre_nil ?_
                refine wpTr_e rfl (fun K1 hK1 => ?_)
                refine step_callG (by first | rfl | go_simp) 11 #[.tmp 66] _ rfl Tryz.f11 Tryz.func11 (by kernel_rfl) rfl #[.int .i64 xd] rfl _ (num_any xd w10) ?_
                rintro e_ w11 ⟨rfl, hw11⟩
                obtain rfl := hw11.symm
                refine ⟨_, rfl, ?_⟩
                go_simp
                refine hK1 _ _ (fun _ => HBt10.out) ?_
                clear hK1 K1
                refine wpPre_nil ?_
                refine wpTr_e rfl (fun K1 hK1 => ?_)
                refine step_callG (by first | rfl | go_simp) 13 #[.tmp 74, .const (.string ⟨#[111, 119, 110]⟩), .tmp 78] _ rfl Tryz.f13 Tryz.func13 (by kernel_rfl) rfl #[.pointer (some ⟨rb, 0, none⟩), .string ⟨#[111, 119, 110]⟩, .slice (some ⟨w1.heap.size, 0, none⟩) 1 1] rfl _ (HRa.out w10 w1.heap.size (HBt10.out) (HGe9.out) (((HX9.out).kept (HDd.out.but.block _ (HX9.out).lt (fun e => by have h1 := (HM.out.cd _ e).2.1; have h2 := HGe9.out; omega))))) ?_
                rintro e_ w12 hq
                obtain ⟨x_, rfl, he2, hz⟩ := duo_append2 (HM.out.bel ((((((Below.refl wr.heap.size wr)).trans (HBs1.out.mono ((Below.refl wr.heap.size wr)).size))).trans (HBs9.out.mono ((((Below.refl wr.heap.size wr)).trans (HBs1.out.mono ((Below.refl wr.heap.size wr)).size))).size)))).1 HR.out HDd.out ((Below.refl w10.heap.size w10)) hq
                obtain rfl : xd = x_ := by simpa using he2
                refine ⟨_, rfl, ?_⟩
                have HFin := hid (HSt.out w12 (PZ.ahead (HM.out.bel ((((((Below.refl wr.heap.size wr)).trans (HBs1.out.mono ((Below.refl wr.heap.size wr)).size))).trans (HBs9.out.mono ((((Below.refl wr.heap.size wr)).trans (HBs1.out.mono ((Below.refl wr.heap.size wr)).size))).size)))).2 hz))
                clear hq he2 hz
                go_simp
                refine hK1 _ _ (fun h => by cases h) ?_
                clear hK1 K1
                refine wpPre_e rfl rfl (fun K1 hK1 => ?_)
                apply Exists.intro
                refine And.intro (fun wx hx => ?_) ?_
                · go_simp
                  try rfl
                go_simp
                refine hK1 _ ?_
                clear hK1 K1
                refine wpPre_nil ?_
                refine wpTr_done ?_
                clear r0 p0 p1
                have hxx : (xd == xd) = true := by simp
                go_wp2
                go_roundw
                case rel => exact ⟨i + 1, by omega, by go_num, HFin.out.1, HBw.out.trans (HFin.out.2.mono HZ0.out)⟩
                case measure => simp [intOf]; omega
            · go_simp
              obtain ⟨w13, hw13⟩ : ∃ V, V = (wr.alloc (.cells #[.int .u8 z] 5)).drew := ⟨_, rfl⟩
              rw [← hw13]
              have HX13 : Hid (Box w13 wr.heap.size #[.int .u8 z] 5) := by show Box _ _ _ _; rw [hw13]; exact (Box.new _ _ _).below (Below.refl _ _).drew
              have HBs13 : Hid (Below wr.heap.size wr w13) := by show Below _ _ _; rw [hw13]; exact ((Below.refl _ _).alloc (Nat.le_refl _) _).drew
              have HBt13 : Hid (But Cd wr w13) := ((But.ofBelow (Below.refl _ _) : But Cd wr wr)).trans (But.ofBelow HBs13.out)
              have HGe13 : Hid (wr.heap.size ≤ wr.heap.size) := ((But.ofBelow (Below.refl _ _) : But Cd wr wr)).size
              clear hw13
              refine hK1 _ _ (fun _ => HBt13.out) ?_
              clear hK1 K1
              refine wpPre_nil ?_
              refine wpTr_e rfl (fun K1 hK1 => ?_)
              go_simp
              obtain ⟨w14, hw14⟩ : ∃ V, V = (w13.alloc (.cells #[.int .u8 z] 5)) := ⟨_, rfl⟩
              rw [← hw14]
              have HX14 : Hid (Box w14 w13.heap.size #[.int .u8 z] 5) := by show Box _ _ _ _; rw [hw14]; exact Box.new _ _ _
              have HBs14 : Hid (Below w13.heap.size w13 w14) := by show Below _ _ _; rw [hw14]; exact ((Below.refl _ _).alloc (Nat.le_refl _) _)
              have HBt14 : Hid (But Cd wr w14) := (HBt13.out).trans (But.ofBelow HBs14.out)
              have HGe14 : Hid (wr.heap.size ≤ w13.heap.size) := (HBt13.out).size
              clear hw14
              refine hK1 _ _ (fun _ => HBt14.out) ?_
              clear hK1 K1
              refine wpPre_nil ?_
              refine wpTr_e rfl (fun K1 hK1 => ?_)
              refine step_callG (by first | rfl | go_simp) 12 #[.tmp 61, .const (.string ⟨#[111, 119, 110]⟩), .tmp 65] _ rfl Tryz.f12 Tryz.func12 (by kernel_rfl) rfl #[.pointer (some ⟨db, 0, none⟩), .string ⟨#[111, 119, 110]⟩, .slice (some ⟨w13.heap.size, 0, none⟩) 1 1] rfl _ (HDa.out w14 w13.heap.size ((((((Below.refl wr.heap.size wr)).trans (HBs13.out.mono ((Below.refl wr.heap.size wr)).size))).trans (HBs14.out.mono ((((Below.refl wr.heap.size wr)).trans (HBs13.out.mono ((Below.refl wr.heap.size wr)).size))).size))) (HGe14.out) (HX14.out)) ?_
              rintro e_ w15 hd
              obtain ⟨xd, rfl⟩ := hd.int
              refine ⟨_, rfl, ?_⟩
              have HDd := hid hd
              have HBt15 : Hid (But Cd wr w15) := (HBt14.out).trans hd.but
              clear hd
              go_simp
              refine hK1 _ _ (fun _ => HBt15.out) ?_
              clear hK1 K1
              refine wpPre_nil ?_
              refine wpTr_e rfl (fun K1 hK1 => ?_)
              refine step_callG (by first | rfl | go_simp) 11 #[.tmp 66] _ rfl Tryz.f11 Tryz.func11 (by kernel_rfl) rfl #[.int .i64 xd] rfl _ (num_any xd w15) ?_
              rintro e_ w16 ⟨rfl, hw16⟩
              obtain rfl := hw16.symm
              refine ⟨_, rfl, ?_⟩
              go_simp
              refine hK1 _ _ (fun _ => HBt15.out) ?_
              clear hK1 K1
              refine wpPre_nil ?_
              refine wpTr_e rfl (fun K1 hK1 => ?_)
              refine step_callG (by first | rfl | go_simp) 13 #[.tmp 74, .const (.string ⟨#[111, 119, 110]⟩), .tmp 78] _ rfl Tryz.f13 Tryz.func13 (by kernel_rfl) rfl #[.pointer (some ⟨rb, 0, none⟩), .string ⟨#[111, 119, 110]⟩, .slice (some ⟨wr.heap.size, 0, none⟩) 1 1] rfl _ (HRa.out w15 wr.heap.size (HBt15.out) (HGe13.out) (((((HX13.out).below HBs14.out)).kept (HDd.out.but.block _ (((HX13.out).below HBs14.out)).lt (fun e => by have h1 := (HM.out.cd _ e).2.1; have h2 := HGe13.out; omega))))) ?_
              rintro e_ w17 hq
              obtain ⟨x_, rfl, he2, hz⟩ := duo_append2 (HM.out.bel ((((((Below.refl wr.heap.size wr)).trans (HBs13.out.mono ((Below.refl wr.heap.size wr)).size))).trans (HBs14.out.mono ((((Below.refl wr.heap.size wr)).trans (HBs13.out.mono ((Below.refl wr.heap.size wr)).size))).size)))).1 HR.out HDd.out ((Below.refl w15.heap.size w15)) hq
              obtain rfl : xd = x_ := by simpa using he2
              refine ⟨_, rfl, ?_⟩
              have HFin := hid (HSt.out w17 (PZ.ahead (HM.out.bel ((((((Below.refl wr.heap.size wr)).trans (HBs13.out.mono ((Below.refl wr.heap.size wr)).size))).trans (HBs14.out.mono ((((Below.refl wr.heap.size wr)).trans (HBs13.out.mono ((Below.refl wr.heap.size wr)).size))).size)))).2 hz))
              clear hq he2 hz
              go_simp
              refine hK1 _ _ (fun h => by cases h) ?_
              clear hK1 K1
              refine wpPre_e rfl rfl (fun K1 hK1 => ?_)
              apply Exists.intro
              refine And.intro (fun wx hx => ?_) ?_
              · go_simp
                try rfl
              go_simp
              refine hK1 _ ?_
              clear hK1 K1
              refine wpPre_nil ?_
              refine wpTr_done ?_
              clear r0 p0 p1
              have hxx : (xd == xd) = true := by simp
              go_wp2
              go_roundw
              case rel => exact ⟨i + 1, by omega, by go_num, HFin.out.1, HBw.out.trans (HFin.out.2.mono HZ0.out)⟩
              case measure => simp [intOf]; omega
          · have hlt' : ¬ (i : Int) < (M : Int) := by omega
            have hiM : M = i := by omega
            subst hiM
            clear hlt'
            go_wp2_with fail
            go_loopw [9] (fun x wq => ∃ i : Nat, i ≤ P.n ∧ x = .int .i64 (i : Int) ∧ MI wq w0.heap.size (some ⟨g, 0, none⟩) c L ∧ Below w.heap.size w wq) (fun x _ => P.n - (intOf x).toNat)
            case atStart => exact ⟨0, Nat.zero_le _, rfl, HMI.out, HBw.out⟩
            case round =>
              obtain ⟨i, hi, rfl, hMI, hbw⟩ := hrel
              clear HMI HBw
              have HMI := hid hMI
              have HBw := hid hbw
              clear hMI hbw
              by_cases hlt : i < P.n
              · have hlt' : (i : Int) < (P.n : Int) := by omega
                obtain ⟨k, hk⟩ : ∃ k, k = 7 * i % M := ⟨_, rfl⟩
                have hM0 : 0 < M := by have := HMe.out; omega
                have hkM : k < M := by rw [hk]; exact Nat.mod_lt _ hM0
                have hk1 : IntKind.i64.wrap (7 * (i : Int)) = 7 * (i : Int) := by rw [IntKind.wrap_i64]; omega
                have hk2 : Int.tmod (7 * (i : Int)) (M : Int) = (k : Int) := by rw [hk]; exact Int.ofNat_tmod (7 * i) M |>.symm
                have hk3 : IntKind.i64.wrap (k : Int) = (k : Int) := by rw [IntKind.wrap_i64]; omega
                have hk4 : ¬ M = 0 := by omega
                have hk5 : (k : Int) < (M : Int) := by omega
                obtain ⟨pb, hpb⟩ : ∃ pb, L[k]? = some pb := ⟨_, List.getElem?_eq_getElem (by rw [HL.out]; exact hkM)⟩
                obtain ⟨g', hp, _, hgl, r0⟩ := HMI.out.at_ hpb
                obtain rfl : g = g' := by simpa using hp
                clear hp
                obtain ⟨Z, db, rb, D, R, Cd, Cr, hZ, hM, hR, hst⟩ := HMI.out.one hpb
                rw [HL.out] at hZ
                have p0 := hM.bx.cell 0
                have p1 := hM.bx.cell 1
                simp at p0 p1
                have HZ := hid hZ
                have HM := hid hM
                have HR := hid hR
                have HSt := hid hst
                have HGl := hid hgl
                clear hZ hM hR hst hgl hpb
                obtain ⟨bb, o, hp, hbS, hbb, hat⟩ := HP.out.at_ (by omega)
                rw [hp]
                obtain ⟨op, hop⟩ : ∃ op, op = P.item i := ⟨_, rfl⟩
                have hce : ∀ r u, (elD.cells (P.item i))[r]? = some u → wr.cell? ⟨bb, o + i * 7 + r, none⟩ = some u := fun r u hu => (World.cell?_of_block (a := ⟨bb, o + i * 7 + r, none⟩) (HBw.out.block bb hbS)).trans (hat i hlt r u hu)
                rw [← hop] at hce
                have a0 : wr.cell? ⟨bb, o + i * 7, none⟩ = some (.int .i64 op.kind) := hce 0 _ rfl
                have a1 : wr.cell? ⟨bb, o + i * 7 + 1, none⟩ = some (.int .i64 op.which) := hce 1 _ rfl
                have a2 : wr.cell? ⟨bb, o + i * 7 + 2, none⟩ = some (.string op.name) := hce 2 _ rfl
                have a3 : wr.cell? ⟨bb, o + i * 7 + 3, none⟩ = some (.int .i64 op.n) := hce 3 _ rfl
                have a4 : wr.cell? ⟨bb, o + i * 7 + 4, none⟩ = some (.int .i64 op.after) := hce 4 _ rfl
                have a5 : wr.cell? ⟨bb, o + i * 7 + 5, none⟩ = some (.slice op.bp op.zs.length op.bc) := hce 5 _ rfl
                have a6 : wr.cell? ⟨bb, o + i * 7 + 6, none⟩ = some (.slice op.K.p op.K.n op.K.c) := hce 6 _ rfl
                have HOp : Hid (op.In wr Z) := by
                  have h1 := HP.out.each i hlt
                  have h2 := HPz.out i hlt
                  rw [← hop] at h1 h2
                  have h3 := elD.mono (elD.kept h1 HBw.out.size fun b hb _ => HBw.out.block b hb) (S' := Z) fun b hb _ => HZ.out b (.inl (Nat.lt_of_lt_of_le hb HZ0.out))
                  exact ⟨h3.1, h3.2.1, h3.2.2.1, h3.2.2.2.1, h3.2.2.2.2.1, h3.2.2.2.2.2, h2.1, h2.2⟩
                have HPl := hid (plays_any op wr.drew Z pb db rb D R Cd Cr HM.out.drew HR.out (HOp.out.bel (Fr.of (Below.refl _ _).drew)))
                simp only [OpD.cs] at HPl
                clear hat hce hop hk
                go_upto_region 19 with fail
                refine wp_region_calmE 30 (fun wx => Below wr.heap.size wr wx) [(0, true), (1, true), (2, true), (3, true), (4, true), (5, true), (6, true), (7, false), (8, true), (9, true), (10, true), (11, false)] (.one 12 false [(13, true)] .done) (by kernel_rfl) (by kernel_rfl) (Below.refl _ _).drew ?_
                refine wpPre_e rfl rfl (fun K1 hK1 => ?_)
                apply Exists.intro
                refine And.intro (fun wx hx => ?_) ?_
                · go_simp
                  try rfl
                go_simp
                refine hK1 _ ?_
                clear hK1 K1
                refine wpPre_e rfl rfl (fun K1 hK1 => ?_)
                apply Exists.intro
                refine And.intro (fun wx hx => ?_) ?_
                · go_simp
                  try rfl
                go_simp
                refine hK1 _ ?_
                clear hK1 K1
                refine wpPre_e rfl rfl (fun K1 hK1 => ?_)
                apply Exists.intro
                refine And.intro (fun wx hx => ?_) ?_
                · go_simp
                  try rfl
                go_simp
                refine hK1 _ ?_
                clear hK1 K1
                refine wpPre_e rfl rfl (fun K1 hK1 => ?_)
                apply Exists.intro
                refine And.intro (fun wx hx => ?_) ?_
                · go_simp
                  try rfl
                go_simp
                refine hK1 _ ?_
                clear hK1 K1
                refine wpPre_e rfl rfl (fun K1 hK1 => ?_)
                apply Exists.intro
                refine And.intro (fun wx hx => ?_) ?_
                · go_simp
                  try rfl
                go_simp
                refine hK1 _ ?_
                clear hK1 K1
                refine wpPre_e rfl rfl (fun K1 hK1 => ?_)
                apply Exists.intro
                refine And.intro (fun wx hx => ?_) ?_
                · go_simp
                  try rfl
                go_simp
                refine hK1 _ ?_
                clear hK1 K1
                refine wpPre_e rfl rfl (fun K1 hK1 => ?_)
                apply Exists.intro
                refine And.intro (fun wx hx => ?_) ?_
                · go_simp
                  try rfl
                go_simp
                refine hK1 _ ?_
                clear hK1 K1
                refine wpPre_e rfl rfl (fun K1 hK1 => ?_)
                apply Exists.intro
                refine And.intro (fun wx hx => ?_) ?_
                · have e0 := below_fact hx rfl r0
                  go_simp
                  try rfl
                go_simp
                refine hK1 _ ?_
                clear hK1 K1
                refine wpPre_e rfl rfl (fun K1 hK1 => ?_)
                apply Exists.intro
                refine And.intro (fun wx hx => ?_) ?_
                · go_simp
                  try rfl
                go_simp
                refine hK1 _ ?_
                clear hK1 K1
                refine wpPre_e rfl rfl (fun K1 hK1 => ?_)
                apply Exists.intro
                refine And.intro (fun wx hx => ?_) ?_
                · go_simp
                  try rfl
                go_simp
                refine hK1 _ ?_
                clear hK1 K1
                refine wpPre_e rfl rfl (fun K1 hK1 => ?_)
                apply Exists.intro
                refine And.intro (fun wx hx => ?_) ?_
                · go_simp
                  try rfl
                go_simp
                refine hK1 _ ?_
                clear hK1 K1
                refine wpPre_e rfl rfl (fun K1 hK1 => ?_)
                apply Exists.intro
                refine And.intro (fun wx hx => ?_) ?_
                · have e0 := below_fact hx rfl a0
                  have e1 := below_fact hx rfl a1
                  have e2 := below_fact hx rfl a2
                  have e3 := below_fact hx rfl a3
                  have e4 := below_fact hx rfl a4
                  have e5 := below_fact hx rfl a5
                  have e6 := below_fact hx rfl a6
                  go_simp
                  try rfl
                go_simp
                refine hK1 _ ?_
                clear hK1 K1
                refine wpPre_nil ?_
                refine wpTr_e rfl (fun K1 hK1 => ?_)
                refine step_callG (by first | rfl | go_simp) 7 #[.tmp 94, .tmp 98] _ rfl Tryz.f7 Tryz.func7 (by kernel_rfl) rfl #[.pointer (some ⟨pb, 0, none⟩), .agg #[.int .i64 op.kind, .int .i64 op.which, .string op.name, .int .i64 op.n, .int .i64 op.after, .slice op.bp op.zs.length op.bc, .slice op.K.p op.K.n op.K.c]] rfl _ (HPl.out) ?_
                rintro e_ w5 ⟨rfl, hz⟩
                refine ⟨_, rfl, ?_⟩
                have HFin := hid (HSt.out w5 (PZ.ahead (Fr.of (Below.refl _ _).drew) hz))
                clear hz
                go_simp
                refine hK1 _ _ (fun h => by cases h) ?_
                clear hK1 K1
                refine wpPre_e rfl rfl (fun K1 hK1 => ?_)
                apply Exists.intro
                refine And.intro (fun wx hx => ?_) ?_
                · go_simp
                  try rfl
                go_simp
                refine hK1 _ ?_
                clear hK1 K1
                refine wpPre_nil ?_
                refine wpTr_done ?_
                clear r0 p0 p1 a0 a1 a2 a3 a4 a5 a6
                go_wp2
                go_roundw
                case rel => exact ⟨i + 1, by omega, by go_num, HFin.out.1, HBw.out.trans (HFin.out.2.mono HZ0.out)⟩
                case measure => simp [intOf]; omega
              · have hlt' : ¬ (i : Int) < (P.n : Int) := by omega
                go_wp2_with fail
                clear hlt'
                go_loopw [10] (fun x wq => ∃ i : Nat, i ≤ M ∧ x = .int .i64 (i : Int) ∧ MI wq w0.heap.size (some ⟨g, 0, none⟩) c L ∧ Below w.heap.size w wq) (fun x _ => M - (intOf x).toNat)
                case atStart => exact ⟨0, Nat.zero_le _, rfl, HMI.out, HBw.out⟩
                case round =>
                  clear hi hlt
                  obtain ⟨i, hi, rfl, hMI, hbw⟩ := hrel
                  clear HMI HBw
                  have HMI := hid hMI
                  have HBw := hid hbw
                  clear hMI hbw
                  by_cases hlt : i < M
                  · have hlt' : (i : Int) < (M : Int) := by omega
                    obtain ⟨pb, hpb⟩ : ∃ pb, L[i]? = some pb := ⟨_, List.getElem?_eq_getElem (by rw [HL.out]; exact hlt)⟩
                    obtain ⟨g', hp, _, hgl, r0⟩ := HMI.out.at_ hpb
                    obtain rfl : g = g' := by simpa using hp
                    clear hp
                    obtain ⟨Z, db, rb, D, R, Cd, Cr, hZ, hM, hR, hst⟩ := HMI.out.one hpb
                    rw [HL.out] at hZ
                    have p0 := hM.bx.cell 0
                    have p1 := hM.bx.cell 1
                    simp at p0 p1
                    have HZ := hid hZ
                    have HM := hid hM
                    have HR := hid hR
                    have HSt := hid hst
                    have HGl := hid hgl
                    clear hZ hM hR hst hgl hpb
                    have HF1 : Hid (∀ Wx, Below wr.heap.size wr Wx → Calls Tryz.prog 9 #[.pointer (some ⟨db, 0, none⟩)] Wx fun e w' => FilesQ D Wx e w') := fun Wx hW => dfiles_any D Wx _ db (HM.out.dk.below hW)
                    have HF2 : Hid (∀ Wx, Below wr.heap.size wr Wx → Calls Tryz.prog 10 #[.pointer (some ⟨rb, 0, none⟩)] Wx fun e w' => RfilesQ R.lt Wx e w') := fun Wx hW => by
                      have hk := HM.out.rk.below hW
                      have hr := hk.bx.cell 0
                      exact rfiles_any R.lt Wx _ rb (by rw [R.lt_n]; show Wx.cell? ⟨rb, 0, none⟩ = some (.slice R.p R.fs.length R.c); simpa using hr) hk.toLt (by rw [R.lt_n]; have := hk.n; omega)
                    go_upto_region 24 with fail
                    refine wp_region_calmE 30 (fun wx => Below wr.heap.size wr wx) [(0, true), (1, true), (2, true), (3, false), (4, true), (5, true), (6, false), (8, true), (9, true), (10, true), (11, false), (12, true), (13, true), (14, false)] (.one 7 true [] (.one 15 true [] (.one 16 false [(17, true)] .done))) (by kernel_rfl) (by kernel_rfl) (Below.refl _ _).drew ?_
                    refine wpPre_e rfl rfl (fun K1 hK1 => ?_)
                    apply Exists.intro
                    refine And.intro (fun wx hx => ?_) ?_
                    · go_simp
                      try rfl
                    go_simp
                    refine hK1 _ ?_
                    clear hK1 K1
                    refine wpPre_e rfl rfl (fun K1 hK1 => ?_)
                    apply Exists.intro
                    refine And.intro (fun wx hx => ?_) ?_
                    · go_simp
                      try rfl
                    go_simp
                    refine hK1 _ ?_
                    clear hK1 K1
                    refine wpPre_e rfl rfl (fun K1 hK1 => ?_)
                    apply Exists.intro
                    refine And.intro (fun wx hx => ?_) ?_
                    · go_simp
                      try rfl
                    go_simp
                    refine hK1 _ ?_
                    clear hK1 K1
                    refine wpPre_e rfl rfl (fun K1 hK1 => ?_)
                    apply Exists.intro
                    refine And.intro (fun wx hx => ?_) ?_
                    · have e0 := below_fact hx rfl r0
                      go_simp
                      try rfl
                    go_simp
                    refine hK1 _ ?_
                    clear hK1 K1
                    refine wpPre_e rfl rfl (fun K1 hK1 => ?_)
                    apply Exists.intro
                    refine And.intro (fun wx hx => ?_) ?_
                    · go_simp
                      try rfl
                    go_simp
                    refine hK1 _ ?_
                    clear hK1 K1
                    refine wpPre_e rfl rfl (fun K1 hK1 => ?_)
                    apply Exists.intro
                    refine And.intro (fun wx hx => ?_) ?_
                    · go_simp
                      try rfl
                    go_simp
                    refine hK1 _ ?_
                    clear hK1 K1
                    refine wpPre_e rfl rfl (fun K1 hK1 => ?_)
                    apply Exists.intro
                    refine And.intro (fun wx hx => ?_) ?_
                    · have e0 := below_fact hx rfl p0
                      go_simp
                      try rfl
                    go_simp
                    refine hK1 _ ?_
                    clear hK1 K1
                    refine wpPre_e rfl rfl (fun K1 hK1 => ?_)
                    apply Exists.intro
                    refine And.intro (fun wx hx => ?_) ?_
                    · go_simp
                      try rfl
                    go_simp
                    refine hK1 _ ?_
                    clear hK1 K1
                    refine wpPre_e rfl rfl (fun K1 hK1 => ?_)
                    apply Exists.intro
                    refine And.intro (fun wx hx => ?_) ?_
                    · go_simp
                      try rfl
                    go_simp
                    refine hK1 _ ?_
                    clear hK1 K1
                    refine wpPre_e rfl rfl (fun K1 hK1 => ?_)
                    apply Exists.intro
                    refine And.intro (fun wx hx => ?_) ?_
                    · go_simp
                      try rfl
                    go_simp
                    refine hK1 _ ?_
                    clear hK1 K1
                    refine wpPre_e rfl rfl (fun K1 hK1 => ?_)
                    apply Exists.intro
                    refine And.intro (fun wx hx => ?_) ?_
                    · have e0 := below_fact hx rfl r0
                      go_simp
                      try rfl
                    go_simp
                    refine hK1 _ ?_
                    clear hK1 K1
                    refine wpPre_e rfl rfl (fun K1 hK1 => ?_)
                    apply Exists.intro
                    refine And.intro (fun wx hx => ?_) ?_
                    · go_simp
                      try rfl
                    go_simp
                    refine hK1 _ ?_
                    clear hK1 K1
                    refine wpPre_e rfl rfl (fun K1 hK1 => ?_)
                    apply Exists.intro
                    refine And.intro (fun wx hx => ?_) ?_
                    · go_simp
                      try rfl
                    go_simp
                    refine hK1 _ ?_
                    clear hK1 K1
                    refine wpPre_e rfl rfl (fun K1 hK1 => ?_)
                    apply Exists.intro
                    refine And.intro (fun wx hx => ?_) ?_
                    · have e0 := below_fact hx rfl p1
                      go_simp
                      try rfl
                    go_simp
                    refine hK1 _ ?_
                    clear hK1 K1
                    refine wpPre_nil ?_
                    refine wpTr_e rfl (fun K1 hK1 => ?_)
                    refine step_callG (by first | rfl | go_simp) 9 #[.tmp 113] _ rfl Tryz.f9 Tryz.func9 (by kernel_rfl) rfl #[.pointer (some ⟨db, 0, none⟩)] rfl _ (HF1.out _ (Below.refl _ _).drew) ?_
                    rintro e_ w3 ⟨u, YS, rfl, hu, hYp, hYs, hun, huk, hb3⟩
                    refine ⟨_, rfl, ?_⟩
                    have HU := hid hu
                    have HY := hid (And.intro hYp (And.intro hYs (And.intro hun huk)))
                    have HB3 : Hid (Below wr.heap.size wr w3) := (Below.refl _ _).drew.trans hb3
                    clear hu hYp hYs hun huk hb3
                    go_simp
                    refine hK1 _ _ (fun _ => HB3.out) ?_
                    clear hK1 K1
                    refine wpPre_nil ?_
                    refine wpTr_e rfl (fun K1 hK1 => ?_)
                    refine step_callG (by first | rfl | go_simp) 10 #[.tmp 121] _ rfl Tryz.f10 Tryz.func10 (by kernel_rfl) rfl #[.pointer (some ⟨rb, 0, none⟩)] rfl _ (HF2.out _ HB3.out) ?_
                    rintro e_ w4 ⟨v, rfl, hv, hvn, hvk, hb4⟩
                    refine ⟨_, rfl, ?_⟩
                    have HV := hid hv
                    have HVk := hid (And.intro hvn hvk)
                    have HB34 := hid hb4
                    have HB4 : Hid (Below wr.heap.size wr w4) := HB3.out.trans (hb4.mono HB3.out.size)
                    clear hv hvn hvk hb4
                    go_simp
                    refine hK1 _ _ (fun _ => HB4.out) ?_
                    clear hK1 K1
                    refine wpPre_nil ?_
                    refine wpTr_e rfl (fun K1 hK1 => ?_)
                    have HSame := hid (files_same HR.out (fun f hf => (HM.out.dk.each f hf).nm) HM.out.dk.nodup HY.out.1 HY.out.2.1 HY.out.2.2.1 HY.out.2.2.2 HVk.out.1 HVk.out.2)
                    refine step_callG (by first | rfl | go_simp) 8 #[.tmp 114, .tmp 122] _ rfl Tryz.f8 Tryz.func8 (by kernel_rfl) rfl #[.slice u.p u.n u.c, .slice v.p v.n v.c] rfl _ (alike_yes u v w4 _ _ (HU.out.kept HB34.out.size fun b _ hl => HB34.out.block b hl) HV.out HSame.out.1 HSame.out.2) ?_
                    rintro e_ w5 ⟨rfl, hb5⟩
                    refine ⟨_, rfl, ?_⟩
                    have HBZ : Hid (Below wr.heap.size wr w5) := HB4.out.trans (hb5.mono HB4.out.size)
                    clear hb5
                    go_simp
                    refine hK1 _ _ (fun h => by cases h) ?_
                    clear hK1 K1
                    refine wpPre_e rfl rfl (fun K1 hK1 => ?_)
                    apply Exists.intro
                    refine And.intro (fun wx hx => ?_) ?_
                    · go_simp
                      try rfl
                    go_simp
                    refine hK1 _ ?_
                    clear hK1 K1
                    refine wpPre_nil ?_
                    refine wpTr_done ?_
                    clear r0 p0 p1
                    go_wp2
                    go_roundw
                    case rel => exact ⟨i + 1, by omega, by go_num, HMI.out.below HBZ.out, HBw.out.trans (HBZ.out.mono HBw.out.size)⟩
                    case measure => simp [intOf]; omega
                  · have hlt' : ¬ (i : Int) < (M : Int) := by omega
                    go_wp2
                    exact bodyPost_ret (v := .bool true) (by simp [results, Tryz.results4, go_sem]) rfl ⟨rfl, HBw.out⟩
end Go.Proofs.YtebiidfdokhpaabGreatDoor
