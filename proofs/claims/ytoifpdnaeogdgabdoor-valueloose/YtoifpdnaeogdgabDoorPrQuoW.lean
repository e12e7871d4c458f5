import Derived.Test.YtoifpdnaeogdgabDoorPack6
namespace Go.Proofs.YtoifpdnaeogdgabDoor
open Go.RowKit
set_option maxRecDepth 8000
set_option maxHeartbeats 2000000 in
set_option maxRecDepth 200000 in
theorem appendQuoted_any (s : ByteArray) (hs : s.size ≤ 24) (base : Nat) (w : World) (v : Value) (zs : List Int) (hv : OwnBy base w v zs) (hb : base ≤ w.heap.size) (hz : zs.length ≤ 80000) (hT : Tabs base w) :
    Calls Tryd.prog 34 #[v, .string s] w fun e w' => EPost base w (zs ++ quoB s) e w' := by
  obtain ⟨i0, Kd⟩ := kindB
  have HV := hid hv
  have HT := hid hT
  have hrow : w.ownsRow base 5 1 v zs.length (zs.map (Value.int .u8)) := hv
  clear hv hT
  go_enter Tryd.func34, Tryd.ntmps34
  go_wp2_with (at_builtin; refine wpList_app rfl (.tmp 9) (.tmp 10) 56 5 i0 _ 1 1 Kd rfl base v zs.length _ rfl (hrow.alloc _) ⟨w.heap.size, 0, none⟩ 1 1 [.int .u8 34] rfl rfl (cell_one_new _ _ _) (one8 _) (by omega) (by omega) (by simp; omega) ?_)
  intro v1 w1 ho1 hg1 hn1
  have HL1 := hid ((LayB.refl HV.out).one hb ho1 hg1)
  have hsw := HL1.out.bel.size
  clear ho1 hg1 hn1 hrow
  go_wp2_with fail
  have HI : Hid (LayB base w (zs ++ [34] ++ []) v1 (w1.iter s 0) ∧ (w1.iter s 0).heap[w1.heap.size]? = some (.stringIter s 0)) := by
    refine ⟨?_, World.iter_heap w1 s 0⟩
    rw [List.append_nil]
    exact HL1.out.later (by omega) ((Below.refl _ _).alloc (Nat.le_refl _) _)
  go_loopw [0] (fun v wr => ∃ (pos fuel : Nat) (ys : List Int), LayB base w (zs ++ [34] ++ ys) v wr ∧ wr.heap[w1.heap.size]? = some (.stringIter s pos) ∧ ys ++ quoF s fuel pos = quoF s s.size 0 ∧ s.size ≤ pos + fuel) (fun _ wr => s.size - wr.iterPos w1.heap.size)
  case atStart => exact ⟨0, s.size, [], HI.out.1, HI.out.2, rfl, by omega⟩
  case round =>
    obtain ⟨pos, fuel, ys, hL, hit, hq, hfu⟩ := hrel
    clear HI HL1
    have hyl : ys.length ≤ 384 := by
      have h1 := congrArg List.length hq
      have h2 := quoF_len s s.size 0
      rw [List.length_append] at h1
      omega
    have hswr := hL.bel.size
    have hkl : w1.heap.size < wr.heap.size := (Array.getElem?_eq_some_iff.1 hit).1
    by_cases hp : pos < s.size
    · have hnx : ∀ ty, (Instr.next (.pointer (some ⟨w1.heap.size, 0, none⟩)) true ty).run Tryd.prog wr = _ := fun ty => Go.Lib.run_next_any_at wr w1.heap.size s pos ty hit hp
      obtain ⟨hwd1, hwd2, hwd3⟩ := dec_width s pos
      have hwd3 := hwd3 hp
      have hrl := decode_le s pos
      have hdg := decGo s pos hp
      obtain ⟨f, rfl⟩ : ∃ f, fuel = f + 1 := ⟨fuel - 1, by omega⟩
      rw [quoF_more s hp] at hq
      have HPc : Hid (piece s pos = if (Utf8.decode s pos).1 = 34 ∨ (Utf8.decode s pos).1 = 92 then [92, ((Utf8.decode s pos).1 : Int)]
        else if (Utf8.decode s pos).1 = 10 then [92, 110] else if (Utf8.decode s pos).1 = 9 then [92, 116]
        else if (32 ≤ (Utf8.decode s pos).1 ∧ (Utf8.decode s pos).1 ≤ 126) ∨ (160 ≤ (Utf8.decode s pos).1 ∧ 1 < (Utf8.decode s pos).2) then txtB (Utf8.encode ((Utf8.decode s pos).1 : Int))
        else hexB (((txtB s).drop pos).take (Utf8.decode s pos).2)) := rfl
      have hDc := fun W hW => Tryd.utf8_DecodeRuneInString (s.extract pos s.size) W (HT.out.utf W hW)
      rw [hdg] at hDc
      have HQ := hid hq
      clear hq hdg
      generalize (Utf8.decode s pos).1 = r at *
      generalize (Utf8.decode s pos).2 = wd at *
      have hLi := hL.iter hit (by omega) hb (pos + wd)
      have hit2 := Go.Lib.iterAt_heap wr w1.heap.size s pos (pos + wd) hit
      have hsz2 : (wr.iterAt w1.heap.size s (pos + wd)).heap.size = wr.heap.size := Go.Lib.iterAt_size _ _ _ _
      have HM : Hid (World.iterPos wr w1.heap.size = pos) := by unfold Hid; simp only [World.iterPos, hit]
      clear hL hit
      have HD := hid (hDc _ hLi.bel)
      generalize hWi : wr.iterAt w1.heap.size s (pos + wd) = wi at *
      go_wp2_with (go_at_call 48; refine HD.out.mono ?_)
      rintro e w2 ⟨rfl, hb2⟩
      have hL2 := hLi.later (by omega) hb2
      have hit3 := iter_kept (KeepN.below hb2) hit2
      have hs2 := hb2.size
      clear HD hDc hLi hit2 hWi hnx hb2
      obtain ⟨L, hLe⟩ : ∃ L, L = zs ++ [34] ++ ys := ⟨_, rfl⟩
      rw [← hLe] at hL2
      have hLl : L.length ≤ 80400 := by rw [hLe]; simp; omega
      have HLe := hid hLe
      have HL := hid hL2
      have HIt := hid hit3
      have hrow2 : w2.ownsRow base 5 1 u0 L.length (L.map (Value.int .u8)) := hL2.own
      clear hL2 hLe hit3
      by_cases hA : r = 34 ∨ r = 92
      · rcases hA with rfl | rfl
        · have HP : Hid (piece s pos = [92, 34]) := by unfold Hid; rw [HPc.out]; rfl
          go_wp2_with (at_builtin; refine wpList_app rfl (.tmp 40) (.tmp 43) 56 5 i0 _ 1 1 Kd rfl base u0 L.length _ rfl (hrow2.alloc _) ⟨w2.heap.size, 0, none⟩ 2 2 [.int .u8 92, .int .u8 34] rfl rfl (newsB2 _ _ _ _) one8s (by omega) (by omega) (by simp; omega) ?_)
          intro v3 w3 ho3 hg3 hn3
          have hF := HL.out.many (ys := [92, 34]) (by omega) ho3 hg3
          have HR := hid (quo_rel HLe.out HP.out hF (iter_kept ((KeepN.below ((Below.refl _ _).alloc (Nat.le_refl _) _)).trans (KeepN.grown (HL.out.own.below ((Below.refl _ _).alloc (Nat.le_refl _) _)) hg3)) HIt.out) HQ.out hfu hwd1 hp HM.out)
          clear ho3 hg3 hn3 hrow2 hF
          go_wp2
          go_roundw
          case rel => exact HR.out.1
          case measure => exact HR.out.2
        · have HP : Hid (piece s pos = [92, 92]) := by unfold Hid; rw [HPc.out]; rfl
          go_wp2_with (at_builtin; refine wpList_app rfl (.tmp 40) (.tmp 43) 56 5 i0 _ 1 1 Kd rfl base u0 L.length _ rfl (hrow2.alloc _) ⟨w2.heap.size, 0, none⟩ 2 2 [.int .u8 92, .int .u8 92] rfl rfl (newsB2 _ _ _ _) one8s (by omega) (by omega) (by simp; omega) ?_)
          intro v3 w3 ho3 hg3 hn3
          have hF := HL.out.many (ys := [92, 92]) (by omega) ho3 hg3
          have HR := hid (quo_rel HLe.out HP.out hF (iter_kept ((KeepN.below ((Below.refl _ _).alloc (Nat.le_refl _) _)).trans (KeepN.grown (HL.out.own.below ((Below.refl _ _).alloc (Nat.le_refl _) _)) hg3)) HIt.out) HQ.out hfu hwd1 hp HM.out)
          clear ho3 hg3 hn3 hrow2 hF
          go_wp2
          go_roundw
          case rel => exact HR.out.1
          case measure => exact HR.out.2
      · have hA1 : ¬ (r : Int) = 34 := by omega
        have hA2 : ¬ (r : Int) = 92 := by omega
        by_cases hB : r = 10
        · subst hB
          have HP : Hid (piece s pos = txtB ⟨#[92, 110]⟩) := by unfold Hid; rw [HPc.out]; rfl
          have hz2 : (⟨#[92, 110]⟩ : ByteArray).size = 2 := rfl
          go_wp2_with (at_builtin; go_loud (refine Go.Lib.wpList_append_own_string _ rfl (.tmp 48) (.const (.string ⟨#[92, 110]⟩)) 56 9 rfl base 5 i0 Kd.ht Tryd.underlying9 Kd.hi Kd.hz Kd.hsize Kd.hby u0 L.length _ rfl hrow2 ⟨#[92, 110]⟩ rfl (by unfold maxLen; omega) (by omega) (by omega) ?_))
          intro v3 w3 ho3 hg3 _
          have hF := HL.out.text (by omega) ho3 hg3
          have HR := hid (quo_rel HLe.out HP.out hF (iter_kept (KeepN.grown HL.out.own hg3) HIt.out) HQ.out hfu hwd1 hp HM.out)
          clear ho3 hg3 hrow2 hF
          go_wp2
          go_roundw
          case rel => exact HR.out.1
          case measure => exact HR.out.2
        · have hB' : ¬ (r : Int) = 10 := by omega
          by_cases hC : r = 9
          · subst hC
            have HP : Hid (piece s pos = txtB ⟨#[92, 116]⟩) := by unfold Hid; rw [HPc.out]; rfl
            have hz2 : (⟨#[92, 116]⟩ : ByteArray).size = 2 := rfl
            go_wp2_with (at_builtin; go_loud (refine Go.Lib.wpList_append_own_string _ rfl (.tmp 53) (.const (.string ⟨#[92, 116]⟩)) 56 9 rfl base 5 i0 Kd.ht Tryd.underlying9 Kd.hi Kd.hz Kd.hsize Kd.hby u0 L.length _ rfl hrow2 ⟨#[92, 116]⟩ rfl (by unfold maxLen; omega) (by omega) (by omega) ?_))
            intro v3 w3 ho3 hg3 _
            have hF := HL.out.text (by omega) ho3 hg3
            have HR := hid (quo_rel HLe.out HP.out hF (iter_kept (KeepN.grown HL.out.own hg3) HIt.out) HQ.out hfu hwd1 hp HM.out)
            clear ho3 hg3 hrow2 hF
            go_wp2
            go_roundw
            case rel => exact HR.out.1
            case measure => exact HR.out.2
          · have hC' : ¬ (r : Int) = 9 := by omega
            have hn1 : ((r : Int) == 34) = false := by rw [beq_eq_false_iff_ne]; omega
            have hn2 : ((r : Int) == 92) = false := by rw [beq_eq_false_iff_ne]; omega
            have hn3 : ((r : Int) == 10) = false := by rw [beq_eq_false_iff_ne]; omega
            have hn4 : ((r : Int) == 9) = false := by rw [beq_eq_false_iff_ne]; omega
            by_cases hD1 : 32 ≤ r ∧ r ≤ 126
            · have hD2 : (32 : Int) ≤ (r : Int) := by omega
              have hD3 : (r : Int) ≤ 126 := by omega
              have HP : Hid (piece s pos = txtB (Utf8.encode (r : Int))) := by unfold Hid; rw [HPc.out, if_neg hA, if_neg hB, if_neg hC, if_pos (Or.inl hD1)]
              clear hA hD1 HPc
              go_wp2_with (at_builtin; go_loud (refine Go.Lib.wpList_append_own_string _ rfl (.tmp 68) (.tmp 70) 56 9 rfl base 5 i0 Kd.ht Tryd.underlying9 Kd.hi Kd.hz Kd.hsize Kd.hby u0 L.length _ rfl hrow2 (Utf8.encode (r : Int)) rfl (by have h := enc_size (r : Int); unfold maxLen; omega) (by have h := enc_size (r : Int); omega) (by omega) ?_))
              intro v3 w3 ho3 hg3 _
              have hF := HL.out.text (by omega) ho3 hg3
              have HR := hid (quo_rel HLe.out HP.out hF (iter_kept (KeepN.grown HL.out.own hg3) HIt.out) HQ.out hfu hwd1 hp HM.out)
              clear ho3 hg3 hrow2 hF
              go_wp2
              go_roundw
              case rel => exact HR.out.1
              case measure => exact HR.out.2
            · by_cases hE : 160 ≤ r ∧ 1 < wd
              · have hD2 : (32 : Int) ≤ (r : Int) := by omega
                have hD3 : ¬ (r : Int) ≤ 126 := by omega
                have hD4 : (160 : Int) ≤ (r : Int) := by omega
                have hD5 : (1 : Int) < (wd : Int) := by omega
                have HP : Hid (piece s pos = txtB (Utf8.encode (r : Int))) := by unfold Hid; rw [HPc.out, if_neg hA, if_neg hB, if_neg hC, if_pos (Or.inr hE)]
                clear hA hD1 hE HPc
                go_wp2_with (at_builtin; go_loud (refine Go.Lib.wpList_append_own_string _ rfl (.tmp 68) (.tmp 70) 56 9 rfl base 5 i0 Kd.ht Tryd.underlying9 Kd.hi Kd.hz Kd.hsize Kd.hby u0 L.length _ rfl hrow2 (Utf8.encode (r : Int)) rfl (by have h := enc_size (r : Int); unfold maxLen; omega) (by have h := enc_size (r : Int); omega) (by omega) ?_))
                intro v3 w3 ho3 hg3 _
                have hF := HL.out.text (by omega) ho3 hg3
                have HR := hid (quo_rel HLe.out HP.out hF (iter_kept (KeepN.grown HL.out.own hg3) HIt.out) HQ.out hfu hwd1 hp HM.out)
                clear ho3 hg3 hrow2 hF
                go_wp2
                go_roundw
                case rel => exact HR.out.1
                case measure => exact HR.out.2
              · have HP : Hid (piece s pos = hexB (txtB (s.extract pos (pos + wd)))) := by unfold Hid; rw [HPc.out, if_neg hA, if_neg hB, if_neg hC, if_neg (fun h => h.elim hD1 hE), txt_cut, Nat.add_sub_cancel_left]
                have hxs : (s.extract pos (pos + wd)).size ≤ 4 := by simp only [ByteArray.size_extract]; omega
                have HX := hid (appendHex_any (s.extract pos (pos + wd)) hxs base w2 u0 L HL.out.own (by omega) (by omega))
                have hpw : (pos : Int) + (wd : Int) ≤ (s.size : Int) := by omega
                have hpw2 : (pos : Int) ≤ (pos : Int) + (wd : Int) := by omega
                have hcl : ∀ (v3 : Value) (w3 : World), LayB base w2 (L ++ hexB (txtB (s.extract pos (pos + wd)))) v3 w3 → (∃ (pos fuel : Nat) (ys : List Int), LayB base w (zs ++ [34] ++ ys) v3 w3 ∧ w3.heap[w1.heap.size]? = some (.stringIter s pos) ∧ ys ++ quoF s fuel pos = quoF s s.size 0 ∧ s.size ≤ pos + fuel) ∧ s.size - World.iterPos w3 w1.heap.size < s.size - World.iterPos wr w1.heap.size :=
                  fun v3 w3 h3 => quo_rel HLe.out HP.out (h3.lift HL.out.bel HL.out.keep) (iter_kept h3.keep HIt.out) HQ.out hfu hwd1 hp HM.out
                have HCl := hid hcl
                have hrc : r < 32 ∨ (127 ≤ r ∧ r < 160) ∨ (160 ≤ r ∧ wd = 1) := by omega
                clear hcl hA hD1 hE HPc
                rcases hrc with hr1 | hr1 | hr1
                · have hD2 : ¬ (32 : Int) ≤ (r : Int) := by omega
                  have hD4 : ¬ (160 : Int) ≤ (r : Int) := by omega
                  go_wp2_with (go_at_call 49; refine HX.out.mono ?_)
                  intro e w3 hP3
                  obtain ⟨v3, rfl, h3⟩ := hP3
                  have HR := hid (HCl.out v3 w3 h3)
                  clear h3 HX HCl
                  go_wp2
                  go_roundw
                  case rel => exact HR.out.1
                  case measure => exact HR.out.2
                · have hD2 : (32 : Int) ≤ (r : Int) := by omega
                  have hD3 : ¬ (r : Int) ≤ 126 := by omega
                  have hD4 : ¬ (160 : Int) ≤ (r : Int) := by omega
                  go_wp2_with (go_at_call 49; refine HX.out.mono ?_)
                  intro e w3 hP3
                  obtain ⟨v3, rfl, h3⟩ := hP3
                  have HR := hid (HCl.out v3 w3 h3)
                  clear h3 HX HCl
                  go_wp2
                  go_roundw
                  case rel => exact HR.out.1
                  case measure => exact HR.out.2
                · have hD2 : (32 : Int) ≤ (r : Int) := by omega
                  have hD3 : ¬ (r : Int) ≤ 126 := by omega
                  have hD4 : (160 : Int) ≤ (r : Int) := by omega
                  have hD5 : ¬ (1 : Int) < (wd : Int) := by omega
                  clear hr1
                  go_wp2_with (go_at_call 49; refine HX.out.mono ?_)
                  intro e w3 hP3
                  obtain ⟨v3, rfl, h3⟩ := hP3
                  have HR := hid (HCl.out v3 w3 h3)
                  clear h3 HX HCl
                  go_wp2
                  go_roundw
                  case rel => exact HR.out.1
                  case measure => exact HR.out.2
    · have hnx : ∀ ty, (Instr.next (.pointer (some ⟨w1.heap.size, 0, none⟩)) true ty).run Tryd.prog wr = _ := fun ty => Go.Lib.run_next_end_at wr w1.heap.size s pos ty hit hp
      rw [quoF_end s hp, List.append_nil] at hq
      have HQ := hid hq
      obtain ⟨L, hLe⟩ : ∃ L, L = zs ++ [34] ++ ys := ⟨_, rfl⟩
      rw [← hLe] at hL
      have hLl : L.length ≤ 80400 := by rw [hLe]; simp; omega
      have HLe := hid hLe
      have HL := hid hL
      have hrow2 : wr.ownsRow base 5 1 u0 L.length (L.map (Value.int .u8)) := hL.own
      clear hL hLe hq
      go_wp2_with (at_builtin; refine wpList_app rfl (.tmp 72) (.tmp 73) 56 5 i0 _ 1 1 Kd rfl base u0 L.length _ rfl (hrow2.alloc _) ⟨wr.heap.size, 0, none⟩ 1 1 [.int .u8 34] rfl rfl (cell_one_new _ _ _) (one8 _) (by omega) (by omega) (by simp; omega) ?_)
      intro v3 w3 ho3 hg3 hn3
      have HF := hid (HL.out.one (by omega) ho3 hg3)
      clear ho3 hg3 hn3 hrow2
      go_wp2
      go_ret
      refine ⟨_, rfl, ?_⟩
      have h := HF.out
      rw [HLe.out, HQ.out] at h
      rw [quoB]
      simpa using h
end Go.Proofs.YtoifpdnaeogdgabDoor
