import Derived.Test.YtikfpoabaaiegaaPack29
namespace Go.Proofs.Ytikfpoabaaiegaa
open Go.RowKit
set_option maxRecDepth 8000
/-- what a text's part holds -/
theorem txL_cut (f : ByteArray) (p m : Nat) : txL (f.extract (p + 2) (p + m)) = (((txL f).drop p).take m).drop 2 := by
  have e : (f.extract (p + 2) (p + m)).data.toList = (f.data.toList.take (p + m)).drop (p + 2) := by
    rw [ByteArray.data_extract, Array.toList_extract, List.extract_eq_take_drop, List.drop_take]
  unfold txL
  rw [e]
  simp only [List.map_drop, List.map_take]
  rw [List.take_drop, List.drop_drop]
theorem one8m (ys : List Int) : ∀ u ∈ ys.map (Value.int .u8), u.oneCell' = true := fun u hu => by
  obtain ⟨z, _, rfl⟩ := List.mem_map.1 hu
  rfl
theorem grpB_pos (u : Nat) : 0 < (grpB u).length := by
  rcases Nat.lt_or_ge u 128 with h | h
  · rw [grpB_small h]; simp
  · rw [grpB_great (by omega)]; simp
set_option maxHeartbeats 8000000 in
theorem refWrite_any {w0 : World} {rb : Nat} {w1 : World} {a b c : Value} {N : List Int} {K : List ByteArray} {V : List VT} {S : Nat → Prop} (h : BG w0 rb w1 a b c N K V) (hV : ∀ x ∈ V, VT.In w1 S x) (hS : ∀ q, S q → q ≠ rb)
    (hN : N.length ≤ 1000000000) (hK : K.length ≤ 1000000000) (hVl : V.length ≤ 1000000000) : ∀ (F : Nat) (f : ByteArray), f.size ≤ 1000 → ∀ (w : World) (i j k : Nat) (v : Value) (zs B : List Int) (g3 : Bg), BW rb w1 w a b c i j k → OwnBy w1.heap.size w v zs → wS F (txL f) (lft N K V i j k) = some (B, g3) → zs.length + B.length ≤ 100000000 →
    Calls Try.prog 46 #[.pointer (some ⟨rb, 0, none⟩), v, .string f] w fun e w' => WrP rb w1 a b c N K V (zs ++ B) g3 e w' := by
  intro F
  induction F using Nat.strongRecOn with
  | ind F ih =>
  intro f hf w i j k v zs B g3 hb hv hw hz
  obtain ⟨i0, Kd⟩ := kindB
  have hrb := h.box.lt
  have H := hid h
  have IH := hid ih
  have HV := hid hV
  have HS := hid hS
  have HKd := hid Kd
  have HNN := hid (And.intro hN (And.intro hK hVl))
  have HB0 := hid hb
  have HW0 := hid hv
  clear h ih hV hS Kd hN hK hVl hb hv
  go_enter Try.func46, Try.ntmps46
  go_wp2_with fail
  go_loopw [1, 7] (fun x y wr => ∃ (p F' i j k : Nat) (Z C : List Int), y = .int .i64 (p : Int) ∧ p ≤ f.size ∧ F' ≤ F ∧ OwnBy w1.heap.size wr x (zs ++ Z) ∧ BW rb w1 wr a b c i j k ∧ wS F' ((txL f).drop p) (lft N K V i j k) = some (C, g3) ∧ Z ++ C = B) (fun _ y _ => f.size - (intOf y).toNat)
  case atStart => exact ⟨0, F, i, j, k, [], B, rfl, Nat.zero_le _, Nat.le_refl _, by simpa using HW0.out, HB0.out, hw, rfl⟩
  case round =>
    obtain ⟨p, F', i, j, k, Z, C, rfl, hp, hF, hv, hb, hw, hZ⟩ := hrel
    clear HB0 HW0
    have HB := hid hb
    have HW := hid hv
    have HZ := hid hZ
    have hzl : (zs ++ Z).length + C.length ≤ 100000000 := by rw [← hZ] at hz; simp at hz ⊢; omega
    have hsz := hb.but.size
    clear hb hv hZ hz
    by_cases hlt : p < f.size
    · have hlt' : (p : Int) < (f.size : Int) := by omega
      rw [txL_drop hlt] at hw
      have htx := txL_drop hlt
      obtain ⟨ch, hc⟩ : ∃ ch, (f[p]'hlt).toNat = ch := ⟨_, rfl⟩
      rw [hc] at hw htx
      have hg : ((f[p]'hlt).toNat : Int) = (ch : Int) := by rw [hc]
      have hcl : ch < 256 := by rw [← hc]; exact txL_lt hlt
      clear hc
      cases F' with
      | zero => cases hw
      | succ F' =>
      obtain ⟨L, hL⟩ : ∃ L, L = zs ++ Z := ⟨_, rfl⟩
      rw [← hL] at HW hzl
      have HLz := hid hL
      clear hL
      by_cases h91 : ch = 91
      · subst h91
        obtain ⟨m, u, P, g2, C', hm, hm2, hi, hu, hrep, hw2, hC⟩ := wS_lists (by decide) hw
        have hmt : mS 0 ((txL f).drop p) = some m := by rw [htx]; exact hm
        have hml : p + m < f.size := by
          have := mS_bound _ _ _ hmt
          rw [List.length_drop, txL_len] at this
          omega
        rw [← htx] at hrep hw2
        rw [← txL_cut f p m] at hrep
        rw [List.drop_drop] at hw2
        have HRep := hid hrep
        have HW2 := hid hw2
        have HC := hid hC
        have hzl2 : L.length + ((grpB u).length + P.length) ≤ 100000000 := by rw [hC] at hzl; simp at hzl; omega
        have HM := hid (refMatch_any f p m (by omega) hf hmt)
        have HNm : Hid (∀ W, BW rb w1 W a b c i j k → _) := fun W hW => refNum_any H.out hW HNN.out.1 hi
        clear hw hw2 hC hzl hrep hm hmt htx hi
        go_wp2_with fail
        refine (HM.out _).mono ?_
        rintro x w2 ⟨rfl, hbm⟩
        have HB1 := hid (HB.out.kept hbm)
        have HW1 := hid (HW.out.below hbm)
        have HNm2 := hid (HNm.out w2 HB1.out)
        clear hbm HM HB HW HNm
        go_wp2_with fail
        refine HNm2.out.mono ?_
        rintro x w2b ⟨rfl, hb2, hbut2⟩
        have HB2 := hid hb2
        have HWb := hid (own_but HW1.out hrb hbut2)
        clear hb2 hbut2 HNm2 HB1 HW1
        have HG := hid (refGrp4_any u hu w2b)
        go_wp2_with fail
        refine HG.out.mono ?_
        rintro x w3 ⟨vg, rfl, hog, hb3⟩
        obtain ⟨b3, c3, rfl, _, _, hcell⟩ := hog.slice (grpB_pos u)
        have HC3 := hid hcell
        have HB3 := hid (HB2.out.kept hb3)
        have HW3 := hid (HWb.out.below hb3)
        have hsz3 := HB3.out.but.size
        have hgl : (grpB u).length ≤ 10 := grpB_len 9 u (Nat.lt_of_lt_of_le hu (by decide))
        have HRow : Hid (w3.ownsRow w1.heap.size 5 1 u1 L.length (L.map (Value.int .u8))) := HW3.out
        clear hog hb3 hcell HG
        go_wp2_with (at_builtin; refine wpList_app rfl (.tmp 40) (.tmp 42) 47 5 i0 _ 1 1 HKd.out rfl w1.heap.size u1 L.length _ rfl HRow.out ⟨b3, 0, none⟩ (grpB u).length c3 ((grpB u).map (Value.int .u8)) rfl (by simp) HC3.out (one8m _) (by omega) (by omega) (by omega) ?_)
        intro v4 w4 ho4 hg4 hn4
        have HW4 := hid (HW3.out.app ho4)
        have HB4 := hid (HB3.out.grown hrb HW3.out hg4)
        have hsz4 := HB4.out.but.size
        clear ho4 hg4 hn4 HRow HC3
        obtain ⟨M, hM⟩ : ∃ M, M = L ++ grpB u := ⟨_, rfl⟩
        rw [← hM] at HW4
        have hMl : M.length + P.length ≤ 100000000 := by rw [hM]; simp; omega
        have HMe := hid hM
        clear hM HB2 HWb HB3 HW3
        go_wp2_with fail
        go_loopw [1, 11] (fun x y wr => ∃ (t i j k : Nat) (Z2 C2 : List Int), y = .int .i64 (t : Int) ∧ t ≤ u ∧ OwnBy w1.heap.size wr x (M ++ Z2) ∧ BW rb w1 wr a b c i j k ∧ repS (wS F' (txL (f.extract (p + 2) (p + m)))) (u - t) (lft N K V i j k) = some (C2, g2) ∧ Z2 ++ C2 = P) (fun _ y _ => u - (intOf y).toNat)
        case atStart => exact ⟨0, i + 1, j, k, [], P, rfl, Nat.zero_le _, by simpa using HW4.out, HB4.out, HRep.out, rfl⟩
        case round =>
          obtain ⟨t, i2, j2, k2, Z2, C2, rfl, ht, hv5, hb5, hr5, hZ5⟩ := hrel
          have HB5 := hid hb5
          have HW5 := hid hv5
          clear HB4 HW4 HRep hb5 hv5
          by_cases htu : t < u
          · have htu' : (t : Int) < (u : Int) := by omega
            rw [show u - t = u - (t + 1) + 1 by omega] at hr5
            obtain ⟨B1, g', C3, h1, h2, h3⟩ := rep_succ hr5
            have hl5 : (M ++ Z2).length + B1.length ≤ 100000000 := by
              have hh := congrArg List.length hZ5
              rw [h3] at hh
              simp at hh ⊢
              omega
            have HI := hid (IH.out F' (by omega) (f.extract (p + 2) (p + m)) (by rw [ByteArray.size_extract]; omega) _ i2 j2 k2 _ (M ++ Z2) B1 g' HB5.out HW5.out h1 hl5)
            have HR := hid h2
            have HP5 : Hid (Z2 ++ (B1 ++ C3) = P) := by rw [← h3]; exact hZ5
            clear h1 hr5 hl5 h2 h3 hZ5 HB5 HW5
            go_wp2_with fail
            refine HI.out.mono ?_
            rintro x w6 ⟨v6, i6, j6, k6, rfl, hv6, hb6, hg6⟩
            have HW6 := hid hv6
            have HB6 := hid hb6
            have HR6 : Hid (repS (wS F' (txL (f.extract (p + 2) (p + m)))) (u - (t + 1)) (lft N K V i6 j6 k6) = some (C3, g2)) := by unfold Hid; rw [← hg6]; exact HR.out
            clear hv6 hb6 hg6 HI HR
            go_wp2
            go_roundw
            case rel => exact ⟨t + 1, i6, j6, k6, Z2 ++ B1, C3, by go_num, by omega, by rw [← List.append_assoc]; exact HW6.out, HB6.out, HR6.out, by rw [List.append_assoc]; exact HP5.out⟩
            case measure => simp [intOf]; omega
          · obtain rfl : t = u := by omega
            have htu' : ¬ (t : Int) < (t : Int) := by omega
            have HE : Hid (C2 = [] ∧ g2 = lft N K V i2 j2 k2) := by
              rw [Nat.sub_self] at hr5
              unfold repS at hr5
              simp at hr5
              exact ⟨hr5.1, hr5.2.symm⟩
            have HW6 : Hid (OwnBy w1.heap.size wr u1 (zs ++ (Z ++ (grpB t ++ P)))) := by
              have e := hZ5
              rw [HE.out.1, List.append_nil] at e
              unfold Hid
              rw [← List.append_assoc, ← HLz.out, ← List.append_assoc, ← HMe.out, ← e]
              exact HW5.out
            have HW7 : Hid (wS F' ((txL f).drop (p + m + 1)) (lft N K V i2 j2 k2) = some (C', g3)) := by unfold Hid; rw [← HE.out.2]; exact HW2.out
            clear hr5 hZ5 HW5 HW2
            go_wp2
            go_roundw
            case rel => exact ⟨p + m + 1, F', i2, j2, k2, Z ++ (grpB t ++ P), C', by go_num, by omega, by omega, HW6.out, HB5.out, HW7.out, by rw [List.append_assoc, List.append_assoc, ← HC.out]; exact HZ.out⟩
            case measure => simp [intOf]; omega
      by_cases h60 : ch = 60
      · subst h60
        obtain ⟨m, u, P, g2, C', hm, hm2, hi, hu, hrep, hw2, hC⟩ := wS_lists (by decide) hw
        have hmt : mS 0 ((txL f).drop p) = some m := by rw [htx]; exact hm
        have hml : p + m < f.size := by
          have := mS_bound _ _ _ hmt
          rw [List.length_drop, txL_len] at this
          omega
        rw [← htx] at hrep hw2
        rw [← txL_cut f p m] at hrep
        rw [List.drop_drop] at hw2
        have HRep := hid hrep
        have HW2 := hid hw2
        have HC := hid hC
        have hzl2 : L.length + ((grpB u).length + P.length) ≤ 100000000 := by rw [hC] at hzl; simp at hzl; omega
        have HM := hid (refMatch_any f p m (by omega) hf hmt)
        have HNm : Hid (∀ W, BW rb w1 W a b c i j k → _) := fun W hW => refNum_any H.out hW HNN.out.1 hi
        clear hw hw2 hC hzl hrep hm hmt htx hi
        go_wp2_with fail
        refine (HM.out _).mono ?_
        rintro x w2 ⟨rfl, hbm⟩
        have HB1 := hid (HB.out.kept hbm)
        have HW1 := hid (HW.out.below hbm)
        have HNm2 := hid (HNm.out w2 HB1.out)
        clear hbm HM HB HW HNm
        go_wp2_with fail
        refine HNm2.out.mono ?_
        rintro x w2b ⟨rfl, hb2, hbut2⟩
        have HB2 := hid hb2
        have HWb := hid (own_but HW1.out hrb hbut2)
        clear hb2 hbut2 HNm2 HB1 HW1
        have HG := hid (refGrp4_any u hu w2b)
        go_wp2_with fail
        refine HG.out.mono ?_
        rintro x w3 ⟨vg, rfl, hog, hb3⟩
        obtain ⟨b3, c3, rfl, _, _, hcell⟩ := hog.slice (grpB_pos u)
        have HC3 := hid hcell
        have HB3 := hid (HB2.out.kept hb3)
        have HW3 := hid (HWb.out.below hb3)
        have hsz3 := HB3.out.but.size
        have hgl : (grpB u).length ≤ 10 := grpB_len 9 u (Nat.lt_of_lt_of_le hu (by decide))
        have HRow : Hid (w3.ownsRow w1.heap.size 5 1 u1 L.length (L.map (Value.int .u8))) := HW3.out
        clear hog hb3 hcell HG
        go_wp2_with (at_builtin; refine wpList_app rfl (.tmp 40) (.tmp 42) 47 5 i0 _ 1 1 HKd.out rfl w1.heap.size u1 L.length _ rfl HRow.out ⟨b3, 0, none⟩ (grpB u).length c3 ((grpB u).map (Value.int .u8)) rfl (by simp) HC3.out (one8m _) (by omega) (by omega) (by omega) ?_)
        intro v4 w4 ho4 hg4 hn4
        have HW4 := hid (HW3.out.app ho4)
        have HB4 := hid (HB3.out.grown hrb HW3.out hg4)
        have hsz4 := HB4.out.but.size
        clear ho4 hg4 hn4 HRow HC3
        obtain ⟨M, hM⟩ : ∃ M, M = L ++ grpB u := ⟨_, rfl⟩
        rw [← hM] at HW4
        have hMl : M.length + P.length ≤ 100000000 := by rw [hM]; simp; omega
        have HMe := hid hM
        clear hM HB2 HWb HB3 HW3
        go_wp2_with fail
        go_loopw [1, 11] (fun x y wr => ∃ (t i j k : Nat) (Z2 C2 : List Int), y = .int .i64 (t : Int) ∧ t ≤ u ∧ OwnBy w1.heap.size wr x (M ++ Z2) ∧ BW rb w1 wr a b c i j k ∧ repS (wS F' (txL (f.extract (p + 2) (p + m)))) (u - t) (lft N K V i j k) = some (C2, g2) ∧ Z2 ++ C2 = P) (fun _ y _ => u - (intOf y).toNat)
        case atStart => exact ⟨0, i + 1, j, k, [], P, rfl, Nat.zero_le _, by simpa using HW4.out, HB4.out, HRep.out, rfl⟩
        case round =>
          obtain ⟨t, i2, j2, k2, Z2, C2, rfl, ht, hv5, hb5, hr5, hZ5⟩ := hrel
          have HB5 := hid hb5
          have HW5 := hid hv5
          clear HB4 HW4 HRep hb5 hv5
          by_cases htu : t < u
          · have htu' : (t : Int) < (u : Int) := by omega
            rw [show u - t = u - (t + 1) + 1 by omega] at hr5
            obtain ⟨B1, g', C3, h1, h2, h3⟩ := rep_succ hr5
            have hl5 : (M ++ Z2).length + B1.length ≤ 100000000 := by
              have hh := congrArg List.length hZ5
              rw [h3] at hh
              simp at hh ⊢
              omega
            have HI := hid (IH.out F' (by omega) (f.extract (p + 2) (p + m)) (by rw [ByteArray.size_extract]; omega) _ i2 j2 k2 _ (M ++ Z2) B1 g' HB5.out HW5.out h1 hl5)
            have HR := hid h2
            have HP5 : Hid (Z2 ++ (B1 ++ C3) = P) := by rw [← h3]; exact hZ5
            clear h1 hr5 hl5 h2 h3 hZ5 HB5 HW5
            go_wp2_with fail
            refine HI.out.mono ?_
            rintro x w6 ⟨v6, i6, j6, k6, rfl, hv6, hb6, hg6⟩
            have HW6 := hid hv6
            have HB6 := hid hb6
            have HR6 : Hid (repS (wS F' (txL (f.extract (p + 2) (p + m)))) (u - (t + 1)) (lft N K V i6 j6 k6) = some (C3, g2)) := by unfold Hid; rw [← hg6]; exact HR.out
            clear hv6 hb6 hg6 HI HR
            go_wp2
            go_roundw
            case rel => exact ⟨t + 1, i6, j6, k6, Z2 ++ B1, C3, by go_num, by omega, by rw [← List.append_assoc]; exact HW6.out, HB6.out, HR6.out, by rw [List.append_assoc]; exact HP5.out⟩
            case measure => simp [intOf]; omega
          · obtain rfl : t = u := by omega
            have htu' : ¬ (t : Int) < (t : Int) := by omega
            have HE : Hid (C2 = [] ∧ g2 = lft N K V i2 j2 k2) := by
              rw [Nat.sub_self] at hr5
              unfold repS at hr5
              simp at hr5
              exact ⟨hr5.1, hr5.2.symm⟩
            have HW6 : Hid (OwnBy w1.heap.size wr u1 (zs ++ (Z ++ (grpB t ++ P)))) := by
              have e := hZ5
              rw [HE.out.1, List.append_nil] at e
              unfold Hid
              rw [← List.append_assoc, ← HLz.out, ← List.append_assoc, ← HMe.out, ← e]
              exact HW5.out
            have HW7 : Hid (wS F' ((txL f).drop (p + m + 1)) (lft N K V i2 j2 k2) = some (C', g3)) := by unfold Hid; rw [← HE.out.2]; exact HW2.out
            clear hr5 hZ5 HW5 HW2
            go_wp2
            go_roundw
            case rel => exact ⟨p + m + 1, F', i2, j2, k2, Z ++ (grpB t ++ P), C', by go_num, by omega, by omega, HW6.out, HB5.out, HW7.out, by rw [List.append_assoc, List.append_assoc, ← HC.out]; exact HZ.out⟩
            case measure => simp [intOf]; omega
      have h91 : ¬ (ch = 91 ∨ ch = 60) := by omega
      have n91 : ((ch : Int) == 91) = false := by rw [beq_eq_false_iff_ne]; omega
      have n60 : ((ch : Int) == 60) = false := by rw [beq_eq_false_iff_ne]; omega
      clear h60
      by_cases hcap : 65 ≤ ch ∧ ch ≤ 90
      · obtain ⟨C', hw2, hC⟩ := wS_cap hcap.1 hcap.2 hw
        have HW2 := hid hw2
        have HC : Hid (C = [(ch : Int)] ++ C') := hC
        have hcl2 : L.length + 1 ≤ 100000000 := by rw [hC] at hzl; simp at hzl; omega
        have b65 : (65 : Int) ≤ (ch : Int) := by omega
        have b90 : (ch : Int) ≤ 90 := by omega
        have hrow : wr.ownsRow w1.heap.size 5 1 u1 L.length (L.map (Value.int .u8)) := HW.out
        clear hw hw2 hC h91 hcap hzl htx
        go_wp2_with (at_builtin; refine wpList_app rfl (.tmp 65) (.tmp 67) 47 5 i0 _ 1 1 HKd.out rfl w1.heap.size u1 L.length _ rfl (hrow.alloc _) ⟨wr.heap.size, 0, none⟩ 1 1 [.int .u8 (ch : Int)] rfl rfl (cell_one_new _ _ _) (one8 _) (by omega) (by omega) (by simp; omega) ?_)
        intro v4 w4 ho4 hg4 hn4
        have ha : Below wr.heap.size wr (wr.alloc (.cells #[.int .u8 (ch : Int)] 5)) := (Below.refl _ _).alloc (Nat.le_refl _) _
        have HW4 := hid ((HW.out.below ha).one ho4)
        have HB4 := hid ((HB.out.kept ha).grown hrb (HW.out.below ha) hg4)
        clear ho4 hg4 hn4 hrow ha
        go_wp2
        go_roundw
        case rel => exact ⟨p + 1, F', i, j, k, Z ++ [(ch : Int)], C', by go_num, by omega, by omega, by rw [← List.append_assoc, ← HLz.out]; exact HW4.out, HB4.out, HW2.out, by rw [List.append_assoc, ← HC.out]; exact HZ.out⟩
        case measure => simp [intOf]; omega
      by_cases hk : ch = 107
      · subst hk
        obtain ⟨P, g2, C', hpc, hw2, hC⟩ := wS_pieces h91 hw
        obtain ⟨s, hi, hs, rfl, rfl⟩ := piece_key hpc
        have HW2 := hid hw2
        have HC := hid hC
        have hzl2 : L.length + (10 + s.size) ≤ 100000010 := by rw [hC] at hzl; simp [keyB, txtB_len] at hzl; omega
        have HNm := hid (refKey_any H.out HB.out HNN.out.2.1 hi)
        have hu : s.size < 34359738368 := by omega
        clear hw hw2 hC h91 hcap hzl htx hpc hi
        go_wp2_with fail
        refine HNm.out.mono ?_
        rintro x w2b ⟨rfl, hb2, hbut2⟩
        have HB2 := hid hb2
        have HWb := hid (own_but HW.out hrb hbut2)
        clear hb2 hbut2 HNm HB HW
        have HG := hid (refGrp4_any s.size hu w2b)
        go_wp2_with fail
        refine HG.out.mono ?_
        rintro x w3 ⟨vg, rfl, hog, hb3⟩
        obtain ⟨b3, c3, rfl, _, _, hcell⟩ := hog.slice (grpB_pos s.size)
        have HC3 := hid hcell
        have HB3 := hid (HB2.out.kept hb3)
        have HW3 := hid (HWb.out.below hb3)
        have hsz3 := HB3.out.but.size
        have hgl : (grpB s.size).length ≤ 10 := grpB_len 9 s.size (Nat.lt_of_lt_of_le hu (by decide))
        have HRow : Hid (w3.ownsRow w1.heap.size 5 1 u1 L.length (L.map (Value.int .u8))) := HW3.out
        clear hog hb3 hcell HG
        go_wp2_with (at_builtin; refine wpList_app rfl (.tmp 74) (.tmp 77) 47 5 i0 _ 1 1 HKd.out rfl w1.heap.size u1 L.length _ rfl HRow.out ⟨b3, 0, none⟩ (grpB s.size).length c3 ((grpB s.size).map (Value.int .u8)) rfl (by simp) HC3.out (one8m _) (by omega) (by omega) (by omega) ?_)
        intro v4 w4 ho4 hg4 hn4
        have HW4 := hid (HW3.out.app ho4)
        have HB4 := hid (HB3.out.grown hrb HW3.out hg4)
        have hsz4 := HB4.out.but.size
        clear ho4 hg4 hn4 HRow HC3
        obtain ⟨M, hM⟩ : ∃ M, M = L ++ grpB s.size := ⟨_, rfl⟩
        rw [← hM] at HW4
        have hMl : M.length + s.size ≤ 100000010 := by rw [hM]; simp; omega
        have HMe := hid hM
        have HRow : Hid (w4.ownsRow w1.heap.size 5 1 v4 M.length (M.map (Value.int .u8))) := HW4.out
        clear hM
        go_wp2_with (at_builtin; go_loud (refine Go.Lib.wpList_append_own_string _ rfl (.tmp 79) (.tmp 80) 47 9 rfl w1.heap.size 5 i0 HKd.out.ht Try.underlying9 HKd.out.hi HKd.out.hz HKd.out.hsize HKd.out.hby v4 M.length _ rfl HRow.out s rfl (by unfold maxLen; omega) (by omega) (by omega) ?_))
        intro v5 w5 ho5 hg5 _
        have HW5 : Hid (OwnBy w1.heap.size w5 v5 (L ++ keyB s)) := by
          unfold Hid keyB
          rw [← List.append_assoc, ← HMe.out]
          exact HW4.out.app (by rw [← strCells_txt, txtB_len]; exact ho5)
        have HB5 := hid (HB4.out.grown hrb HW4.out hg5)
        clear ho5 hg5 HRow HW4 HB4
        go_wp2
        go_roundw
        case rel => exact ⟨p + 1, F', i, j + 1, k, Z ++ keyB s, C', by go_num, by omega, by omega, by rw [← List.append_assoc, ← HLz.out]; exact HW5.out, HB5.out, HW2.out, by rw [List.append_assoc, ← HC.out]; exact HZ.out⟩
        case measure => simp [intOf]; omega
      have h107 : ch ≠ 107 := hk
      clear hk
      by_cases hk : ch = 118
      · subst hk
        obtain ⟨P, g2, C', hpc, hw2, hC⟩ := wS_pieces h91 hw
        obtain ⟨s, hi, hPe, rfl⟩ := piece_val hpc
        have hin : VT.In w1 S s := HV.out s (List.mem_of_getElem? hi)
        have hpos : 0 < P.length := by rw [hPe]; exact encB_pos _
        have HW2 := hid hw2
        have HC := hid hC
        have HPe := hid hPe
        have hzl2 : L.length + P.length ≤ 100000000 := by rw [hC] at hzl; simp at hzl; omega
        have HNm := hid (refVal_any H.out HB.out HNN.out.2.2 hi)
        have HE : Hid (∀ W, BW rb w1 W a b c i j (k + 1) → Calls Try.prog 94 #[s.val] W fun e w' => ∃ v', e = .returned v' ∧ OwnBy W.heap.size w' v' P ∧ Below W.heap.size W w') := fun W hW => by
          rw [HPe.out]
          exact refEncode_any s W S (hin.but hW.but fun q hq _ => HS.out q hq)
        unfold VT.val at HNm HE
        clear hw hw2 hC h91 hcap hzl htx hpc hi hin hPe
        go_wp2_with fail
        refine HNm.out.mono ?_
        rintro x w2b ⟨rfl, hb2, hbut2⟩
        have HB2 := hid hb2
        have HWb := hid (own_but HW.out hrb hbut2)
        have HE2 := hid (HE.out w2b HB2.out)
        clear hb2 hbut2 HNm HB HW HE
        go_wp2_with fail
        refine HE2.out.mono ?_
        rintro x w3 ⟨vg, rfl, hog, hb3⟩
        obtain ⟨b3, c3, rfl, _, _, hcell⟩ := hog.slice hpos
        have HC3 := hid hcell
        have HB3 := hid (HB2.out.kept hb3)
        have HW3 := hid (HWb.out.below hb3)
        have hsz3 := HB3.out.but.size
        have HRow : Hid (w3.ownsRow w1.heap.size 5 1 u1 L.length (L.map (Value.int .u8))) := HW3.out
        clear hog hb3 hcell HE2
        go_wp2_with (at_builtin; refine wpList_app rfl (.tmp 85) (.tmp 88) 47 5 i0 _ 1 1 HKd.out rfl w1.heap.size u1 L.length _ rfl HRow.out ⟨b3, 0, none⟩ P.length c3 (P.map (Value.int .u8)) rfl (by simp) HC3.out (one8m _) (by omega) (by omega) (by omega) ?_)
        intro v4 w4 ho4 hg4 hn4
        have HW4 := hid (HW3.out.app ho4)
        have HB4 := hid (HB3.out.grown hrb HW3.out hg4)
        clear ho4 hg4 hn4 HRow HC3
        go_wp2
        go_roundw
        case rel => exact ⟨p + 1, F', i, j, k + 1, Z ++ P, C', by go_num, by omega, by omega, by rw [← List.append_assoc, ← HLz.out]; exact HW4.out, HB4.out, HW2.out, by rw [List.append_assoc, ← HC.out]; exact HZ.out⟩
        case measure => simp [intOf]; omega
      have h118 : ch ≠ 118 := hk
      clear hk
      by_cases hk : ch = 119
      · subst hk
        obtain ⟨P, g2, C', hpc, hw2, hC⟩ := wS_pieces h91 hw
        obtain ⟨u, hi, hu, hPe, rfl⟩ := piece_word hpc
        have HW2 := hid hw2
        have HC := hid hC
        have HPe := hid hPe
        have hzl2 : L.length + 4 ≤ 100000000 := by rw [hC, hPe] at hzl; simp [wordB] at hzl; omega
        have HNm := hid (refNum_any H.out HB.out HNN.out.1 hi)
        clear hw hw2 hC h91 hcap hzl htx hpc hi hPe
        go_wp2_with fail
        refine HNm.out.mono ?_
        rintro x w3 ⟨rfl, hb2, hbut2⟩
        have HB3 := hid hb2
        have HW3 := hid (own_but HW.out hrb hbut2)
        have hsz3 := HB3.out.but.size
        have hrow : w3.ownsRow w1.heap.size 5 1 u1 L.length (L.map (Value.int .u8)) := HW3.out
        have HP4 : Hid (P.map (Value.int .u8) = [.int .u8 ((u : Int) % 256), .int .u8 ((u : Int) / 256 % 256), .int .u8 ((u : Int) / 65536 % 256), .int .u8 ((u : Int) / 16777216)]) := by
          unfold Hid
          rw [HPe.out]
          have e4 : ((u / 16777216 % 256 : Nat) : Int) = (u : Int) / 16777216 := by omega
          simp only [wordB, List.map_cons, List.map_nil]
          rw [e4]
          simp
        clear hb2 hbut2 HNm HB HW
        go_wp2_with (at_builtin; refine wpList_app rfl (.tmp 95) (.tmp 110) 47 5 i0 _ 1 1 HKd.out rfl w1.heap.size u1 L.length _ rfl (hrow.alloc _) ⟨w3.heap.size, 0, none⟩ 4 4 [.int .u8 ((u : Int) % 256), .int .u8 ((u : Int) / 256 % 256), .int .u8 ((u : Int) / 65536 % 256), .int .u8 ((u : Int) / 16777216)] rfl rfl (news4 _ _ _ _ _ _) (by rw [← HP4.out]; exact one8m _) (by omega) (by omega) (by simp; omega) ?_)
        intro v4 w4 ho4 hg4 hn4
        rw [← HP4.out] at ho4
        have ha : Below w3.heap.size w3 (w3.alloc (.cells #[.int .u8 ((u : Int) % 256), .int .u8 ((u : Int) / 256 % 256), .int .u8 ((u : Int) / 65536 % 256), .int .u8 ((u : Int) / 16777216)] 5)) := (Below.refl _ _).alloc (Nat.le_refl _) _
        have HW4 := hid ((HW3.out.below ha).app (ys := P) (by rw [show P.length = 4 by rw [HPe.out]; rfl]; exact ho4))
        have HB4 := hid ((HB3.out.kept ha).grown hrb (HW3.out.below ha) hg4)
        clear ho4 hg4 hn4 hrow ha
        go_wp2
        go_roundw
        case rel => exact ⟨p + 1, F', i + 1, j, k, Z ++ P, C', by go_num, by omega, by omega, by rw [← List.append_assoc, ← HLz.out]; exact HW4.out, HB4.out, HW2.out, by rw [List.append_assoc, ← HC.out]; exact HZ.out⟩
        case measure => simp [intOf]; omega
      have h119 : ch ≠ 119 := hk
      clear hk
      by_cases hlow : 65 ≤ ch
      · obtain ⟨P, g2, C', hpc, hw2, hC⟩ := wS_pieces h91 hw
        obtain ⟨u, hi, hu, hPe, rfl⟩ := piece_num hcap h107 h118 h119 hpc
        have HW2 := hid hw2
        have HC : Hid (C = grpB u ++ C') := by rw [← hPe]; exact hC
        have hzl2 : L.length + (grpB u).length ≤ 100000000 := by rw [hC, hPe] at hzl; simp at hzl; omega
        have HNm := hid (refNum_any H.out HB.out HNN.out.1 hi)
        have n107 : ((ch : Int) == 107) = false := by rw [beq_eq_false_iff_ne]; omega
        have n118 : ((ch : Int) == 118) = false := by rw [beq_eq_false_iff_ne]; omega
        have n119 : ((ch : Int) == 119) = false := by rw [beq_eq_false_iff_ne]; omega
        have b65 : (65 : Int) ≤ (ch : Int) := by omega
        have b90 : ¬ (ch : Int) ≤ 90 := by omega
        clear hw hw2 hC h91 hzl htx hpc hi hPe h107 h118 h119
        go_wp2_with fail
        refine HNm.out.mono ?_
        rintro x w2b ⟨rfl, hb2, hbut2⟩
        have HB2 := hid hb2
        have HWb := hid (own_but HW.out hrb hbut2)
        clear hb2 hbut2 HNm HB HW
        have HG := hid (refGrp4_any u hu w2b)
        go_wp2_with fail
        refine HG.out.mono ?_
        rintro x w3 ⟨vg, rfl, hog, hb3⟩
        obtain ⟨b3, c3, rfl, _, _, hcell⟩ := hog.slice (grpB_pos u)
        have HC3 := hid hcell
        have HB3 := hid (HB2.out.kept hb3)
        have HW3 := hid (HWb.out.below hb3)
        have hsz3 := HB3.out.but.size
        have hgl : (grpB u).length ≤ 10 := grpB_len 9 u (Nat.lt_of_lt_of_le hu (by decide))
        have HRow : Hid (w3.ownsRow w1.heap.size 5 1 u1 L.length (L.map (Value.int .u8))) := HW3.out
        clear hog hb3 hcell HG
        go_wp2_with (at_builtin; refine wpList_app rfl (.tmp 23) (.tmp 26) 47 5 i0 _ 1 1 HKd.out rfl w1.heap.size u1 L.length _ rfl HRow.out ⟨b3, 0, none⟩ (grpB u).length c3 ((grpB u).map (Value.int .u8)) rfl (by simp) HC3.out (one8m _) (by omega) (by omega) (by omega) ?_)
        intro v4 w4 ho4 hg4 hn4
        have HW4 := hid (HW3.out.app ho4)
        have HB4 := hid (HB3.out.grown hrb HW3.out hg4)
        have hsz4 := HB4.out.but.size
        clear ho4 hg4 hn4 HRow HC3
        go_wp2
        go_roundw
        case rel => exact ⟨p + 1, F', i + 1, j, k, Z ++ grpB u, C', by go_num, by omega, by omega, by rw [← List.append_assoc, ← HLz.out]; exact HW4.out, HB4.out, HW2.out, by rw [List.append_assoc, ← HC.out]; exact HZ.out⟩
        case measure => simp [intOf]; omega
      · obtain ⟨P, g2, C', hpc, hw2, hC⟩ := wS_pieces h91 hw
        obtain ⟨u, hi, hu, hPe, rfl⟩ := piece_num hcap h107 h118 h119 hpc
        have HW2 := hid hw2
        have HC : Hid (C = grpB u ++ C') := by rw [← hPe]; exact hC
        have hzl2 : L.length + (grpB u).length ≤ 100000000 := by rw [hC, hPe] at hzl; simp at hzl; omega
        have HNm := hid (refNum_any H.out HB.out HNN.out.1 hi)
        have n107 : ((ch : Int) == 107) = false := by rw [beq_eq_false_iff_ne]; omega
        have n118 : ((ch : Int) == 118) = false := by rw [beq_eq_false_iff_ne]; omega
        have n119 : ((ch : Int) == 119) = false := by rw [beq_eq_false_iff_ne]; omega
        have b65 : ¬ (65 : Int) ≤ (ch : Int) := by omega
        clear hw hw2 hC h91 hzl htx hpc hi hPe h107 h118 h119
        go_wp2_with fail
        refine HNm.out.mono ?_
        rintro x w2b ⟨rfl, hb2, hbut2⟩
        have HB2 := hid hb2
        have HWb := hid (own_but HW.out hrb hbut2)
        clear hb2 hbut2 HNm HB HW
        have HG := hid (refGrp4_any u hu w2b)
        go_wp2_with fail
        refine HG.out.mono ?_
        rintro x w3 ⟨vg, rfl, hog, hb3⟩
        obtain ⟨b3, c3, rfl, _, _, hcell⟩ := hog.slice (grpB_pos u)
        have HC3 := hid hcell
        have HB3 := hid (HB2.out.kept hb3)
        have HW3 := hid (HWb.out.below hb3)
        have hsz3 := HB3.out.but.size
        have hgl : (grpB u).length ≤ 10 := grpB_len 9 u (Nat.lt_of_lt_of_le hu (by decide))
        have HRow : Hid (w3.ownsRow w1.heap.size 5 1 u1 L.length (L.map (Value.int .u8))) := HW3.out
        clear hog hb3 hcell HG
        go_wp2_with (at_builtin; refine wpList_app rfl (.tmp 23) (.tmp 26) 47 5 i0 _ 1 1 HKd.out rfl w1.heap.size u1 L.length _ rfl HRow.out ⟨b3, 0, none⟩ (grpB u).length c3 ((grpB u).map (Value.int .u8)) rfl (by simp) HC3.out (one8m _) (by omega) (by omega) (by omega) ?_)
        intro v4 w4 ho4 hg4 hn4
        have HW4 := hid (HW3.out.app ho4)
        have HB4 := hid (HB3.out.grown hrb HW3.out hg4)
        have hsz4 := HB4.out.but.size
        clear ho4 hg4 hn4 HRow HC3
        go_wp2
        go_roundw
        case rel => exact ⟨p + 1, F', i + 1, j, k, Z ++ grpB u, C', by go_num, by omega, by omega, by rw [← List.append_assoc, ← HLz.out]; exact HW4.out, HB4.out, HW2.out, by rw [List.append_assoc, ← HC.out]; exact HZ.out⟩
        case measure => simp [intOf]; omega
    · obtain rfl : p = f.size := by omega
      have hlt' : ¬ (f.size : Int) < (f.size : Int) := by omega
      have HE : Hid (C = [] ∧ g3 = lft N K V i j k) := by
        rw [List.drop_of_length_le (by rw [txL_len]; omega), wS_nil] at hw
        simp at hw
        exact ⟨hw.1, hw.2.symm⟩
      clear hw
      go_wp2
      go_ret
      refine ⟨_, i, j, k, rfl, ?_, HB.out, HE.out.2⟩
      have e := HZ.out
      rw [HE.out.1, List.append_nil] at e
      rw [← e]
      exact HW.out
end Go.Proofs.Ytikfpoabaaiegaa
