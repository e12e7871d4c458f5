import Derived.Test.YtikfpoabaaiegaaPack14
import Derived.Test.YtikfpoabaaiegaaPack26
namespace Go.Proofs.Ytikfpoabaaiegaa
open Go.RowKit
set_option maxRecDepth 8000

/-- the bytes of the first parts -/
def encN (L : List PT) (i : Nat) : List Int := (L.take i).flatMap encP
theorem encN_succ {L : List PT} {i : Nat} (h : i < L.length) : encN L (i + 1) = encN L i ++ encP L[i] := by
  unfold encN
  rw [List.take_succ_eq_append_getElem h, List.flatMap_append]
  simp
theorem encN_all (L : List PT) : encN L L.length = L.flatMap encP := by unfold encN; rw [List.take_length]

set_option maxHeartbeats 2000000 in
theorem refEncode_any (t : VT) (w : World) (S : Nat → Prop) (hin : VT.In w S t) :
    Calls Try.prog 94 #[t.val] w fun e w' => ∃ v', e = .returned v' ∧ OwnBy w.heap.size w' v' (encB (cleanT t)) ∧ Below w.heap.size w w' := by
  obtain ⟨i0, Kd⟩ := kindB
  have HC : Hid (∀ W, Below w.heap.size w W → Calls Try.prog 132 #[t.val] W fun e w' => PartsPost W t e w') := fun W hW => parts_any t W S (hin.below hW)
  have hE : encN (flatP (cleanT t)) (flatP (cleanT t)).length = encB (cleanT t) := by rw [encN_all]; exact enc_flat _ (clean_val hin)
  have hfit := part_fit (clean_val hin)
  have h12 := clean_len (t := t)
  have h60 := encP_len (clean_val hin)
  have HE := hid hE
  have HFit := hid hfit
  have H60 := hid h60
  unfold PartsPost at HC
  unfold VT.val at HC ⊢
  generalize flatP (cleanT t) = L at *
  generalize encB (cleanT t) = RES at *
  clear hin hE hfit h60
  go_enter Try.func94, Try.ntmps94
  go_wp2_with fail
  refine (HC.out _ ?_).mono ?_
  · exact (Below.refl _ _).alloc (Nat.le_refl _) _
  rintro e w1 ⟨g, c, rfl, ho1, hb1⟩
  have hbw : Below w.heap.size w w1 := ((Below.refl w.heap.size w).alloc (Nat.le_refl _) _).trans (hb1.mono (by simp))
  have HBw := hid hbw
  have hgl : g < w1.heap.size := (World.ownsRow.lt ho1 g rfl).2
  have HO1 := hid ho1
  clear hb1 ho1 HC hbw
  go_wp2_with fail
  go_loopw [4, 5] (fun v x wr => ∃ j : Nat, j ≤ L.length ∧ x = .int .i64 j ∧ LayB w1.heap.size w1 (encN L j) v wr) (fun _ x _ => L.length - (intOf x).toNat)
  case atStart => exact ⟨0, Nat.zero_le _, rfl, LayB.refl (World.ownsRow_nil _ _ _ _)⟩
  case round =>
    obtain ⟨j, hj, rfl, hLi⟩ := hrel
    have hsw := hLi.bel.size
    by_cases hlt : j < L.length
    · have hlt' : (j : Int) < (L.length : Int) := by omega
      have hq := List.getElem?_eq_getElem hlt
      have hqe := encN_succ hlt
      obtain ⟨⟨hk0, hk3⟩, hs24, hn6, hi1, hi2⟩ := HFit.out L[j] (List.getElem_mem hlt)
      have hnl : (encN L j).length ≤ 720 := by
        have h := flatMap_le encP 60 (L.take j) (fun q hq => H60.out q (List.mem_of_mem_take hq))
        rw [List.length_take] at h
        unfold encN
        omega
      generalize L[j] = q at *
      obtain ⟨_, p0, p1, p2, p3⟩ := part_at HO1.out hq
      obtain ⟨k, i, s, n⟩ := q
      simp only at p0 p1 p2 p3 hk0 hk3 hs24 hn6 hi1 hi2
      have q0 := (hLi.bel.cell (p := ⟨g, j * 4, none⟩) hgl).trans p0
      have q1 := (hLi.bel.cell (p := ⟨g, j * 4 + 1, none⟩) hgl).trans p1
      have q2 := (hLi.bel.cell (p := ⟨g, j * 4 + 2, none⟩) hgl).trans p2
      have q3 := (hLi.bel.cell (p := ⟨g, j * 4 + 3, none⟩) hgl).trans p3
      have hkm : k % 256 = k := by omega
      obtain ⟨M, hM⟩ : ∃ M, M = encN L j := ⟨_, rfl⟩
      rw [← hM] at hLi hnl hqe
      have HQ : Hid (encN L (j + 1) = M ++ encP ⟨k, i, s, n⟩) := hqe
      have HP := hid (And.intro p0 (And.intro p1 (And.intro p2 p3)))
      have HLi := hid hLi
      have hrow : wr.ownsRow w1.heap.size 5 1 u4 M.length (M.map (Value.int .u8)) := hLi.own
      clear hLi hq hqe hM p0 p1 p2 p3
      go_wp2_with (at_builtin; refine wpList_app rfl (.tmp 15) (.tmp 22) 47 5 i0 _ 1 1 Kd rfl w1.heap.size u4 M.length _ rfl (hrow.alloc _) ⟨wr.heap.size, 0, none⟩ 1 1 [.int .u8 k] rfl rfl (cell_one_new _ _ _) (one8 _) (by omega) (by omega) (by simp; omega) ?_)
      intro v2 w2 ho2 hg2 hn2
      have hL2 := HLi.out.one (by omega) ho2 hg2
      have hm2 : (M ++ [k]).length ≤ 721 := by simp; omega
      obtain ⟨M2, hM2⟩ : ∃ M2, M2 = M ++ [k] := ⟨_, rfl⟩
      rw [← hM2] at hL2 hm2
      have HM2 := hid hM2
      have HL2 := hid hL2
      have hs2 := hL2.bel.size
      have hrow2 : w2.ownsRow w1.heap.size 5 1 v2 M2.length (M2.map (Value.int .u8)) := hL2.own
      clear q0 q1 q2 q3 hrow ho2 hg2 hn2
      have q0 := (hL2.bel.cell (p := ⟨g, j * 4, none⟩) hgl).trans HP.out.1
      have q1 := (hL2.bel.cell (p := ⟨g, j * 4 + 1, none⟩) hgl).trans HP.out.2.1
      have q2 := (hL2.bel.cell (p := ⟨g, j * 4 + 2, none⟩) hgl).trans HP.out.2.2.1
      have q3 := (hL2.bel.cell (p := ⟨g, j * 4 + 3, none⟩) hgl).trans HP.out.2.2.2
      clear hL2 hM2
      rcases (by omega : k = 0 ∨ k = 1 ∨ k = 2 ∨ k = 3) with rfl | rfl | rfl | rfl
      · have e : Hid (encN L (j + 1) = M2) := by unfold Hid; rw [HQ.out, HM2.out]; simp [encP]
        go_wp2
        go_roundw
        case rel => exact ⟨j + 1, by omega, by go_num, e.out ▸ HL2.out⟩
        case measure => simp [intOf]; omega
      · have e : Hid (encN L (j + 1) = M2 ++ grpB (foldN i)) := by unfold Hid; rw [HQ.out, HM2.out]; simp [encP]
        have HG : Hid ((grpB (foldN i)).length ≤ 10) := grp_fold_len hi1 hi2
        by_cases hneg : i < 0
        · have hw1 : IntKind.u64.wrap (-1 - i) = -1 - i := by rw [wrap_u64]; omega
          have hf : 2 * (-1 - i) + 1 = ((foldN i : Nat) : Int) := by unfold foldN; rw [if_pos hneg]; omega
          have hf2 := foldN_lt hi1 hi2
          go_wp2_with fail
          clear q0 q1 q2 q3 hrow2
          obtain ⟨wo, hwo⟩ : ∃ wo : World, wo = wr := ⟨wr, rfl⟩
          subst hwo
          go_loopw [4, 6] (fun v x wr => ∃ (ys : List Int) (m : Nat), x = .int .u64 (m : Int) ∧ m < 18446744073709551616 ∧ LayB w1.heap.size w1 (M2 ++ ys) v wr ∧ ys ++ grpB m = grpB (foldN i)) (fun _ x _ => (intOf x).toNat)
          case atStart => exact ⟨[], foldN i, rfl, hf2, by simpa using HL2.out, rfl⟩
          case round =>
            obtain ⟨ys, m, rfl, hm, hO, hg⟩ := hrel
            have hyl : ys.length ≤ 10 := by
              have h1 := HG.out
              rw [← hg, List.length_append] at h1
              omega
            have hsw := hO.bel.size
            have hzl : (M2 ++ ys).length ≤ 731 := by rw [List.length_append]; omega
            have HGr := hid hg
            obtain ⟨N, hN⟩ : ∃ N, N = M2 ++ ys := ⟨_, rfl⟩
            rw [← hN] at hO hzl
            have HN := hid hN
            have HO := hid hO
            have hrow : wr.ownsRow w1.heap.size 5 1 u4 N.length (N.map (Value.int .u8)) := hO.own
            clear hO hg hN hf hf2
            by_cases hs : m < 128
            · have hs' : ¬ (128 : Int) ≤ (m : Int) := by omega
              have e1 : (m : Int) % 256 = (m : Int) := by omega
              go_wp2_with (at_builtin; refine wpList_app rfl (.tmp 64) (.tmp 67) 47 5 i0 _ 1 1 Kd rfl w1.heap.size u4 N.length _ rfl (hrow.alloc _) ⟨wr.heap.size, 0, none⟩ 1 1 [.int .u8 (m : Int)] rfl rfl (cell_one_new _ _ _) (one8 _) (by omega) (by omega) (by simp; omega) ?_)
              intro v3 w3 ho3 hg3 hn3
              have HF := hid (HO.out.one (by omega) ho3 hg3)
              clear ho3 hg3 hn3 hrow
              go_wp2
              go_roundw
              case rel =>
                refine ⟨j + 1, by omega, by go_num, ?_⟩
                have e3 : encN L (j + 1) = N ++ [(m : Int)] := by rw [e.out, ← HGr.out, grpB_small hs, HN.out, List.append_assoc]
                rw [e3]
                exact HF.out
              case measure => simp [intOf]; omega
            · have hs' : (128 : Int) ≤ (m : Int) := by omega
              have e1 : ((m : Int) % 128 + 128) % 256 = (m : Int) % 128 + 128 := by omega
              have e2 : IntKind.u64.wrap ((m : Int) % 128 + 128) = (m : Int) % 128 + 128 := by rw [wrap_u64]; omega
              go_wp2_with (at_builtin; refine wpList_app rfl (.tmp 55) (.tmp 60) 47 5 i0 _ 1 1 Kd rfl w1.heap.size u4 N.length _ rfl (hrow.alloc _) ⟨wr.heap.size, 0, none⟩ 1 1 [.int .u8 ((m : Int) % 128 + 128)] rfl rfl (cell_one_new _ _ _) (one8 _) (by omega) (by omega) (by simp; omega) ?_)
              intro v3 w3 ho3 hg3 hn3
              have HF := hid (HO.out.one (by omega) ho3 hg3)
              clear ho3 hg3 hn3 hrow e1 e2
              go_wp2
              go_roundw
              case rel =>
                have e3 : ((m % 128 + 128 : Nat) : Int) = (m : Int) % 128 + 128 := by omega
                refine ⟨ys ++ [(m : Int) % 128 + 128], m / 128, ?_, by omega, by rw [← List.append_assoc, ← HN.out]; exact HF.out, ?_⟩
                · go_num
                · rw [List.append_assoc, List.singleton_append, ← e3, ← grpB_great hs]; exact HGr.out
              case measure => simp [intOf]; omega
        · have hf : 2 * i = ((foldN i : Nat) : Int) := by unfold foldN; rw [if_neg hneg]; omega
          have hf2 := foldN_lt hi1 hi2
          go_wp2_with fail
          clear q0 q1 q2 q3 hrow2
          obtain ⟨wo, hwo⟩ : ∃ wo : World, wo = wr := ⟨wr, rfl⟩
          subst hwo
          go_loopw [4, 6] (fun v x wr => ∃ (ys : List Int) (m : Nat), x = .int .u64 (m : Int) ∧ m < 18446744073709551616 ∧ LayB w1.heap.size w1 (M2 ++ ys) v wr ∧ ys ++ grpB m = grpB (foldN i)) (fun _ x _ => (intOf x).toNat)
          case atStart => exact ⟨[], foldN i, rfl, hf2, by simpa using HL2.out, rfl⟩
          case round =>
            obtain ⟨ys, m, rfl, hm, hO, hg⟩ := hrel
            have hyl : ys.length ≤ 10 := by
              have h1 := HG.out
              rw [← hg, List.length_append] at h1
              omega
            have hsw := hO.bel.size
            have hzl : (M2 ++ ys).length ≤ 731 := by rw [List.length_append]; omega
            have HGr := hid hg
            obtain ⟨N, hN⟩ : ∃ N, N = M2 ++ ys := ⟨_, rfl⟩
            rw [← hN] at hO hzl
            have HN := hid hN
            have HO := hid hO
            have hrow : wr.ownsRow w1.heap.size 5 1 u4 N.length (N.map (Value.int .u8)) := hO.own
            clear hO hg hN hf hf2
            by_cases hs : m < 128
            · have hs' : ¬ (128 : Int) ≤ (m : Int) := by omega
              have e1 : (m : Int) % 256 = (m : Int) := by omega
              go_wp2_with (at_builtin; refine wpList_app rfl (.tmp 64) (.tmp 67) 47 5 i0 _ 1 1 Kd rfl w1.heap.size u4 N.length _ rfl (hrow.alloc _) ⟨wr.heap.size, 0, none⟩ 1 1 [.int .u8 (m : Int)] rfl rfl (cell_one_new _ _ _) (one8 _) (by omega) (by omega) (by simp; omega) ?_)
              intro v3 w3 ho3 hg3 hn3
              have HF := hid (HO.out.one (by omega) ho3 hg3)
              clear ho3 hg3 hn3 hrow
              go_wp2
              go_roundw
              case rel =>
                refine ⟨j + 1, by omega, by go_num, ?_⟩
                have e3 : encN L (j + 1) = N ++ [(m : Int)] := by rw [e.out, ← HGr.out, grpB_small hs, HN.out, List.append_assoc]
                rw [e3]
                exact HF.out
              case measure => simp [intOf]; omega
            · have hs' : (128 : Int) ≤ (m : Int) := by omega
              have e1 : ((m : Int) % 128 + 128) % 256 = (m : Int) % 128 + 128 := by omega
              have e2 : IntKind.u64.wrap ((m : Int) % 128 + 128) = (m : Int) % 128 + 128 := by rw [wrap_u64]; omega
              go_wp2_with (at_builtin; refine wpList_app rfl (.tmp 55) (.tmp 60) 47 5 i0 _ 1 1 Kd rfl w1.heap.size u4 N.length _ rfl (hrow.alloc _) ⟨wr.heap.size, 0, none⟩ 1 1 [.int .u8 ((m : Int) % 128 + 128)] rfl rfl (cell_one_new _ _ _) (one8 _) (by omega) (by omega) (by simp; omega) ?_)
              intro v3 w3 ho3 hg3 hn3
              have HF := hid (HO.out.one (by omega) ho3 hg3)
              clear ho3 hg3 hn3 hrow e1 e2
              go_wp2
              go_roundw
              case rel =>
                have e3 : ((m % 128 + 128 : Nat) : Int) = (m : Int) % 128 + 128 := by omega
                refine ⟨ys ++ [(m : Int) % 128 + 128], m / 128, ?_, by omega, by rw [← List.append_assoc, ← HN.out]; exact HF.out, ?_⟩
                · go_num
                · rw [List.append_assoc, List.singleton_append, ← e3, ← grpB_great hs]; exact HGr.out
              case measure => simp [intOf]; omega
      · have e : Hid (encN L (j + 1) = (M2 ++ [(s.size : Int)]) ++ txtB s) := by unfold Hid; rw [HQ.out, HM2.out]; simp [encP]
        have hs' : (s.size : Int) % 256 = (s.size : Int) := by omega
        go_wp2_with (at_builtin; refine wpList_app rfl (.tmp 71) (.tmp 79) 47 5 i0 _ 1 1 Kd rfl w1.heap.size v2 M2.length _ rfl (hrow2.alloc _) ⟨w2.heap.size, 0, none⟩ 1 1 [.int .u8 (s.size : Int)] rfl rfl (cell_one_new _ _ _) (one8 _) (by omega) (by omega) (by simp; omega) ?_)
        intro v3 w3 ho3 hg3 hn3
        have hL3 := HL2.out.one (by omega) ho3 hg3
        have hm3 : (M2 ++ [(s.size : Int)]).length ≤ 722 := by simp; omega
        obtain ⟨M3, hM3⟩ : ∃ M3, M3 = M2 ++ [(s.size : Int)] := ⟨_, rfl⟩
        rw [← hM3] at hL3 hm3
        have HM3 := hid hM3
        have HL3 := hid hL3
        have hs3 := hL3.bel.size
        have hrow3 : w3.ownsRow w1.heap.size 5 1 v3 M3.length (M3.map (Value.int .u8)) := hL3.own
        have r2 := (hL3.bel.cell (p := ⟨g, j * 4 + 2, none⟩) hgl).trans HP.out.2.2.1
        have r0 := (hL3.bel.cell (p := ⟨g, j * 4, none⟩) hgl).trans HP.out.1
        clear q0 q1 q2 q3 hrow2 ho3 hg3 hn3 hL3 hM3
        go_wp2_with (at_builtin; refine Go.Lib.wpList_append_own_string _ rfl (.tmp 81) (.tmp 86) 47 9 rfl w1.heap.size 5 i0 Kd.ht Try.underlying9 Kd.hi Kd.hz Kd.hsize Kd.hby v3 M3.length _ rfl hrow3 s rfl (by unfold maxLen; omega) (by omega) (by omega) ?_)
        intro v4 w4 ho4 hg4 _
        have HF := hid (HL3.out.text (by omega) ho4 hg4)
        clear ho4 hg4 hrow3
        go_wp2
        go_roundw
        case rel => exact ⟨j + 1, by omega, by go_num, by rw [e.out, ← HM3.out]; exact HF.out⟩
        case measure => simp [intOf]; omega
      · have e : Hid (encN L (j + 1) = M2 ++ [(n : Int)]) := by unfold Hid; rw [HQ.out, HM2.out]; simp [encP]
        have hn' : (n : Int) % 256 = (n : Int) := by omega
        go_wp2_with (at_builtin; refine wpList_app rfl (.tmp 90) (.tmp 97) 47 5 i0 _ 1 1 Kd rfl w1.heap.size v2 M2.length _ rfl (hrow2.alloc _) ⟨w2.heap.size, 0, none⟩ 1 1 [.int .u8 (n : Int)] rfl rfl (cell_one_new _ _ _) (one8 _) (by omega) (by omega) (by simp; omega) ?_)
        intro v3 w3 ho3 hg3 hn3
        have HF := hid (HL2.out.one (by omega) ho3 hg3)
        clear ho3 hg3 hn3 hrow2
        go_wp2
        go_roundw
        case rel => exact ⟨j + 1, by omega, by go_num, e.out ▸ HF.out⟩
        case measure => simp [intOf]; omega
    · have hje : j = L.length := by omega
      have hlt' : ¬ (j : Int) < (L.length : Int) := by omega
      rw [hje] at hLi
      have HF := hid hLi
      clear hLi
      go_wp2
      go_ret
      refine ⟨_, rfl, ?_, HBw.out.trans (HF.out.bel.mono HBw.out.size)⟩
      have h := HF.out.own
      rw [HE.out] at h
      exact ownsRow_mono h HBw.out.size
end Go.Proofs.Ytikfpoabaaiegaa
