import Derived.Test.YtneomdiabcpemaaUbF
namespace Go.Proofs.Ytneomdiabcpemaa
open Go.RowKit
set_option maxRecDepth 8000
set_option maxHeartbeats 16000000 in
/-- EtherOrder -/
theorem etherOrder_walk (data : LT BY) (turns : LT Bool) (W : World) (hD : LT.In elBy W (fun b => b < W.heap.size) data) (hT : LT.In elBo W (fun b => b < W.heap.size) turns) :
    Calls Try.prog 3 #[.slice data.p data.n data.c, .slice turns.p turns.n turns.c] W fun e w' => e = .returned (.bool true) ∧ Below W.heap.size W w' := by
  have HWk := hid (works_any W)
  have hdn := hD.nn
  have htn := hT.nn
  have HD0 := hid hD
  have HT0 := hid hT
  clear hD hT
  go_enter Try.func3, Try.ntmps3
  go_wp2_with fail
  refine HWk.out.mono ?_
  rintro e w1 ⟨rfl, hb1⟩
  have HN := hid (new_en (B := W.heap.size) (W := W) 3 hb1 (Nat.le_refl _) (by omega))
  clear hb1 HWk
  go_wp2_with fail
  refine HN.out.mono ?_
  rintro e w2 ⟨rfl, hE2⟩
  obtain ⟨b, hb⟩ : ∃ b, b = w1.heap.size := ⟨_, rfl⟩
  rw [← hb] at hE2 ⊢
  have HE2 := hid hE2
  clear hE2 hb HN
  go_wp2_with fail
  go_loopw [7, 8, 9] (fun x y z wr => ∃ s c i : Nat, x = .int .i64 (s : Int) ∧ y = .int .i64 (c : Int) ∧ z = .int .i64 (i : Int) ∧ c ≤ s ∧ s ≤ data.n ∧ s - c ≤ 256 ∧ i ≤ turns.n + c ∧ En W.heap.size W wr b 3 (inFl data c s)) (fun x y z _ => 2 * (turns.n - (intOf z).toNat) + ((intOf x).toNat - (intOf y).toNat))
  case atStart => exact ⟨0, 0, 0, rfl, rfl, rfl, by omega, by omega, by omega, by omega, HE2.out⟩
  case round =>
    obtain ⟨s, c, i, rfl, rfl, rfl, hcs0, hsn, hsc, hin, hE⟩ := hrel
    have HE := hid hE
    clear hE HE2
    by_cases hi : i < turns.n
    case pos =>
      have hi' : (i : Int) < (turns.n : Int) := by omega
      obtain ⟨tb, to_, htp, _, htl, htat⟩ := HT0.out.at_ (by omega)
      have t0 : wr.cell? ⟨tb, to_ + i, none⟩ = some (.bool (turns.item i)) := by
        have h1 := htat i hi 0 _ rfl
        rw [show to_ + i * elBo.size + 0 = to_ + i by show to_ + i * 1 + 0 = _; omega] at h1
        exact (World.cell?_of_block (a := ⟨tb, to_ + i, none⟩) (HE.out.bel.block tb htl)).trans h1
      rw [htp]
      clear htat
      cases htb : turns.item i with
      | false =>
        rw [htb] at t0
        clear htb
        by_cases hcs : c < s
        case pos =>
          obtain ⟨xb, xo, hxp, _, _⟩ := HD0.out.at_ (show 0 < data.n by omega)
          rw [hxp]
          have HD := hid (deliver_en HE.out 0 (by unfold inA; rw [inFl_len]; omega))
          go_wp2_with fail
          refine HD.out.mono ?_
          rintro e w4 ⟨a, d, ha, rfl, hd, hbx, hE4⟩
          obtain ⟨hh, ht⟩ := inFl_take data hcs
          have ha' : a = ⟨((c % 3 : Nat) : Int), (((c + 1) % 3 : Nat) : Int), (data.item c).zs⟩ := by
            have h1 := ha
            rw [show ((0 : Int).toNat) = 0 from rfl, hh] at h1
            exact (Option.some.inj h1).symm
          rw [show ((0 : Int).toNat) = 0 from rfl, ht] at hE4
          obtain ⟨r0, hr0⟩ : ∃ r : Nat, r = c % 3 := ⟨_, rfl⟩
          obtain ⟨r1, hr1⟩ : ∃ r : Nat, r = (c + 1) % 3 := ⟨_, rfl⟩
          obtain ⟨N, hN⟩ : ∃ N : Nat, N = (data.item c).zs.length := ⟨_, rfl⟩
          have hafr : a.fr = (r0 : Int) := by rw [ha', hr0]
          have hatt : a.tt = (r1 : Int) := by rw [ha', hr1]
          have hazs : a.zs = (data.item c).zs := by rw [ha']
          rw [hafr, hatt, hazs, ← hN]
          rw [hazs] at hbx
          obtain ⟨V, hV⟩ : ∃ V, V = w4.alloc (.cells #[.int .i64 (r0 : Int), .int .i64 (r1 : Int), .slice (some ⟨d, 0, none⟩) N N] 32) := ⟨_, rfl⟩
          have hBV : Below w4.heap.size w4 V := by rw [hV]; exact (Below.refl _ _).alloc (Nat.le_refl _) _
          have hX : Box V w4.heap.size #[.int .i64 (r0 : Int), .int .i64 (r1 : Int), .slice (some ⟨d, 0, none⟩) N N] 32 := by rw [hV]; exact Box.new _ _ _
          have HE4 := hid (hE4.below hBV)
          obtain ⟨hxl, x0, hxs, _⟩ := bys_at' HD0.out HE4.out.bel hxp (j := c) (by omega)
          have hxn : (data.item c).n = N := by rw [hN, BY.len]
          rw [hxn] at x0
          have hsd : Src V (some ⟨d, 0, none⟩) (data.item c).zs.length N 1 ((data.item c).zs.map (.int .u8)) := by
            refine .inr ⟨_, rfl, by simp, fun j u hu => ?_⟩
            rw [Go.WideShapes.add_plain, (hbx.below hBV).cell, ← hu]
            simp [bys]
          have HSb := hid (sameB_yes V.drew (data.item c).zs _ _ _ _ hsd hxs)
          rw [← hN] at HSb
          have f0 := hX.cell 0
          have f1 := hX.cell 1
          have f2 := hX.cell 2
          simp at f0 f1 f2
          have fl := hX.lt
          have hq0 : (c : Int).tmod 3 = (r0 : Int) := by rw [tmod3, hr0]
          have hq0' : (c : Int) % 3 = (r0 : Int) := by rw [hr0]; omega
          have hq1 : ((c : Int) + 1).tmod 3 = (r1 : Int) := by have := tmod3 (c + 1); rw [hr1]; push_cast at this ⊢; exact this
          have hq1' : ((c : Int) + 1) % 3 = (r1 : Int) := by rw [hr1]; omega
          have hcn : (c : Int) < (data.n : Int) := by omega
          have hcs' : (c : Int) < (s : Int) := by omega
          have hdd : (decide ((c : Int) < (s : Int))) = true := decide_eq_true hcs'
          have HV := hid hV
          have hr3 : (r0 : Int) ≤ 2 := by omega
          have hr4 : (r1 : Int) ≤ 2 := by omega
          have HWr0 : Hid (IntKind.i64.wrap (r0 : Int) = (r0 : Int)) := by show _ = _; rw [IntKind.wrap_i64]; omega
          have HWr1 : Hid (IntKind.i64.wrap (r1 : Int) = (r1 : Int)) := by show _ = _; rw [IntKind.wrap_i64]; omega
          have HWc1 : Hid (IntKind.i64.wrap ((c : Int) + 1) = (c : Int) + 1) := by show _ = _; rw [IntKind.wrap_i64]; omega
          have HNs : Hid (c + 1 ≤ s) := by show _ ≤ _; omega
          clear ha hd hbx hE4 hh ht ha' hr0 hr1 hN hafr hatt hazs hV hBV hX hxs hsd hxn HD
          go_upto_region 22 with fail
          rw [← HV.out]
          refine wp_region_calmE 30 (fun wx => Below V.heap.size V wx) [(0, true), (1, false), (2, true), (3, true), (4, true), (5, true), (6, true), (7, false), (8, true), (9, true), (10, true), (11, true), (12, true), (13, true), (14, true), (15, false), (16, true), (17, true), (18, true), (19, false)] (.one 20 false [(21, true), (22, true)] .done) (by kernel_rfl) (by kernel_rfl) (Below.refl _ _).drew ?_
          refine wpPre_e rfl rfl (fun K1 hK1 => ?_)
          apply Exists.intro
          refine And.intro (fun wx hx => ?_) ?_
          · go_simp
            try rfl
          go_simp
          refine hK1 _ ?_
          clear hK1 K1
          refine wpPre_e rfl rfl (fun K1 hK1 => ?_)
          apply Exists.intro
          refine And.intro (fun wx hx => ?_) ?_
          · have e0 := below_fact hx rfl f0
            have e1 := below_fact hx rfl f1
            have e2 := below_fact hx rfl f2
            have e3 := below_fact hx rfl x0
            go_simp
            try rfl
          go_simp
          refine hK1 _ ?_
          clear hK1 K1
          refine wpPre_e rfl rfl (fun K1 hK1 => ?_)
          apply Exists.intro
          refine And.intro (fun wx hx => ?_) ?_
          · go_simp
            try rfl
          go_simp
          refine hK1 _ ?_
          clear hK1 K1
          refine wpPre_e rfl rfl (fun K1 hK1 => ?_)
          apply Exists.intro
          refine And.intro (fun wx hx => ?_) ?_
          · go_simp
            try rfl
          go_simp
          refine hK1 _ ?_
          clear hK1 K1
          refine wpPre_e rfl rfl (fun K1 hK1 => ?_)
          apply Exists.intro
          refine And.intro (fun wx hx => ?_) ?_
          · go_simp
            try rfl
          go_simp
          refine hK1 _ ?_
          clear hK1 K1
          refine wpPre_e rfl rfl (fun K1 hK1 => ?_)
          apply Exists.intro
          refine And.intro (fun wx hx => ?_) ?_
          · go_simp
            try rfl
          go_simp
          refine hK1 _ ?_
          clear hK1 K1
          refine wpPre_i rfl (fun K1 hK1 => ?_)
          rw [if_pos (by go_simp)]
          apply Exists.intro
          refine And.intro (fun wx hx => ?_) ?_
          · go_simp
            try rfl
          go_simp
          refine hK1 _ ?_
          clear hK1 K1
          refine wpPre_i rfl (fun K1 hK1 => ?_)
          rw [if_pos (by go_simp)]
          apply Exists.intro
          refine And.intro (fun wx hx => ?_) ?_
          · have e0 := below_fact hx rfl f0
            have e1 := below_fact hx rfl f1
            have e2 := below_fact hx rfl f2
            have e3 := below_fact hx rfl x0
            go_simp
            try rfl
          go_simp
          refine hK1 _ ?_
          clear hK1 K1
          refine wpPre_i rfl (fun K1 hK1 => ?_)
          rw [if_pos (by go_simp)]
          apply Exists.intro
          refine And.intro (fun wx hx => ?_) ?_
          · go_simp
            try rfl
          go_simp
          refine hK1 _ ?_
          clear hK1 K1
          refine wpPre_i rfl (fun K1 hK1 => ?_)
          rw [if_pos (by go_simp)]
          apply Exists.intro
          refine And.intro (fun wx hx => ?_) ?_
          · go_simp
            try rfl
          go_simp
          refine hK1 _ ?_
          clear hK1 K1
          rw [HWc1.out]
          refine wpPre_i rfl (fun K1 hK1 => ?_)
          rw [if_pos (by go_simp)]
          apply Exists.intro
          refine And.intro (fun wx hx => ?_) ?_
          · go_simp
            try rfl
          go_simp
          refine hK1 _ ?_
          clear hK1 K1
          refine wpPre_i rfl (fun K1 hK1 => ?_)
          rw [if_pos (by go_simp)]
          apply Exists.intro
          refine And.intro (fun wx hx => ?_) ?_
          · go_simp
            try rfl
          go_simp
          refine hK1 _ ?_
          clear hK1 K1
          refine wpPre_e rfl rfl (fun K1 hK1 => ?_)
          apply Exists.intro
          refine And.intro (fun wx hx => ?_) ?_
          · go_simp
            try rfl
          go_simp
          refine hK1 _ ?_
          clear hK1 K1
          refine wpPre_e rfl rfl (fun K1 hK1 => ?_)
          apply Exists.intro
          refine And.intro (fun wx hx => ?_) ?_
          · go_simp
            try rfl
          go_simp
          refine hK1 _ ?_
          clear hK1 K1
          refine wpPre_i rfl (fun K1 hK1 => ?_)
          rw [if_pos (by go_simp)]
          apply Exists.intro
          refine And.intro (fun wx hx => ?_) ?_
          · go_simp
            try rfl
          go_simp
          refine hK1 _ ?_
          clear hK1 K1
          refine wpPre_i rfl (fun K1 hK1 => ?_)
          rw [if_pos (by go_simp)]
          apply Exists.intro
          refine And.intro (fun wx hx => ?_) ?_
          · have e0 := below_fact hx rfl f0
            have e1 := below_fact hx rfl f1
            have e2 := below_fact hx rfl f2
            have e3 := below_fact hx rfl x0
            go_simp
            try rfl
          go_simp
          refine hK1 _ ?_
          clear hK1 K1
          refine wpPre_i rfl (fun K1 hK1 => ?_)
          rw [if_pos (by go_simp)]
          apply Exists.intro
          refine And.intro (fun wx hx => ?_) ?_
          · go_simp
            try rfl
          go_simp
          refine hK1 _ ?_
          clear hK1 K1
          refine wpPre_i rfl (fun K1 hK1 => ?_)
          rw [if_pos (by go_simp)]
          apply Exists.intro
          refine And.intro (fun wx hx => ?_) ?_
          · go_simp
            try rfl
          go_simp
          refine hK1 _ ?_
          clear hK1 K1
          refine wpPre_i rfl (fun K1 hK1 => ?_)
          rw [if_pos (by go_simp)]
          apply Exists.intro
          refine And.intro (fun wx hx => ?_) ?_
          · go_simp
            try rfl
          go_simp
          refine hK1 _ ?_
          clear hK1 K1
          refine wpPre_i rfl (fun K1 hK1 => ?_)
          rw [if_pos (by go_simp)]
          apply Exists.intro
          refine And.intro (fun wx hx => ?_) ?_
          · have e0 := below_fact hx rfl f0
            have e1 := below_fact hx rfl f1
            have e2 := below_fact hx rfl f2
            have e3 := below_fact hx rfl x0
            go_simp
            try rfl
          go_simp
          refine hK1 _ ?_
          clear hK1 K1
          refine wpPre_nil ?_
          refine wpTr_e rfl (fun K1 hK1 => ?_)
          refine step_callG (by first | rfl | go_simp) 12 #[.tmp 104, .tmp 108] _ rfl Try.f12 Try.func12 (by kernel_rfl) rfl #[.slice (some ⟨d, 0, none⟩) N N, .slice (data.item c).p N (data.item c).c] rfl _ HSb.out ?_
          rintro e1 w5 ⟨rfl, hw5⟩
          subst w5
          refine ⟨_, rfl, ?_⟩
          go_simp
          refine hK1 _ _ (fun h => by cases h) ?_
          clear hK1 K1
          refine wpPre_i rfl (fun K1 hK1 => ?_)
          rw [if_pos (by go_simp)]
          apply Exists.intro
          refine And.intro (fun wx hx => ?_) ?_
          · go_simp
            try rfl
          go_simp
          refine hK1 _ ?_
          clear hK1 K1
          refine wpPre_e rfl rfl (fun K1 hK1 => ?_)
          apply Exists.intro
          refine And.intro (fun wx hx => ?_) ?_
          · go_simp
            try rfl
          go_simp
          refine hK1 _ ?_
          clear hK1 K1
          refine wpPre_nil ?_
          refine wpTr_done ?_
          clear f0 f1 f2 x0 HSb
          go_wp2
          go_roundw
          case rel => exact ⟨s, c + 1, i + 1, rfl, by go_num, by go_num, HNs.out, by omega, by omega, by omega, HE4.out.below (Below.refl _ _).drew⟩
          case measure => simp [intOf]; omega
        case neg =>
          obtain rfl : c = s := by omega
          have HDn := hid (deliver_no HE.out 0 (by unfold inA; rw [inFl_len]; omega))
          have hcsF : ¬ (c : Int) < (c : Int) := by omega
          go_wp2_with fail
          refine HDn.out.mono ?_
          rintro e w4 ⟨rfl, hE4⟩
          have HE4 := hid (hE4.below ((Below.refl _ _).alloc (Nat.le_refl _) (.cells #[.int .i64 0, .int .i64 0, .slice none 0 0] 32)))
          clear hE4 HDn
          go_wp2
          go_roundw
          case rel => exact ⟨c, c, i + 1, rfl, rfl, by go_num, by omega, by omega, by omega, by omega, HE4.out⟩
          case measure => simp [intOf]; omega
      | true =>
        rw [htb] at t0
        clear htb
        by_cases hsd : s < data.n
        case pos =>
          have hsd' : (s : Int) < (data.n : Int) := by omega
          by_cases hfu : s - c < 256
          case pos =>
            have hfu' : (s : Int) - (c : Int) < 256 := by omega
            obtain ⟨xb, xo, hxp, _, _⟩ := HD0.out.at_ (show 0 < data.n by omega)
            rw [hxp]
            obtain ⟨hxl, x0, hxs, hxb⟩ := bys_at' HD0.out HE.out.bel hxp (j := s) (by omega)
            obtain ⟨N, hN⟩ : ∃ N : Nat, N = (data.item s).zs.length := ⟨_, rfl⟩
            have hxn : (data.item s).n = N := by rw [hN, BY.len]
            rw [hxn] at x0
            by_cases h1k : N ≤ 1000
            · have h1k' : ¬ (1000 : Int) < (N : Int) := by omega
              obtain ⟨r0, hr0⟩ : ∃ r : Nat, r = s % 3 := ⟨_, rfl⟩
              obtain ⟨r1, hr1⟩ : ∃ r : Nat, r = (s + 1) % 3 := ⟨_, rfl⟩
              have hq0 : (s : Int).tmod 3 = (r0 : Int) := by rw [tmod3, hr0]
              have hq0' : (s : Int) % 3 = (r0 : Int) := by rw [hr0]; omega
              have hq1 : ((s : Int) + 1).tmod 3 = (r1 : Int) := by have := tmod3 (s + 1); rw [hr1]; push_cast at this ⊢; exact this
              have hq1' : ((s : Int) + 1) % 3 = (r1 : Int) := by rw [hr1]; omega
              have HS := hid (send_en HE.out (r0 : Int) (r1 : Int) _ _ _ hxs hxb 0 (by unfold sendE; rw [inFl_len, if_neg (by omega), if_neg (by omega), if_neg (by omega)]))
              have HL : Hid (inFl data c s ++ [⟨(r0 : Int), (r1 : Int), (data.item s).zs⟩] = inFl data c (s + 1)) := by
                show _ = _
                rw [inFl_send data hcs0, hr0, hr1]
              rw [← hN] at HS
              rw [HL.out] at HS
              have hr3 : (r0 : Int) ≤ 2 := by omega
              have hr4 : (r1 : Int) ≤ 2 := by omega
              clear hxs hxb hN hxn hr0 hr1
              go_wp2_with fail
              refine HS.out.mono ?_
              rintro e w4 ⟨rfl, hq, _⟩
              have HE4 := hid (hq (by first | rfl | trivial))
              clear hq HS x0
              go_wp2
              go_roundw
              case rel => exact ⟨s + 1, c, i + 1, by go_num, rfl, by go_num, by omega, by omega, by omega, by omega, HE4.out⟩
              case measure => simp [intOf]; omega
            · have h1k' : (1000 : Int) < (N : Int) := by omega
              clear hxs hxb hN hxn
              go_wp2
              exact bodyPost_ret (v := .bool true) (by simp [results, Try.results3, go_sem]) rfl ⟨rfl, HE.out.bel⟩
          case neg =>
            have hfu' : ¬ (s : Int) - (c : Int) < 256 := by omega
            have hcs : c < s := by omega
            obtain ⟨xb, xo, hxp, _, _⟩ := HD0.out.at_ (show 0 < data.n by omega)
            rw [hxp]
            have HD := hid (deliver_en HE.out 0 (by unfold inA; rw [inFl_len]; omega))
            go_wp2_with fail
            refine HD.out.mono ?_
            rintro e w4 ⟨a, d, ha, rfl, hd, hbx, hE4⟩
            obtain ⟨hh, ht⟩ := inFl_take data hcs
            have ha' : a = ⟨((c % 3 : Nat) : Int), (((c + 1) % 3 : Nat) : Int), (data.item c).zs⟩ := by
              have h1 := ha
              rw [show ((0 : Int).toNat) = 0 from rfl, hh] at h1
              exact (Option.some.inj h1).symm
            rw [show ((0 : Int).toNat) = 0 from rfl, ht] at hE4
            obtain ⟨r0, hr0⟩ : ∃ r : Nat, r = c % 3 := ⟨_, rfl⟩
            obtain ⟨r1, hr1⟩ : ∃ r : Nat, r = (c + 1) % 3 := ⟨_, rfl⟩
            obtain ⟨N, hN⟩ : ∃ N : Nat, N = (data.item c).zs.length := ⟨_, rfl⟩
            have hafr : a.fr = (r0 : Int) := by rw [ha', hr0]
            have hatt : a.tt = (r1 : Int) := by rw [ha', hr1]
            have hazs : a.zs = (data.item c).zs := by rw [ha']
            rw [hafr, hatt, hazs, ← hN]
            rw [hazs] at hbx
            obtain ⟨V, hV⟩ : ∃ V, V = w4.alloc (.cells #[.int .i64 (r0 : Int), .int .i64 (r1 : Int), .slice (some ⟨d, 0, none⟩) N N] 32) := ⟨_, rfl⟩
            have hBV : Below w4.heap.size w4 V := by rw [hV]; exact (Below.refl _ _).alloc (Nat.le_refl _) _
            have hX : Box V w4.heap.size #[.int .i64 (r0 : Int), .int .i64 (r1 : Int), .slice (some ⟨d, 0, none⟩) N N] 32 := by rw [hV]; exact Box.new _ _ _
            have HE4 := hid (hE4.below hBV)
            obtain ⟨hxl, x0, hxs, _⟩ := bys_at' HD0.out HE4.out.bel hxp (j := c) (by omega)
            have hxn : (data.item c).n = N := by rw [hN, BY.len]
            rw [hxn] at x0
            have hsd : Src V (some ⟨d, 0, none⟩) (data.item c).zs.length N 1 ((data.item c).zs.map (.int .u8)) := by
              refine .inr ⟨_, rfl, by simp, fun j u hu => ?_⟩
              rw [Go.WideShapes.add_plain, (hbx.below hBV).cell, ← hu]
              simp [bys]
            have HSb := hid (sameB_yes V.drew (data.item c).zs _ _ _ _ hsd hxs)
            rw [← hN] at HSb
            have f0 := hX.cell 0
            have f1 := hX.cell 1
            have f2 := hX.cell 2
            simp at f0 f1 f2
            have fl := hX.lt
            have hq0 : (c : Int).tmod 3 = (r0 : Int) := by rw [tmod3, hr0]
            have hq0' : (c : Int) % 3 = (r0 : Int) := by rw [hr0]; omega
            have hq1 : ((c : Int) + 1).tmod 3 = (r1 : Int) := by have := tmod3 (c + 1); rw [hr1]; push_cast at this ⊢; exact this
            have hq1' : ((c : Int) + 1) % 3 = (r1 : Int) := by rw [hr1]; omega
            have hcn : (c : Int) < (data.n : Int) := by omega
            have hcs' : (c : Int) < (s : Int) := by omega
            have hdd : (decide ((c : Int) < (s : Int))) = true := decide_eq_true hcs'
            have HV := hid hV
            have hr3 : (r0 : Int) ≤ 2 := by omega
            have hr4 : (r1 : Int) ≤ 2 := by omega
            have HWr0 : Hid (IntKind.i64.wrap (r0 : Int) = (r0 : Int)) := by show _ = _; rw [IntKind.wrap_i64]; omega
            have HWr1 : Hid (IntKind.i64.wrap (r1 : Int) = (r1 : Int)) := by show _ = _; rw [IntKind.wrap_i64]; omega
            have HWc1 : Hid (IntKind.i64.wrap ((c : Int) + 1) = (c : Int) + 1) := by show _ = _; rw [IntKind.wrap_i64]; omega
            have HNs : Hid (c + 1 ≤ s) := by show _ ≤ _; omega
            clear ha hd hbx hE4 hh ht ha' hr0 hr1 hN hafr hatt hazs hV hBV hX hxs hsd hxn HD
            go_upto_region 22 with fail
            rw [← HV.out]
            refine wp_region_calmE 30 (fun wx => Below V.heap.size V wx) [(0, true), (1, false), (2, true), (3, true), (4, true), (5, true), (6, true), (7, false), (8, true), (9, true), (10, true), (11, true), (12, true), (13, true), (14, true), (15, false), (16, true), (17, true), (18, true), (19, false)] (.one 20 false [(21, true), (22, true)] .done) (by kernel_rfl) (by kernel_rfl) (Below.refl _ _).drew ?_
            refine wpPre_e rfl rfl (fun K1 hK1 => ?_)
            apply Exists.intro
            refine And.intro (fun wx hx => ?_) ?_
            · go_simp
              try rfl
            go_simp
            refine hK1 _ ?_
            clear hK1 K1
            refine wpPre_e rfl rfl (fun K1 hK1 => ?_)
            apply Exists.intro
            refine And.intro (fun wx hx => ?_) ?_
            · have e0 := below_fact hx rfl f0
              have e1 := below_fact hx rfl f1
              have e2 := below_fact hx rfl f2
              have e3 := below_fact hx rfl x0
              go_simp
              try rfl
            go_simp
            refine hK1 _ ?_
            clear hK1 K1
            refine wpPre_e rfl rfl (fun K1 hK1 => ?_)
            apply Exists.intro
            refine And.intro (fun wx hx => ?_) ?_
            · go_simp
              try rfl
            go_simp
            refine hK1 _ ?_
            clear hK1 K1
            refine wpPre_e rfl rfl (fun K1 hK1 => ?_)
            apply Exists.intro
            refine And.intro (fun wx hx => ?_) ?_
            · go_simp
              try rfl
            go_simp
            refine hK1 _ ?_
            clear hK1 K1
            refine wpPre_e rfl rfl (fun K1 hK1 => ?_)
            apply Exists.intro
            refine And.intro (fun wx hx => ?_) ?_
            · go_simp
              try rfl
            go_simp
            refine hK1 _ ?_
            clear hK1 K1
            refine wpPre_e rfl rfl (fun K1 hK1 => ?_)
            apply Exists.intro
            refine And.intro (fun wx hx => ?_) ?_
            · go_simp
              try rfl
            go_simp
            refine hK1 _ ?_
            clear hK1 K1
            refine wpPre_i rfl (fun K1 hK1 => ?_)
            rw [if_pos (by go_simp)]
            apply Exists.intro
            refine And.intro (fun wx hx => ?_) ?_
            · go_simp
              try rfl
            go_simp
            refine hK1 _ ?_
            clear hK1 K1
            refine wpPre_i rfl (fun K1 hK1 => ?_)
            rw [if_pos (by go_simp)]
            apply Exists.intro
            refine And.intro (fun wx hx => ?_) ?_
            · have e0 := below_fact hx rfl f0
              have e1 := below_fact hx rfl f1
              have e2 := below_fact hx rfl f2
              have e3 := below_fact hx rfl x0
              go_simp
              try rfl
            go_simp
            refine hK1 _ ?_
            clear hK1 K1
            refine wpPre_i rfl (fun K1 hK1 => ?_)
            rw [if_pos (by go_simp)]
            apply Exists.intro
            refine And.intro (fun wx hx => ?_) ?_
            · go_simp
              try rfl
            go_simp
            refine hK1 _ ?_
            clear hK1 K1
            refine wpPre_i rfl (fun K1 hK1 => ?_)
            rw [if_pos (by go_simp)]
            apply Exists.intro
            refine And.intro (fun wx hx => ?_) ?_
            · go_simp
              try rfl
            go_simp
            refine hK1 _ ?_
            clear hK1 K1
            rw [HWc1.out]
            refine wpPre_i rfl (fun K1 hK1 => ?_)
            rw [if_pos (by go_simp)]
            apply Exists.intro
            refine And.intro (fun wx hx => ?_) ?_
            · go_simp
              try rfl
            go_simp
            refine hK1 _ ?_
            clear hK1 K1
            refine wpPre_i rfl (fun K1 hK1 => ?_)
            rw [if_pos (by go_simp)]
            apply Exists.intro
            refine And.intro (fun wx hx => ?_) ?_
            · go_simp
              try rfl
            go_simp
            refine hK1 _ ?_
            clear hK1 K1
            refine wpPre_e rfl rfl (fun K1 hK1 => ?_)
            apply Exists.intro
            refine And.intro (fun wx hx => ?_) ?_
            · go_simp
              try rfl
            go_simp
            refine hK1 _ ?_
            clear hK1 K1
            refine wpPre_e rfl rfl (fun K1 hK1 => ?_)
            apply Exists.intro
            refine And.intro (fun wx hx => ?_) ?_
            · go_simp
              try rfl
            go_simp
            refine hK1 _ ?_
            clear hK1 K1
            refine wpPre_i rfl (fun K1 hK1 => ?_)
            rw [if_pos (by go_simp)]
            apply Exists.intro
            refine And.intro (fun wx hx => ?_) ?_
            · go_simp
              try rfl
            go_simp
            refine hK1 _ ?_
            clear hK1 K1
            refine wpPre_i rfl (fun K1 hK1 => ?_)
            rw [if_pos (by go_simp)]
            apply Exists.intro
            refine And.intro (fun wx hx => ?_) ?_
            · have e0 := below_fact hx rfl f0
              have e1 := below_fact hx rfl f1
              have e2 := below_fact hx rfl f2
              have e3 := below_fact hx rfl x0
              go_simp
              try rfl
            go_simp
            refine hK1 _ ?_
            clear hK1 K1
            refine wpPre_i rfl (fun K1 hK1 => ?_)
            rw [if_pos (by go_simp)]
            apply Exists.intro
            refine And.intro (fun wx hx => ?_) ?_
            · go_simp
              try rfl
            go_simp
            refine hK1 _ ?_
            clear hK1 K1
            refine wpPre_i rfl (fun K1 hK1 => ?_)
            rw [if_pos (by go_simp)]
            apply Exists.intro
            refine And.intro (fun wx hx => ?_) ?_
            · go_simp
              try rfl
            go_simp
            refine hK1 _ ?_
            clear hK1 K1
            refine wpPre_i rfl (fun K1 hK1 => ?_)
            rw [if_pos (by go_simp)]
            apply Exists.intro
            refine And.intro (fun wx hx => ?_) ?_
            · go_simp
              try rfl
            go_simp
            refine hK1 _ ?_
            clear hK1 K1
            refine wpPre_i rfl (fun K1 hK1 => ?_)
            rw [if_pos (by go_simp)]
            apply Exists.intro
            refine And.intro (fun wx hx => ?_) ?_
            · have e0 := below_fact hx rfl f0
              have e1 := below_fact hx rfl f1
              have e2 := below_fact hx rfl f2
              have e3 := below_fact hx rfl x0
              go_simp
              try rfl
            go_simp
            refine hK1 _ ?_
            clear hK1 K1
            refine wpPre_nil ?_
            refine wpTr_e rfl (fun K1 hK1 => ?_)
            refine step_callG (by first | rfl | go_simp) 12 #[.tmp 104, .tmp 108] _ rfl Try.f12 Try.func12 (by kernel_rfl) rfl #[.slice (some ⟨d, 0, none⟩) N N, .slice (data.item c).p N (data.item c).c] rfl _ HSb.out ?_
            rintro e1 w5 ⟨rfl, hw5⟩
            subst w5
            refine ⟨_, rfl, ?_⟩
            go_simp
            refine hK1 _ _ (fun h => by cases h) ?_
            clear hK1 K1
            refine wpPre_i rfl (fun K1 hK1 => ?_)
            rw [if_pos (by go_simp)]
            apply Exists.intro
            refine And.intro (fun wx hx => ?_) ?_
            · go_simp
              try rfl
            go_simp
            refine hK1 _ ?_
            clear hK1 K1
            refine wpPre_e rfl rfl (fun K1 hK1 => ?_)
            apply Exists.intro
            refine And.intro (fun wx hx => ?_) ?_
            · go_simp
              try rfl
            go_simp
            refine hK1 _ ?_
            clear hK1 K1
            refine wpPre_nil ?_
            refine wpTr_done ?_
            clear f0 f1 f2 x0 HSb
            go_wp2
            go_roundw
            case rel => exact ⟨s, c + 1, i + 1, rfl, by go_num, by go_num, HNs.out, by omega, by omega, by omega, HE4.out.below (Below.refl _ _).drew⟩
            case measure => simp [intOf]; omega
        case neg =>
          have hsd' : ¬ (s : Int) < (data.n : Int) := by omega
          by_cases hcs : c < s
          case pos =>
            obtain ⟨xb, xo, hxp, _, _⟩ := HD0.out.at_ (show 0 < data.n by omega)
            rw [hxp]
            have HD := hid (deliver_en HE.out 0 (by unfold inA; rw [inFl_len]; omega))
            go_wp2_with fail
            refine HD.out.mono ?_
            rintro e w4 ⟨a, d, ha, rfl, hd, hbx, hE4⟩
            obtain ⟨hh, ht⟩ := inFl_take data hcs
            have ha' : a = ⟨((c % 3 : Nat) : Int), (((c + 1) % 3 : Nat) : Int), (data.item c).zs⟩ := by
              have h1 := ha
              rw [show ((0 : Int).toNat) = 0 from rfl, hh] at h1
              exact (Option.some.inj h1).symm
            rw [show ((0 : Int).toNat) = 0 from rfl, ht] at hE4
            obtain ⟨r0, hr0⟩ : ∃ r : Nat, r = c % 3 := ⟨_, rfl⟩
            obtain ⟨r1, hr1⟩ : ∃ r : Nat, r = (c + 1) % 3 := ⟨_, rfl⟩
            obtain ⟨N, hN⟩ : ∃ N : Nat, N = (data.item c).zs.length := ⟨_, rfl⟩
            have hafr : a.fr = (r0 : Int) := by rw [ha', hr0]
            have hatt : a.tt = (r1 : Int) := by rw [ha', hr1]
            have hazs : a.zs = (data.item c).zs := by rw [ha']
            rw [hafr, hatt, hazs, ← hN]
            rw [hazs] at hbx
            obtain ⟨V, hV⟩ : ∃ V, V = w4.alloc (.cells #[.int .i64 (r0 : Int), .int .i64 (r1 : Int), .slice (some ⟨d, 0, none⟩) N N] 32) := ⟨_, rfl⟩
            have hBV : Below w4.heap.size w4 V := by rw [hV]; exact (Below.refl _ _).alloc (Nat.le_refl _) _
            have hX : Box V w4.heap.size #[.int .i64 (r0 : Int), .int .i64 (r1 : Int), .slice (some ⟨d, 0, none⟩) N N] 32 := by rw [hV]; exact Box.new _ _ _
            have HE4 := hid (hE4.below hBV)
            obtain ⟨hxl, x0, hxs, _⟩ := bys_at' HD0.out HE4.out.bel hxp (j := c) (by omega)
            have hxn : (data.item c).n = N := by rw [hN, BY.len]
            rw [hxn] at x0
            have hsd : Src V (some ⟨d, 0, none⟩) (data.item c).zs.length N 1 ((data.item c).zs.map (.int .u8)) := by
              refine .inr ⟨_, rfl, by simp, fun j u hu => ?_⟩
              rw [Go.WideShapes.add_plain, (hbx.below hBV).cell, ← hu]
              simp [bys]
            have HSb := hid (sameB_yes V.drew (data.item c).zs _ _ _ _ hsd hxs)
            rw [← hN] at HSb
            have f0 := hX.cell 0
            have f1 := hX.cell 1
            have f2 := hX.cell 2
            simp at f0 f1 f2
            have fl := hX.lt
            have hq0 : (c : Int).tmod 3 = (r0 : Int) := by rw [tmod3, hr0]
            have hq0' : (c : Int) % 3 = (r0 : Int) := by rw [hr0]; omega
            have hq1 : ((c : Int) + 1).tmod 3 = (r1 : Int) := by have := tmod3 (c + 1); rw [hr1]; push_cast at this ⊢; exact this
            have hq1' : ((c : Int) + 1) % 3 = (r1 : Int) := by rw [hr1]; omega
            have hcn : (c : Int) < (data.n : Int) := by omega
            have hcs' : (c : Int) < (s : Int) := by omega
            have hdd : (decide ((c : Int) < (s : Int))) = true := decide_eq_true hcs'
            have HV := hid hV
            have hr3 : (r0 : Int) ≤ 2 := by omega
            have hr4 : (r1 : Int) ≤ 2 := by omega
            have HWr0 : Hid (IntKind.i64.wrap (r0 : Int) = (r0 : Int)) := by show _ = _; rw [IntKind.wrap_i64]; omega
            have HWr1 : Hid (IntKind.i64.wrap (r1 : Int) = (r1 : Int)) := by show _ = _; rw [IntKind.wrap_i64]; omega
            have HWc1 : Hid (IntKind.i64.wrap ((c : Int) + 1) = (c : Int) + 1) := by show _ = _; rw [IntKind.wrap_i64]; omega
            have HNs : Hid (c + 1 ≤ s) := by show _ ≤ _; omega
            clear ha hd hbx hE4 hh ht ha' hr0 hr1 hN hafr hatt hazs hV hBV hX hxs hsd hxn HD
            go_upto_region 22 with fail
            rw [← HV.out]
            refine wp_region_calmE 30 (fun wx => Below V.heap.size V wx) [(0, true), (1, false), (2, true), (3, true), (4, true), (5, true), (6, true), (7, false), (8, true), (9, true), (10, true), (11, true), (12, true), (13, true), (14, true), (15, false), (16, true), (17, true), (18, true), (19, false)] (.one 20 false [(21, true), (22, true)] .done) (by kernel_rfl) (by kernel_rfl) (Below.refl _ _).drew ?_
            refine wpPre_e rfl rfl (fun K1 hK1 => ?_)
            apply Exists.intro
            refine And.intro (fun wx hx => ?_) ?_
            · go_simp
              try rfl
            go_simp
            refine hK1 _ ?_
            clear hK1 K1
            refine wpPre_e rfl rfl (fun K1 hK1 => ?_)
            apply Exists.intro
            refine And.intro (fun wx hx => ?_) ?_
            · have e0 := below_fact hx rfl f0
              have e1 := below_fact hx rfl f1
              have e2 := below_fact hx rfl f2
              have e3 := below_fact hx rfl x0
              go_simp
              try rfl
            go_simp
            refine hK1 _ ?_
            clear hK1 K1
            refine wpPre_e rfl rfl (fun K1 hK1 => ?_)
            apply Exists.intro
            refine And.intro (fun wx hx => ?_) ?_
            · go_simp
              try rfl
            go_simp
            refine hK1 _ ?_
            clear hK1 K1
            refine wpPre_e rfl rfl (fun K1 hK1 => ?_)
            apply Exists.intro
            refine And.intro (fun wx hx => ?_) ?_
            · go_simp
              try rfl
            go_simp
            refine hK1 _ ?_
            clear hK1 K1
            refine wpPre_e rfl rfl (fun K1 hK1 => ?_)
            apply Exists.intro
            refine And.intro (fun wx hx => ?_) ?_
            · go_simp
              try rfl
            go_simp
            refine hK1 _ ?_
            clear hK1 K1
            refine wpPre_e rfl rfl (fun K1 hK1 => ?_)
            apply Exists.intro
            refine And.intro (fun wx hx => ?_) ?_
            · go_simp
              try rfl
            go_simp
            refine hK1 _ ?_
            clear hK1 K1
            refine wpPre_i rfl (fun K1 hK1 => ?_)
            rw [if_pos (by go_simp)]
            apply Exists.intro
            refine And.intro (fun wx hx => ?_) ?_
            · go_simp
              try rfl
            go_simp
            refine hK1 _ ?_
            clear hK1 K1
            refine wpPre_i rfl (fun K1 hK1 => ?_)
            rw [if_pos (by go_simp)]
            apply Exists.intro
            refine And.intro (fun wx hx => ?_) ?_
            · have e0 := below_fact hx rfl f0
              have e1 := below_fact hx rfl f1
              have e2 := below_fact hx rfl f2
              have e3 := below_fact hx rfl x0
              go_simp
              try rfl
            go_simp
            refine hK1 _ ?_
            clear hK1 K1
            refine wpPre_i rfl (fun K1 hK1 => ?_)
            rw [if_pos (by go_simp)]
            apply Exists.intro
            refine And.intro (fun wx hx => ?_) ?_
            · go_simp
              try rfl
            go_simp
            refine hK1 _ ?_
            clear hK1 K1
            refine wpPre_i rfl (fun K1 hK1 => ?_)
            rw [if_pos (by go_simp)]
            apply Exists.intro
            refine And.intro (fun wx hx => ?_) ?_
            · go_simp
              try rfl
            go_simp
            refine hK1 _ ?_
            clear hK1 K1
            rw [HWc1.out]
            refine wpPre_i rfl (fun K1 hK1 => ?_)
            rw [if_pos (by go_simp)]
            apply Exists.intro
            refine And.intro (fun wx hx => ?_) ?_
            · go_simp
              try rfl
            go_simp
            refine hK1 _ ?_
            clear hK1 K1
            refine wpPre_i rfl (fun K1 hK1 => ?_)
            rw [if_pos (by go_simp)]
            apply Exists.intro
            refine And.intro (fun wx hx => ?_) ?_
            · go_simp
              try rfl
            go_simp
            refine hK1 _ ?_
            clear hK1 K1
            refine wpPre_e rfl rfl (fun K1 hK1 => ?_)
            apply Exists.intro
            refine And.intro (fun wx hx => ?_) ?_
            · go_simp
              try rfl
            go_simp
            refine hK1 _ ?_
            clear hK1 K1
            refine wpPre_e rfl rfl (fun K1 hK1 => ?_)
            apply Exists.intro
            refine And.intro (fun wx hx => ?_) ?_
            · go_simp
              try rfl
            go_simp
            refine hK1 _ ?_
            clear hK1 K1
            refine wpPre_i rfl (fun K1 hK1 => ?_)
            rw [if_pos (by go_simp)]
            apply Exists.intro
            refine And.intro (fun wx hx => ?_) ?_
            · go_simp
              try rfl
            go_simp
            refine hK1 _ ?_
            clear hK1 K1
            refine wpPre_i rfl (fun K1 hK1 => ?_)
            rw [if_pos (by go_simp)]
            apply Exists.intro
            refine And.intro (fun wx hx => ?_) ?_
            · have e0 := below_fact hx rfl f0
              have e1 := below_fact hx rfl f1
              have e2 := below_fact hx rfl f2
              have e3 := below_fact hx rfl x0
              go_simp
              try rfl
            go_simp
            refine hK1 _ ?_
            clear hK1 K1
            refine wpPre_i rfl (fun K1 hK1 => ?_)
            rw [if_pos (by go_simp)]
            apply Exists.intro
            refine And.intro (fun wx hx => ?_) ?_
            · go_simp
              try rfl
            go_simp
            refine hK1 _ ?_
            clear hK1 K1
            refine wpPre_i rfl (fun K1 hK1 => ?_)
            rw [if_pos (by go_simp)]
            apply Exists.intro
            refine And.intro (fun wx hx => ?_) ?_
            · go_simp
              try rfl
            go_simp
            refine hK1 _ ?_
            clear hK1 K1
            refine wpPre_i rfl (fun K1 hK1 => ?_)
            rw [if_pos (by go_simp)]
            apply Exists.intro
            refine And.intro (fun wx hx => ?_) ?_
            · go_simp
              try rfl
            go_simp
            refine hK1 _ ?_
            clear hK1 K1
            refine wpPre_i rfl (fun K1 hK1 => ?_)
            rw [if_pos (by go_simp)]
            apply Exists.intro
            refine And.intro (fun wx hx => ?_) ?_
            · have e0 := below_fact hx rfl f0
              have e1 := below_fact hx rfl f1
              have e2 := below_fact hx rfl f2
              have e3 := below_fact hx rfl x0
              go_simp
              try rfl
            go_simp
            refine hK1 _ ?_
            clear hK1 K1
            refine wpPre_nil ?_
            refine wpTr_e rfl (fun K1 hK1 => ?_)
            refine step_callG (by first | rfl | go_simp) 12 #[.tmp 104, .tmp 108] _ rfl Try.f12 Try.func12 (by kernel_rfl) rfl #[.slice (some ⟨d, 0, none⟩) N N, .slice (data.item c).p N (data.item c).c] rfl _ HSb.out ?_
            rintro e1 w5 ⟨rfl, hw5⟩
            subst w5
            refine ⟨_, rfl, ?_⟩
            go_simp
            refine hK1 _ _ (fun h => by cases h) ?_
            clear hK1 K1
            refine wpPre_i rfl (fun K1 hK1 => ?_)
            rw [if_pos (by go_simp)]
            apply Exists.intro
            refine And.intro (fun wx hx => ?_) ?_
            · go_simp
              try rfl
            go_simp
            refine hK1 _ ?_
            clear hK1 K1
            refine wpPre_e rfl rfl (fun K1 hK1 => ?_)
            apply Exists.intro
            refine And.intro (fun wx hx => ?_) ?_
            · go_simp
              try rfl
            go_simp
            refine hK1 _ ?_
            clear hK1 K1
            refine wpPre_nil ?_
            refine wpTr_done ?_
            clear f0 f1 f2 x0 HSb
            go_wp2
            go_roundw
            case rel => exact ⟨s, c + 1, i + 1, rfl, by go_num, by go_num, HNs.out, by omega, by omega, by omega, HE4.out.below (Below.refl _ _).drew⟩
            case measure => simp [intOf]; omega
          case neg =>
            obtain rfl : c = s := by omega
            have HDn := hid (deliver_no HE.out 0 (by unfold inA; rw [inFl_len]; omega))
            have hcsF : ¬ (c : Int) < (c : Int) := by omega
            go_wp2_with fail
            refine HDn.out.mono ?_
            rintro e w4 ⟨rfl, hE4⟩
            have HE4 := hid (hE4.below ((Below.refl _ _).alloc (Nat.le_refl _) (.cells #[.int .i64 0, .int .i64 0, .slice none 0 0] 32)))
            clear hE4 HDn
            go_wp2
            go_roundw
            case rel => exact ⟨c, c, i + 1, rfl, rfl, by go_num, by omega, by omega, by omega, by omega, HE4.out⟩
            case measure => simp [intOf]; omega
    case neg =>
      have hi' : ¬ (i : Int) < (turns.n : Int) := by omega
      by_cases hcs : c < s
      case pos =>
        have hcsI : (c : Int) < (s : Int) := by omega
        obtain ⟨xb, xo, hxp, _, _⟩ := HD0.out.at_ (show 0 < data.n by omega)
        rw [hxp]
        have HD := hid (deliver_en HE.out 0 (by unfold inA; rw [inFl_len]; omega))
        go_wp2_with fail
        refine HD.out.mono ?_
        rintro e w4 ⟨a, d, ha, rfl, hd, hbx, hE4⟩
        obtain ⟨hh, ht⟩ := inFl_take data hcs
        have ha' : a = ⟨((c % 3 : Nat) : Int), (((c + 1) % 3 : Nat) : Int), (data.item c).zs⟩ := by
          have h1 := ha
          rw [show ((0 : Int).toNat) = 0 from rfl, hh] at h1
          exact (Option.some.inj h1).symm
        rw [show ((0 : Int).toNat) = 0 from rfl, ht] at hE4
        obtain ⟨r0, hr0⟩ : ∃ r : Nat, r = c % 3 := ⟨_, rfl⟩
        obtain ⟨r1, hr1⟩ : ∃ r : Nat, r = (c + 1) % 3 := ⟨_, rfl⟩
        obtain ⟨N, hN⟩ : ∃ N : Nat, N = (data.item c).zs.length := ⟨_, rfl⟩
        have hafr : a.fr = (r0 : Int) := by rw [ha', hr0]
        have hatt : a.tt = (r1 : Int) := by rw [ha', hr1]
        have hazs : a.zs = (data.item c).zs := by rw [ha']
        rw [hafr, hatt, hazs, ← hN]
        rw [hazs] at hbx
        obtain ⟨V, hV⟩ : ∃ V, V = w4.alloc (.cells #[.int .i64 (r0 : Int), .int .i64 (r1 : Int), .slice (some ⟨d, 0, none⟩) N N] 32) := ⟨_, rfl⟩
        have hBV : Below w4.heap.size w4 V := by rw [hV]; exact (Below.refl _ _).alloc (Nat.le_refl _) _
        have hX : Box V w4.heap.size #[.int .i64 (r0 : Int), .int .i64 (r1 : Int), .slice (some ⟨d, 0, none⟩) N N] 32 := by rw [hV]; exact Box.new _ _ _
        have HE4 := hid (hE4.below hBV)
        obtain ⟨hxl, x0, hxs, _⟩ := bys_at' HD0.out HE4.out.bel hxp (j := c) (by omega)
        have hxn : (data.item c).n = N := by rw [hN, BY.len]
        rw [hxn] at x0
        have hsd : Src V (some ⟨d, 0, none⟩) (data.item c).zs.length N 1 ((data.item c).zs.map (.int .u8)) := by
          refine .inr ⟨_, rfl, by simp, fun j u hu => ?_⟩
          rw [Go.WideShapes.add_plain, (hbx.below hBV).cell, ← hu]
          simp [bys]
        have HSb := hid (sameB_yes V.drew (data.item c).zs _ _ _ _ hsd hxs)
        rw [← hN] at HSb
        have f0 := hX.cell 0
        have f1 := hX.cell 1
        have f2 := hX.cell 2
        simp at f0 f1 f2
        have fl := hX.lt
        have hq0 : (c : Int).tmod 3 = (r0 : Int) := by rw [tmod3, hr0]
        have hq0' : (c : Int) % 3 = (r0 : Int) := by rw [hr0]; omega
        have hq1 : ((c : Int) + 1).tmod 3 = (r1 : Int) := by have := tmod3 (c + 1); rw [hr1]; push_cast at this ⊢; exact this
        have hq1' : ((c : Int) + 1) % 3 = (r1 : Int) := by rw [hr1]; omega
        have hcn : (c : Int) < (data.n : Int) := by omega
        have hcs' : (c : Int) < (s : Int) := by omega
        have hdd : (decide ((c : Int) < (s : Int))) = true := decide_eq_true hcs'
        have HV := hid hV
        have hr3 : (r0 : Int) ≤ 2 := by omega
        have hr4 : (r1 : Int) ≤ 2 := by omega
        have HWr0 : Hid (IntKind.i64.wrap (r0 : Int) = (r0 : Int)) := by show _ = _; rw [IntKind.wrap_i64]; omega
        have HWr1 : Hid (IntKind.i64.wrap (r1 : Int) = (r1 : Int)) := by show _ = _; rw [IntKind.wrap_i64]; omega
        have HWc1 : Hid (IntKind.i64.wrap ((c : Int) + 1) = (c : Int) + 1) := by show _ = _; rw [IntKind.wrap_i64]; omega
        have HNs : Hid (c + 1 ≤ s) := by show _ ≤ _; omega
        clear ha hd hbx hE4 hh ht ha' hr0 hr1 hN hafr hatt hazs hV hBV hX hxs hsd hxn HD
        go_upto_region 22 with fail
        rw [← HV.out]
        refine wp_region_calmE 30 (fun wx => Below V.heap.size V wx) [(0, true), (1, false), (2, true), (3, true), (4, true), (5, true), (6, true), (7, false), (8, true), (9, true), (10, true), (11, true), (12, true), (13, true), (14, true), (15, false), (16, true), (17, true), (18, true), (19, false)] (.one 20 false [(21, true), (22, true)] .done) (by kernel_rfl) (by kernel_rfl) (Below.refl _ _).drew ?_
        refine wpPre_e rfl rfl (fun K1 hK1 => ?_)
        apply Exists.intro
        refine And.intro (fun wx hx => ?_) ?_
        · go_simp
          try rfl
        go_simp
        refine hK1 _ ?_
        clear hK1 K1
        refine wpPre_e rfl rfl (fun K1 hK1 => ?_)
        apply Exists.intro
        refine And.intro (fun wx hx => ?_) ?_
        · have e0 := below_fact hx rfl f0
          have e1 := below_fact hx rfl f1
          have e2 := below_fact hx rfl f2
          have e3 := below_fact hx rfl x0
          go_simp
          try rfl
        go_simp
        refine hK1 _ ?_
        clear hK1 K1
        refine wpPre_e rfl rfl (fun K1 hK1 => ?_)
        apply Exists.intro
        refine And.intro (fun wx hx => ?_) ?_
        · go_simp
          try rfl
        go_simp
        refine hK1 _ ?_
        clear hK1 K1
        refine wpPre_e rfl rfl (fun K1 hK1 => ?_)
        apply Exists.intro
        refine And.intro (fun wx hx => ?_) ?_
        · go_simp
          try rfl
        go_simp
        refine hK1 _ ?_
        clear hK1 K1
        refine wpPre_e rfl rfl (fun K1 hK1 => ?_)
        apply Exists.intro
        refine And.intro (fun wx hx => ?_) ?_
        · go_simp
          try rfl
        go_simp
        refine hK1 _ ?_
        clear hK1 K1
        refine wpPre_e rfl rfl (fun K1 hK1 => ?_)
        apply Exists.intro
        refine And.intro (fun wx hx => ?_) ?_
        · go_simp
          try rfl
        go_simp
        refine hK1 _ ?_
        clear hK1 K1
        refine wpPre_i rfl (fun K1 hK1 => ?_)
        rw [if_pos (by go_simp)]
        apply Exists.intro
        refine And.intro (fun wx hx => ?_) ?_
        · go_simp
          try rfl
        go_simp
        refine hK1 _ ?_
        clear hK1 K1
        refine wpPre_i rfl (fun K1 hK1 => ?_)
        rw [if_pos (by go_simp)]
        apply Exists.intro
        refine And.intro (fun wx hx => ?_) ?_
        · have e0 := below_fact hx rfl f0
          have e1 := below_fact hx rfl f1
          have e2 := below_fact hx rfl f2
          have e3 := below_fact hx rfl x0
          go_simp
          try rfl
        go_simp
        refine hK1 _ ?_
        clear hK1 K1
        refine wpPre_i rfl (fun K1 hK1 => ?_)
        rw [if_pos (by go_simp)]
        apply Exists.intro
        refine And.intro (fun wx hx => ?_) ?_
        · go_simp
          try rfl
        go_simp
        refine hK1 _ ?_
        clear hK1 K1
        refine wpPre_i rfl (fun K1 hK1 => ?_)
        rw [if_pos (by go_simp)]
        apply Exists.intro
        refine And.intro (fun wx hx => ?_) ?_
        · go_simp
          try rfl
        go_simp
        refine hK1 _ ?_
        clear hK1 K1
        rw [HWc1.out]
        refine wpPre_i rfl (fun K1 hK1 => ?_)
        rw [if_pos (by go_simp)]
        apply Exists.intro
        refine And.intro (fun wx hx => ?_) ?_
        · go_simp
          try rfl
        go_simp
        refine hK1 _ ?_
        clear hK1 K1
        refine wpPre_i rfl (fun K1 hK1 => ?_)
        rw [if_pos (by go_simp)]
        apply Exists.intro
        refine And.intro (fun wx hx => ?_) ?_
        · go_simp
          try rfl
        go_simp
        refine hK1 _ ?_
        clear hK1 K1
        refine wpPre_e rfl rfl (fun K1 hK1 => ?_)
        apply Exists.intro
        refine And.intro (fun wx hx => ?_) ?_
        · go_simp
          try rfl
        go_simp
        refine hK1 _ ?_
        clear hK1 K1
        refine wpPre_e rfl rfl (fun K1 hK1 => ?_)
        apply Exists.intro
        refine And.intro (fun wx hx => ?_) ?_
        · go_simp
          try rfl
        go_simp
        refine hK1 _ ?_
        clear hK1 K1
        refine wpPre_i rfl (fun K1 hK1 => ?_)
        rw [if_pos (by go_simp)]
        apply Exists.intro
        refine And.intro (fun wx hx => ?_) ?_
        · go_simp
          try rfl
        go_simp
        refine hK1 _ ?_
        clear hK1 K1
        refine wpPre_i rfl (fun K1 hK1 => ?_)
        rw [if_pos (by go_simp)]
        apply Exists.intro
        refine And.intro (fun wx hx => ?_) ?_
        · have e0 := below_fact hx rfl f0
          have e1 := below_fact hx rfl f1
          have e2 := below_fact hx rfl f2
          have e3 := below_fact hx rfl x0
          go_simp
          try rfl
        go_simp
        refine hK1 _ ?_
        clear hK1 K1
        refine wpPre_i rfl (fun K1 hK1 => ?_)
        rw [if_pos (by go_simp)]
        apply Exists.intro
        refine And.intro (fun wx hx => ?_) ?_
        · go_simp
          try rfl
        go_simp
        refine hK1 _ ?_
        clear hK1 K1
        refine wpPre_i rfl (fun K1 hK1 => ?_)
        rw [if_pos (by go_simp)]
        apply Exists.intro
        refine And.intro (fun wx hx => ?_) ?_
        · go_simp
          try rfl
        go_simp
        refine hK1 _ ?_
        clear hK1 K1
        refine wpPre_i rfl (fun K1 hK1 => ?_)
        rw [if_pos (by go_simp)]
        apply Exists.intro
        refine And.intro (fun wx hx => ?_) ?_
        · go_simp
          try rfl
        go_simp
        refine hK1 _ ?_
        clear hK1 K1
        refine wpPre_i rfl (fun K1 hK1 => ?_)
        rw [if_pos (by go_simp)]
        apply Exists.intro
        refine And.intro (fun wx hx => ?_) ?_
        · have e0 := below_fact hx rfl f0
          have e1 := below_fact hx rfl f1
          have e2 := below_fact hx rfl f2
          have e3 := below_fact hx rfl x0
          go_simp
          try rfl
        go_simp
        refine hK1 _ ?_
        clear hK1 K1
        refine wpPre_nil ?_
        refine wpTr_e rfl (fun K1 hK1 => ?_)
        refine step_callG (by first | rfl | go_simp) 12 #[.tmp 104, .tmp 108] _ rfl Try.f12 Try.func12 (by kernel_rfl) rfl #[.slice (some ⟨d, 0, none⟩) N N, .slice (data.item c).p N (data.item c).c] rfl _ HSb.out ?_
        rintro e1 w5 ⟨rfl, hw5⟩
        subst w5
        refine ⟨_, rfl, ?_⟩
        go_simp
        refine hK1 _ _ (fun h => by cases h) ?_
        clear hK1 K1
        refine wpPre_i rfl (fun K1 hK1 => ?_)
        rw [if_pos (by go_simp)]
        apply Exists.intro
        refine And.intro (fun wx hx => ?_) ?_
        · go_simp
          try rfl
        go_simp
        refine hK1 _ ?_
        clear hK1 K1
        refine wpPre_e rfl rfl (fun K1 hK1 => ?_)
        apply Exists.intro
        refine And.intro (fun wx hx => ?_) ?_
        · go_simp
          try rfl
        go_simp
        refine hK1 _ ?_
        clear hK1 K1
        refine wpPre_nil ?_
        refine wpTr_done ?_
        clear f0 f1 f2 x0 HSb
        go_wp2
        go_roundw
        case rel => exact ⟨s, c + 1, i + 1, rfl, by go_num, by go_num, HNs.out, by omega, by omega, by omega, HE4.out.below (Below.refl _ _).drew⟩
        case measure => simp [intOf]; omega
      case neg =>
        obtain rfl : c = s := by omega
        have HDn := hid (deliver_no HE.out 0 (by unfold inA; rw [inFl_len]; omega))
        have hcsF : ¬ (c : Int) < (c : Int) := by omega
        go_wp2_with fail
        refine HDn.out.mono ?_
        rintro e w4 ⟨rfl, hE4⟩
        obtain ⟨V, hV⟩ : ∃ V, V = w4.alloc (.cells #[.int .i64 0, .int .i64 0, .slice none 0 0] 32) := ⟨_, rfl⟩
        have hBV : Below w4.heap.size w4 V := by rw [hV]; exact (Below.refl _ _).alloc (Nat.le_refl _) _
        have HLs := hid (list_en (hE4.below hBV))
        have e0 : (inFl data c c).length = 0 := by rw [inFl_len]; omega
        rw [e0] at HLs
        have HV := hid hV
        clear hE4 HDn hV hBV e0
        go_wp2_with fail
        rw [← HV.out]
        refine HLs.out.mono ?_
        rintro e w5 ⟨g, U, rfl, _, _, _, hE5⟩
        have HE5 := hid hE5
        clear hE5 HLs
        go_wp2
        exact bodyPost_ret (v := .bool true) (by simp [results, Try.results3, go_sem]) rfl ⟨rfl, HE5.out.bel⟩
end Go.Proofs.Ytneomdiabcpemaa
