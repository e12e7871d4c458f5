import Derived.Test.YtgnamngnmbaeeaaDoorPack37
namespace Go.Proofs.YtgnamngnmbaeeaaDoor
open Go.RowKit
set_option maxRecDepth 8000
theorem tb_short : readP [1] = none := by decide
theorem at_len {L : List BS} {S : List (List Int)} (h : L.map BS.zs = S) : L.length = S.length := by rw [← h, List.length_map]
theorem stS3 {S : LS} {o : OpT} (h : o.kd = 3) : stS S o = stTake S o.i := by unfold stS; rw [if_neg (by omega), if_neg (by omega), if_pos h]
theorem stS4 {S : LS} {o : OpT} (h : o.kd = 4) : stS S o = stAck S o.i := by unfold stS; rw [if_neg (by omega), if_neg (by omega), if_neg (by omega), if_pos h]
set_option maxHeartbeats 64000000 in
theorem linkTwice_walk (l n m : Int) (s : LT OpT) (w : World) (hs : LT.In elOpT w (fun b => b < w.heap.size) s) (hT : Tab w) : Calls Tryd.prog 6 #[.int .i64 l, .int .i64 n, .int .i64 m, .slice s.p s.n s.c] w fun e w' => e = .returned (.bool true) ∧ Below w.heap.size w w' := by
  have HBe := hid (begin_any l n m w)
  have HS := hid hs
  have HT := hid hT
  have hnn := hs.nn
  clear hs hT
  by_cases hlong : 1048576 < s.n
  · have hl1 : (1048576 : Int) < (s.n : Int) := by omega
    clear hlong
    go_enter Tryd.func6, Tryd.ntmps6
    go_wp2
    exact bodyPost_ret (v := .bool true) (by simp [results, Tryd.results6, go_sem]) rfl ⟨rfl, Below.refl _ _⟩
  have hl1 : ¬ (1048576 : Int) < (s.n : Int) := by omega
  have HLg := hid (show s.n ≤ 1048576 by omega)
  go_enter Tryd.func6, Tryd.ntmps6
  go_wp2_with fail
  refine HBe.out.mono ?_
  rintro e w1 hq
  obtain ⟨la, he, hla, hb1, hC⟩ := hq
  obtain ⟨C1, hA1, ho1, hn1⟩ := hC (fun _ => 100) 10
  subst he
  have HBe2 := hid (begin_any l n m w1)
  have HA1 := hid hA1
  have Ho1 := hid ho1
  have HB1 := hid hb1
  clear hA1 ho1 hn1 hC hb1 HBe hlong
  go_wp2_with fail
  refine HBe2.out.mono ?_
  rintro e w2 hq
  obtain ⟨lb, he, hlb, hb2, hC⟩ := hq
  obtain ⟨C2, hB2, ho2, hn2⟩ := hC C1 20
  subst he
  have hs1 := HB1.out.size
  have hs2 := hb2.size
  have HTW0 : Hid (TW w.heap.size w2 C2 la lb (ls0 l n m) (ls0 l n m)) := ⟨HA1.out.but (But.ofBelow hb2) ho2, hB2, fun k hk => (ho2 k (by omega)).trans (Ho1.out k hk), by omega⟩
  have HBB : Hid (Below w.heap.size w w2) := HB1.out.trans (hb2.mono hs1)
  have hp0 : (ls0 l n m).P.length + s.n + 2 ≤ 1073741824 ∧ (ls0 l n m).ws.length + s.n + 2 ≤ 1073741824 := ⟨by show 0 + s.n + 2 ≤ _; omega, by show 1 + s.n + 2 ≤ _; omega⟩
  have HP0 := hid hp0
  clear hB2 ho2 hn2 hC hb2 hlb hla hs1 hs2 hp0 HBe2 hl1
  go_wp2_with fail
  go_loopw [11] (fun x wr => ∃ (i : Nat) (C' : Nat → Nat) (S' : LS), i ≤ s.n ∧ x = .int .i64 (i : Int) ∧ Inv S' ∧ Grw (ls0 l n m) S' i ∧ TW w.heap.size wr C' la lb S' S' ∧ Below w.heap.size w wr) (fun x _ => s.n - (intOf x).toNat)
  case atStart => exact ⟨0, C2, _, Nat.zero_le _, rfl, Inv.zero l n m, Grw.refl _, HTW0.out, HBB.out⟩
  case round =>
    obtain ⟨i, C3, S3, hi, rfl, hI3, hG3, hTW3, hBw3⟩ := hrel
    have HTW3 := hid hTW3
    have HI3 := hid hI3
    have HG3 := hid hG3
    have HBw3 := hid hBw3
    have hsz := stSz hG3 hi HP0.out.1 HP0.out.2
    by_cases hlt : i < s.n
    case pos =>
      as_aux_lemma =>
      have hlt' : (i : Int) < (s.n : Int) := by omega
      obtain ⟨bb, o, hpp, hbb, hSb, d0, d1, d2, d3, d4⟩ := HS.out.opc hlt
      have hc : ∀ {q : Nat} {v : Value}, w.cell? ⟨bb, q, none⟩ = some v → wr.cell? ⟨bb, q, none⟩ = some v := fun {q v} h => (World.cell?_of_block (a := ⟨bb, q, none⟩) (hBw3.block bb hSb)).trans h
      rw [hpp]
      have c0 := hc d0
      have c1 := hc d1
      have c2 := hc d2
      have c3 := hc d3
      have c4 := hc d4
      have hoi : OpT.In w (fun b => b < w.heap.size) (s.item i) := HS.out.each i hlt
      obtain ⟨op, hop⟩ : ∃ op, op = s.item i := ⟨_, rfl⟩
      rw [← hop] at c0 c1 c2 c3 c4 hoi
      have HOi := hid hoi
      obtain ⟨kd, s2, oi, bit, ⟨bp, bc, bz⟩⟩ := op
      dsimp only [BS.val] at c0 c1 c2 c3 c4
      obtain ⟨V1, hV1⟩ : ∃ V, V = wr.alloc (.cells #[.int .i64 kd, .bool s2, .int .i64 oi, .int .i64 bit, .slice bp bz.length bc] 46) := ⟨_, rfl⟩
      obtain ⟨ob, hob⟩ : ∃ b, b = wr.heap.size := ⟨_, rfl⟩
      have hbV : Below wr.heap.size wr V1 := by rw [hV1]; exact (Below.refl _ _).alloc (Nat.le_refl _) _
      have hOb : Box V1 ob #[.int .i64 kd, .bool s2, .int .i64 oi, .int .i64 bit, .slice bp bz.length bc] 46 := by rw [hV1, hob]; exact Box.new _ _ _
      have hTWV := hTW3.below hbV
      have hcob : upC wr C3 100 ob = 100 := by rw [hob]; exact upC_new (Nat.le_refl _)
      obtain ⟨C4, hC4⟩ : ∃ C, C = upC wr C3 100 := ⟨_, rfl⟩
      rw [← hC4] at hTWV hcob
      have hBV : Below w.heap.size w V1 := hBw3.trans (hbV.mono hTW3.le)
      have hoA : OpT.In V1 (fun k => ¬ In8 (upC V1 C4 (10 + 7)) 10 k) ⟨kd, s2, oi, bit, ⟨bp, bc, bz⟩⟩ := ⟨(hoi.b.below hBV).mono fun k hk hl => by unfold In8; rw [upC_old hl, hTWV.old k hk]; omega, hoi.kd, hoi.i, hoi.bit⟩
      have HSa := hid (step_any V1 (upC V1 C4 (10 + 7)) 10 la S3 hTWV.newA.1 hTWV.newA.2 (HT.out.later hBV) (hTWV.outA HT.out.1) hI3 (by omega) (by omega) _ hoA)
      unfold OpT.val at HSa
      dsimp only [BS.val] at HSa
      have HTWV := hid hTWV
      have HBV := hid hBV
      have HOb := hid hOb
      have HCob := hid hcob
      have HV1 := hid hV1
      have Hob := hid hob
      have k0 := hOb.cell 0
      have k1 := hOb.cell 1
      have k2 := hOb.cell 2
      have k3 := hOb.cell 3
      have k4 := hOb.cell 4
      have kl := hOb.lt
      simp at k0 k1 k2 k3 k4
      have HSz := hid hsz
      clear hI3 hG3 hTW3 hBw3 hsz d0 d1 d2 d3 d4 hc hoi hop hV1 hob hbV hOb hTWV hcob hC4 hBV hoA hpp hbb hSb
      go_upto_region 10 with fail
      rw [← HV1.out, ← Hob.out]
      clear c0 c1 c2 c3 c4
      go_wp2_with fail
      refine HSa.out.mono ?_
      rintro e w5 ⟨rfl, hq⟩
      obtain ⟨C5, hTW5, hB5, hc5, hf5⟩ := HTWV.out.moveA hq
      have hOb5 : Box w5 ob #[.int .i64 kd, .bool s2, .int .i64 oi, .int .i64 bit, .slice bp bz.length bc] 46 := (hf5 ob HOb.out.lt HCob.out).trans HOb.out
      have hcob5 : C5 ob = 100 := (hc5 ob HOb.out.lt).trans HCob.out
      have hBw5 : Below w.heap.size w w5 := HBV.out.trans hB5
      have hoB : OpT.In w5 (fun k => ¬ In8 (upC w5 C5 (20 + 7)) 20 k) ⟨kd, s2, oi, bit, ⟨bp, bc, bz⟩⟩ := ⟨(HOi.out.b.below hBw5).mono fun k hk hl => by unfold In8; rw [upC_old hl, hTW5.old k hk]; omega, HOi.out.kd, HOi.out.i, HOi.out.bit⟩
      have hsz := HSz.out
      have HSb := hid (step_any w5 (upC w5 C5 (20 + 7)) 20 lb S3 hTW5.newB.1 hTW5.newB.2 (HT.out.later hBw5) (hTW5.outB HT.out.1) HI3.out (by omega) (by omega) _ hoB)
      unfold OpT.val at HSb
      dsimp only [BS.val] at HSb
      have HTW5 := hid hTW5
      have HBw5 := hid hBw5
      have HOb5 := hid hOb5
      have HCob5 := hid hcob5
      clear k0 k1 k2 k3 k4 kl
      have k0 := hOb5.cell 0
      have k1 := hOb5.cell 1
      have k2 := hOb5.cell 2
      have k3 := hOb5.cell 3
      have k4 := hOb5.cell 4
      have kl := hOb5.lt
      simp at k0 k1 k2 k3 k4
      clear hq hTW5 hB5 hc5 hf5 hOb5 hcob5 hBw5 hoB hsz HSa
      go_wp2_with fail
      refine HSb.out.mono ?_
      rintro e w6 ⟨rfl, hq⟩
      obtain ⟨C6, hTW6, hB6, hc6, hf6⟩ := HTW5.out.moveB hq
      have hOb6 : Box w6 ob #[.int .i64 kd, .bool s2, .int .i64 oi, .int .i64 bit, .slice bp bz.length bc] 46 := (hf6 ob HOb5.out.lt HCob5.out).trans HOb5.out
      have hcob6 : C6 ob = 100 := (hc6 ob HOb5.out.lt).trans HCob5.out
      have HOb6 := hid hOb6
      have HCob6 := hid hcob6
      have hBw6 : Below w.heap.size w w6 := HBw5.out.trans hB6
      have hsz := HSz.out
      have hI6 := HI3.out.stS (by omega) (⟨kd, s2, oi, bit, ⟨bp, bc, bz⟩⟩ : OpT) HOi.out.b.byte
      have hG6 := HG3.out.trans (stS_grw S3 (⟨kd, s2, oi, bit, ⟨bp, bc, bz⟩⟩ : OpT))
      have hsz6 := stSz hG6 hlt HP0.out.1 HP0.out.2
      have HFit := hid HOi.out.i
      clear k0 k1 k2 k3 k4 kl
      have k0 := hOb6.cell 0
      have k2 := hOb6.cell 2
      have kl := hOb6.lt
      simp at k0 k2
      clear hq hB6 hc6 hf6 hOb6 hcob6 hsz HSb HOi
      by_cases h3 : kd = 3
      · subst h3
        rw [stS3 rfl] at hTW6 hI6 hG6 hsz6
        dsimp only at hTW6 hI6 hG6 hsz6
        by_cases hD : S3.D = []
        · as_aux_lemma =>
          have hst : stTake S3 oi = S3 := by unfold stTake; rw [if_pos hD]
          rw [hst] at hTW6 hI6 hG6
          have HTW := hid hTW6
          have HI := hid hI6
          have HG := hid hG6
          have HBw := hid hBw6
          have HTb := hid (HT.out.later hBw6)
          obtain ⟨sb, rb, dvb, nvb, bvb, pvb, wvb, Db, Nb, Pb, hMb⟩ := hTW6.b
          obtain ⟨dp, dc, hdv⟩ := hMb.d.slice
          rw [at_len hMb.hd, hD] at hdv
          subst hdv
          have e2 := hMb.bx.cell 2
          have el := hMb.bx.lt
          simp at e2
          clear hMb hTW6 hI6 hG6 hBw6 hst hD hsz6
          have hLA := HTW.out.a
          obtain ⟨sa, ra, dva, nva, bva, pva, wva, Da, Na, Pa, hMa⟩ := hLA
          have hLB := HTW.out.b
          obtain ⟨sb, rb, dvb, nvb, bvb, pvb, wvb, Db, Nb, Pb, hMb⟩ := hLB
          have a0 := hMa.bx.cell 0
          have a1 := hMa.bx.cell 1
          have al := hMa.bx.lt
          have b0 := hMb.bx.cell 0
          have b1 := hMb.bx.cell 1
          have bl := hMb.bx.lt
          simp at a0 a1 b0 b1
          have HAa := hid (answer_any w6.drew _ ra _ (hMa.r.below (Below.refl _ _).drew fun _ _ h => h) (HTb.out.later (Below.refl _ _).drew))
          have HMa := hid hMa
          have HMb := hid hMb
          clear hMa hMb
          go_wp2_with fail
          go_upto_region 20 with fail
          refine wp_region_calmPG 60 (fun wx => Below w6.heap.size w6 wx) [(0, true), (1, true), (2, true), (3, false), (5, true), (6, true), (7, true), (8, false)] (.one 4 true [] (.one 9 true [] (.one 10 true [(11, true), (12, true), (13, true), (14, true), (15, true), (16, false), (18, true), (19, true), (20, true), (21, false)] (.one 17 true [] (.one 22 true [(23, true), (24, true), (25, true), (26, true), (27, true), (28, true), (29, false), (31, true), (32, true), (33, true), (34, false)] (.one 30 true [] (.one 35 true [(36, true), (37, true)] .done))))))) (by kernel_rfl) (by kernel_rfl) (Below.refl _ _).drew ?_
          refine wpPre_e rfl rfl (fun K1 hK1 => ?_)
          apply Exists.intro
          refine And.intro (fun wx hx => ?_) ?_
          · go_simp
            try rfl
          go_simp
          refine hK1 _ ?_
          clear hK1 K1
          refine wpPre_e rfl rfl (fun K1 hK1 => ?_)
          apply Exists.intro
          refine And.intro (fun wx hx => ?_) ?_
          · go_simp
            try rfl
          go_simp
          refine hK1 _ ?_
          clear hK1 K1
          refine wpPre_e rfl rfl (fun K1 hK1 => ?_)
          apply Exists.intro
          refine And.intro (fun wx hx => ?_) ?_
          · go_simp
            try rfl
          go_simp
          refine hK1 _ ?_
          clear hK1 K1
          refine wpPre_e rfl rfl (fun K1 hK1 => ?_)
          apply Exists.intro
          refine And.intro (fun wx hx => ?_) ?_
          · have e0 := below_fact hx rfl a0
            have e1 := below_fact hx rfl a1
            have e2 := below_fact hx rfl b0
            have e3 := below_fact hx rfl b1
            go_simp
            try rfl
          go_simp
          refine hK1 _ ?_
          clear hK1 K1
          refine wpPre_e rfl rfl (fun K1 hK1 => ?_)
          apply Exists.intro
          refine And.intro (fun wx hx => ?_) ?_
          · go_simp
            try rfl
          go_simp
          refine hK1 _ ?_
          clear hK1 K1
          refine wpPre_e rfl rfl (fun K1 hK1 => ?_)
          apply Exists.intro
          refine And.intro (fun wx hx => ?_) ?_
          · go_simp
            try rfl
          go_simp
          refine hK1 _ ?_
          clear hK1 K1
          refine wpPre_e rfl rfl (fun K1 hK1 => ?_)
          apply Exists.intro
          refine And.intro (fun wx hx => ?_) ?_
          · go_simp
            try rfl
          go_simp
          refine hK1 _ ?_
          clear hK1 K1
          refine wpPre_e rfl rfl (fun K1 hK1 => ?_)
          apply Exists.intro
          refine And.intro (fun wx hx => ?_) ?_
          · have e0 := below_fact hx rfl a0
            have e1 := below_fact hx rfl a1
            have e2 := below_fact hx rfl b0
            have e3 := below_fact hx rfl b1
            go_simp
            try rfl
          go_simp
          refine hK1 _ ?_
          clear hK1 K1
          refine wpPre_nil ?_
          refine wpTg_e rfl (fun K1 hK1 => ?_)
          refine step_callG (by first | rfl | go_simp) 23 #[.tmp 121] _ rfl Tryd.f23 Tryd.func23 (by kernel_rfl) rfl #[.pointer (some ⟨ra, 0, none⟩)] rfl _ (HAa.out) ?_
          rintro e_ w21 ⟨y1, rfl, hy1, hi1, hb1⟩
          refine ⟨_, rfl, ?_⟩
          have HB21 : Hid (Below w6.heap.size w6 w21) := (Below.refl w6.heap.size w6).drew.trans (hb1.mono (Nat.le_refl _))
          have HY1 := hid (And.intro hy1 hi1)
          have HAb := hid (answer_any w21 _ rb _ (HMb.out.r.below HB21.out fun _ _ h => h) (HTb.out.later HB21.out))
          obtain ⟨y1v, hy1v⟩ : ∃ v, v = y1.val := ⟨_, rfl⟩
          rw [← hy1v]
          have HY1v := hid hy1v
          clear hy1 hi1 hb1 hy1v
          go_simp
          refine hK1 _ _ _ HB21.out (fun _ _ h => h) ?_
          clear hK1 K1
          refine wpPre_nil ?_
          refine wpTg_e rfl (fun K1 hK1 => ?_)
          refine step_callG (by first | rfl | go_simp) 23 #[.tmp 126] _ rfl Tryd.f23 Tryd.func23 (by kernel_rfl) rfl #[.pointer (some ⟨rb, 0, none⟩)] rfl _ (HAb.out) ?_
          rintro e_ w22 ⟨y2, rfl, hy2, hi2, hb2⟩
          refine ⟨_, rfl, ?_⟩
          have HB22 : Hid (Below w6.heap.size w6 w22) := HB21.out.trans (hb2.mono HB21.out.size)
          have hsame := sameB_any y1 y2 w22 _ _ (HY1.out.2.below hb2) hi2
          rw [show decide (y1.zs = y2.zs) = true from decide_eq_true (HY1.out.1.trans hy2.symm), ← HY1v.out] at hsame
          obtain ⟨y2v, hy2v⟩ : ∃ v, v = y2.val := ⟨_, rfl⟩
          rw [← hy2v] at hsame ⊢
          have HSm := hid hsame
          have HOa := hid (open_any w22 _ sa _ (HMa.out.s.below HB22.out fun _ _ h => h))
          have HOb := hid (open_any w22 _ sb _ (HMb.out.s.below HB22.out fun _ _ h => h))
          have HWa := hid (word_any w22 _ sa _ (HMa.out.s.below HB22.out fun _ _ h => h))
          have HWb := hid (word_any w22 _ sb _ (HMb.out.s.below HB22.out fun _ _ h => h))
          clear hy2 hi2 hb2 hsame hy2v
          go_simp
          refine hK1 _ _ _ HB22.out (fun _ _ h => h) ?_
          clear hK1 K1
          refine wpPre_nil ?_
          refine wpTg_e rfl (fun K1 hK1 => ?_)
          refine step_callG (by first | rfl | go_simp) 22 #[.tmp 122, .tmp 127] _ rfl Tryd.f22 Tryd.func22 (by kernel_rfl) rfl #[y1v, y2v] rfl _ (HSm.out) ?_
          rintro e_ w23 ⟨rfl, rfl⟩
          refine ⟨_, rfl, ?_⟩
          go_simp
          refine hK1 _ _ _ HB22.out (fun _ _ h => h) ?_
          clear hK1 K1
          refine wpPre_e rfl rfl (fun K1 hK1 => ?_)
          apply Exists.intro
          refine And.intro (fun wx hx => ?_) ?_
          · go_simp
            try rfl
          go_simp
          refine hK1 _ ?_
          clear hK1 K1
          refine wpPre_e rfl rfl (fun K1 hK1 => ?_)
          apply Exists.intro
          refine And.intro (fun wx hx => ?_) ?_
          · go_simp
            try rfl
          go_simp
          refine hK1 _ ?_
          clear hK1 K1
          refine wpPre_i rfl (fun K1 hK1 => ?_)
          rw [if_pos (by go_simp)]
          apply Exists.intro
          refine And.intro (fun wx hx => ?_) ?_
          · go_simp
            try rfl
          go_simp
          refine hK1 _ ?_
          clear hK1 K1
          refine wpPre_i rfl (fun K1 hK1 => ?_)
          rw [if_pos (by go_simp)]
          apply Exists.intro
          refine And.intro (fun wx hx => ?_) ?_
          · go_simp
            try rfl
          go_simp
          refine hK1 _ ?_
          clear hK1 K1
          refine wpPre_i rfl (fun K1 hK1 => ?_)
          rw [if_pos (by go_simp)]
          apply Exists.intro
          refine And.intro (fun wx hx => ?_) ?_
          · go_simp
            try rfl
          go_simp
          refine hK1 _ ?_
          clear hK1 K1
          refine wpPre_i rfl (fun K1 hK1 => ?_)
          rw [if_pos (by go_simp)]
          apply Exists.intro
          refine And.intro (fun wx hx => ?_) ?_
          · have e0 := below_fact hx rfl a0
            have e1 := below_fact hx rfl a1
            have e2 := below_fact hx rfl b0
            have e3 := below_fact hx rfl b1
            go_simp
            try rfl
          go_simp
          refine hK1 _ ?_
          clear hK1 K1
          refine wpPre_i rfl (fun K1 hK1 => ?_)
          rw [if_pos (by go_simp)]
          apply Exists.intro
          refine And.intro (fun wx hx => ?_) ?_
          · go_simp
            try rfl
          go_simp
          refine hK1 _ ?_
          clear hK1 K1
          refine wpPre_i rfl (fun K1 hK1 => ?_)
          rw [if_pos (by go_simp)]
          apply Exists.intro
          refine And.intro (fun wx hx => ?_) ?_
          · go_simp
            try rfl
          go_simp
          refine hK1 _ ?_
          clear hK1 K1
          refine wpPre_i rfl (fun K1 hK1 => ?_)
          rw [if_pos (by go_simp)]
          apply Exists.intro
          refine And.intro (fun wx hx => ?_) ?_
          · go_simp
            try rfl
          go_simp
          refine hK1 _ ?_
          clear hK1 K1
          refine wpPre_i rfl (fun K1 hK1 => ?_)
          rw [if_pos (by go_simp)]
          apply Exists.intro
          refine And.intro (fun wx hx => ?_) ?_
          · have e0 := below_fact hx rfl a0
            have e1 := below_fact hx rfl a1
            have e2 := below_fact hx rfl b0
            have e3 := below_fact hx rfl b1
            go_simp
            try rfl
          go_simp
          refine hK1 _ ?_
          clear hK1 K1
          refine wpPre_nil ?_
          refine wpTg_e rfl (fun K1 hK1 => ?_)
          refine step_callG (by first | rfl | go_simp) 10 #[.tmp 134] _ rfl Tryd.f10 Tryd.func10 (by kernel_rfl) rfl #[.pointer (some ⟨sa, 0, none⟩)] rfl _ (HOa.out) ?_
          rintro e_ w24 ⟨rfl, rfl⟩
          refine ⟨_, rfl, ?_⟩
          go_simp
          refine hK1 _ _ _ HB22.out (fun _ _ h => h) ?_
          clear hK1 K1
          refine wpPre_nil ?_
          refine wpTg_e rfl (fun K1 hK1 => ?_)
          refine step_callG (by first | rfl | go_simp) 10 #[.tmp 139] _ rfl Tryd.f10 Tryd.func10 (by kernel_rfl) rfl #[.pointer (some ⟨sb, 0, none⟩)] rfl _ (HOb.out) ?_
          rintro e_ w25 ⟨rfl, rfl⟩
          refine ⟨_, rfl, ?_⟩
          go_simp
          refine hK1 _ _ _ HB22.out (fun _ _ h => h) ?_
          clear hK1 K1
          refine wpPre_i rfl (fun K1 hK1 => ?_)
          rw [if_pos (by go_simp)]
          apply Exists.intro
          refine And.intro (fun wx hx => ?_) ?_
          · go_simp
            try rfl
          go_simp
          refine hK1 _ ?_
          clear hK1 K1
          refine wpPre_e rfl rfl (fun K1 hK1 => ?_)
          apply Exists.intro
          refine And.intro (fun wx hx => ?_) ?_
          · go_simp
            try rfl
          go_simp
          refine hK1 _ ?_
          clear hK1 K1
          refine wpPre_e rfl rfl (fun K1 hK1 => ?_)
          apply Exists.intro
          refine And.intro (fun wx hx => ?_) ?_
          · go_simp
            try rfl
          go_simp
          refine hK1 _ ?_
          clear hK1 K1
          refine wpPre_i rfl (fun K1 hK1 => ?_)
          rw [if_pos (by go_simp)]
          apply Exists.intro
          refine And.intro (fun wx hx => ?_) ?_
          · go_simp
            try rfl
          go_simp
          refine hK1 _ ?_
          clear hK1 K1
          refine wpPre_i rfl (fun K1 hK1 => ?_)
          rw [if_pos (by go_simp)]
          apply Exists.intro
          refine And.intro (fun wx hx => ?_) ?_
          · go_simp
            try rfl
          go_simp
          refine hK1 _ ?_
          clear hK1 K1
          refine wpPre_i rfl (fun K1 hK1 => ?_)
          rw [if_pos (by go_simp)]
          apply Exists.intro
          refine And.intro (fun wx hx => ?_) ?_
          · go_simp
            try rfl
          go_simp
          refine hK1 _ ?_
          clear hK1 K1
          refine wpPre_i rfl (fun K1 hK1 => ?_)
          rw [if_pos (by go_simp)]
          apply Exists.intro
          refine And.intro (fun wx hx => ?_) ?_
          · have e0 := below_fact hx rfl a0
            have e1 := below_fact hx rfl a1
            have e2 := below_fact hx rfl b0
            have e3 := below_fact hx rfl b1
            go_simp
            try rfl
          go_simp
          refine hK1 _ ?_
          clear hK1 K1
          refine wpPre_i rfl (fun K1 hK1 => ?_)
          rw [if_pos (by go_simp)]
          apply Exists.intro
          refine And.intro (fun wx hx => ?_) ?_
          · go_simp
            try rfl
          go_simp
          refine hK1 _ ?_
          clear hK1 K1
          refine wpPre_i rfl (fun K1 hK1 => ?_)
          rw [if_pos (by go_simp)]
          apply Exists.intro
          refine And.intro (fun wx hx => ?_) ?_
          · go_simp
            try rfl
          go_simp
          refine hK1 _ ?_
          clear hK1 K1
          refine wpPre_i rfl (fun K1 hK1 => ?_)
          rw [if_pos (by go_simp)]
          apply Exists.intro
          refine And.intro (fun wx hx => ?_) ?_
          · go_simp
            try rfl
          go_simp
          refine hK1 _ ?_
          clear hK1 K1
          refine wpPre_i rfl (fun K1 hK1 => ?_)
          rw [if_pos (by go_simp)]
          apply Exists.intro
          refine And.intro (fun wx hx => ?_) ?_
          · have e0 := below_fact hx rfl a0
            have e1 := below_fact hx rfl a1
            have e2 := below_fact hx rfl b0
            have e3 := below_fact hx rfl b1
            go_simp
            try rfl
          go_simp
          refine hK1 _ ?_
          clear hK1 K1
          refine wpPre_nil ?_
          refine wpTg_e rfl (fun K1 hK1 => ?_)
          refine step_callG (by first | rfl | go_simp) 18 #[.tmp 147] _ rfl Tryd.f18 Tryd.func18 (by kernel_rfl) rfl #[.pointer (some ⟨sa, 0, none⟩)] rfl _ (HWa.out) ?_
          rintro e_ w26 ⟨rfl, rfl⟩
          refine ⟨_, rfl, ?_⟩
          go_simp
          refine hK1 _ _ _ HB22.out (fun _ _ h => h) ?_
          clear hK1 K1
          refine wpPre_nil ?_
          refine wpTg_e rfl (fun K1 hK1 => ?_)
          refine step_callG (by first | rfl | go_simp) 18 #[.tmp 152] _ rfl Tryd.f18 Tryd.func18 (by kernel_rfl) rfl #[.pointer (some ⟨sb, 0, none⟩)] rfl _ (HWb.out) ?_
          rintro e_ w27 ⟨rfl, rfl⟩
          refine ⟨_, rfl, ?_⟩
          go_simp
          refine hK1 _ _ _ HB22.out (fun _ _ h => h) ?_
          clear hK1 K1
          refine wpPre_i rfl (fun K1 hK1 => ?_)
          rw [if_pos (by go_simp)]
          apply Exists.intro
          refine And.intro (fun wx hx => ?_) ?_
          · go_simp
            try rfl
          go_simp
          refine hK1 _ ?_
          clear hK1 K1
          refine wpPre_e rfl rfl (fun K1 hK1 => ?_)
          apply Exists.intro
          refine And.intro (fun wx hx => ?_) ?_
          · go_simp
            try rfl
          go_simp
          refine hK1 _ ?_
          clear hK1 K1
          refine wpPre_nil ?_
          refine wpTg_done ?_
          have HBz := HB22
          clear a0 a1 al b0 b1 bl
          go_wp2_with fail
          go_roundw
          case rel => exact ⟨i + 1, _, _, by omega, by go_num, HI.out, HG.out, HTW.out.below HBz.out, HBw.out.trans (HBz.out.mono HTW.out.le)⟩
          case measure => simp [intOf]; omega
        · as_aux_lemma =>
          have hst : stTake S3 oi = { S3 with R := takeN S3.R (atZ S3.D oi), N := addP S3.N (pktA (takeN S3.R (atZ S3.D oi))) } := by unfold stTake; rw [if_neg hD]
          obtain ⟨S1, hS1⟩ : ∃ S, S = stTake S3 oi := ⟨_, rfl⟩
          rw [← hS1] at hTW6 hI6 hG6
          have hzd := HI3.out.d _ (atZ_mem hD oi)
          have htw := takeN_twice HI3.out (by have := HSz.out; omega) hzd
          have hR1 : S1.R = takeN S3.R (atZ S3.D oi) := by rw [hS1, hst]
          have hD1 : S1.D = S3.D := by rw [hS1, hst]
          rw [← hR1] at htw
          have HI := hid hI6
          have HG := hid hG6
          have HTb6 := hid (HT.out.later hBw6)
          have HOut := hid (hTW6.outB HT.out.1)
          have HTW6 := hid hTW6
          have HBw6 := hid hBw6
          obtain ⟨⟨sb, rb, dvb, nvb, bvb, pvb, wvb, Db, Nb, Pb, hMb⟩, hnB⟩ := hTW6.newB
          obtain ⟨Cb, hCb⟩ : ∃ C, C = upC w6 C6 (20 + 7) := ⟨_, rfl⟩
          rw [← hCb] at hMb hnB HOut
          have HX6 := hid (LX.refl hMb hnB)
          obtain ⟨dp, dc, hdv⟩ := hMb.d.slice
          have hzz : (atP Db oi).zs = atZ S3.D oi := by rw [atP_zs, hMb.hd, hD1]
          obtain ⟨m0, hm0⟩ : ∃ m, m = Db.length := ⟨_, rfl⟩
          have hmp : 0 < m0 := by rw [hm0, at_len hMb.hd, hD1]; exact List.length_pos_iff.2 hD
          have hmp' : (0 : Int) < (m0 : Int) := by omega
          rw [← hm0] at hdv
          have e2 := hMb.bx.cell 2
          have e1 := hMb.bx.cell 1
          have el := hMb.bx.lt
          simp at e1 e2
          have HAt := hid (at_any w6.drew (Zc w6 Cb (20 + 3)) lb 2 dvb Db el e2 (hMb.d.below (Below.refl _ _).drew fun _ _ h => h) oi HFit.out)
          rw [hdv] at e2
          have hun : unpE S1.R.ln 68 (atP Db oi).zs = 0 := by rw [hzz]; exact htw.2
          have HTT : Hid (takeN S1.R (atP Db oi).zs = S1.R) := by show _ = _; rw [hzz]; exact htw.1
          obtain ⟨xv, hxv⟩ : ∃ v, v = (atP Db oi).val := ⟨_, rfl⟩
          rw [← hxv] at HAt
          have HXv := hid hxv
          have HUn := hid hun
          have HCb := hid hCb
          clear hTW6 hI6 hG6 hBw6 hst hD hsz6 hS1 hzd htw hR1 hD1 hMb hnB hCb hzz hm0 hmp hdv hun hxv
          go_wp2_with fail
          go_upto_region 13 with fail
          refine wp_region_calmG 30 (fun wx => Below w6.heap.size w6 wx) [(0, true), (1, true), (2, true), (3, false), (4, true), (5, true), (6, true), (7, true), (8, false)] (.one 9 true [] (.one 10 false [(11, true), (12, true), (13, true), (14, true), (15, true)] .done)) (by kernel_rfl) (by kernel_rfl) (Below.refl _ _).drew ?_
          refine wpPre_e rfl rfl (fun K1 hK1 => ?_)
          apply Exists.intro
          refine And.intro (fun wx hx => ?_) ?_
          · go_simp
            try rfl
          go_simp
          refine hK1 _ ?_
          clear hK1 K1
          refine wpPre_e rfl rfl (fun K1 hK1 => ?_)
          apply Exists.intro
          refine And.intro (fun wx hx => ?_) ?_
          · go_simp
            try rfl
          go_simp
          refine hK1 _ ?_
          clear hK1 K1
          refine wpPre_e rfl rfl (fun K1 hK1 => ?_)
          apply Exists.intro
          refine And.intro (fun wx hx => ?_) ?_
          · go_simp
            try rfl
          go_simp
          refine hK1 _ ?_
          clear hK1 K1
          refine wpPre_e rfl rfl (fun K1 hK1 => ?_)
          apply Exists.intro
          refine And.intro (fun wx hx => ?_) ?_
          · have e0 := below_fact hx rfl e1
            have e1 := below_fact hx rfl k2
            go_simp
            try rfl
          go_simp
          refine hK1 _ ?_
          clear hK1 K1
          refine wpPre_e rfl rfl (fun K1 hK1 => ?_)
          apply Exists.intro
          refine And.intro (fun wx hx => ?_) ?_
          · go_simp
            try rfl
          go_simp
          refine hK1 _ ?_
          clear hK1 K1
          refine wpPre_e rfl rfl (fun K1 hK1 => ?_)
          apply Exists.intro
          refine And.intro (fun wx hx => ?_) ?_
          · go_simp
            try rfl
          go_simp
          refine hK1 _ ?_
          clear hK1 K1
          refine wpPre_e rfl rfl (fun K1 hK1 => ?_)
          apply Exists.intro
          refine And.intro (fun wx hx => ?_) ?_
          · go_simp
            try rfl
          go_simp
          refine hK1 _ ?_
          clear hK1 K1
          refine wpPre_e rfl rfl (fun K1 hK1 => ?_)
          apply Exists.intro
          refine And.intro (fun wx hx => ?_) ?_
          · go_simp
            try rfl
          go_simp
          refine hK1 _ ?_
          clear hK1 K1
          refine wpPre_e rfl rfl (fun K1 hK1 => ?_)
          apply Exists.intro
          refine And.intro (fun wx hx => ?_) ?_
          · have e0 := below_fact hx rfl e1
            have e1 := below_fact hx rfl k2
            go_simp
            try rfl
          go_simp
          refine hK1 _ ?_
          clear hK1 K1
          refine wpPre_nil ?_
          refine wpTg_e rfl (fun K1 hK1 => ?_)
          refine step_callG (by first | rfl | go_simp) 15 #[.tmp 74, .tmp 76] _ rfl Tryd.f15 Tryd.func15 (by kernel_rfl) rfl #[.pointer (some ⟨lb, 2, none⟩), .int .i64 oi] rfl _ (HAt.out) ?_
          rintro e_ w7 ⟨rfl, hb7⟩
          refine ⟨_, rfl, ?_⟩
          have hb12 : Below w6.heap.size w6 w7 := (Below.refl _ _).drew.trans (hb7.mono (Nat.le_refl _))
          obtain ⟨C7, hC7⟩ : ∃ D, D = upC w6 Cb (20 + 7) := ⟨_, rfl⟩
          have hX7 := HX6.out.below hb12
          rw [← hC7] at hX7
          have hIn : (atP Db oi).In w7 (fun k => C7 k = 20 + 3 ∧ k < w7.heap.size) := ((atP_in hX7.m.d oi).mono fun k hk hl => ⟨Classical.byContradiction fun e => hk ⟨hl, e⟩, hl⟩)
          have HTk := hid (take_any w7 (Zc w7 C7 (20 + 2)) rb S1.R hX7.m.r zc_lt (atP Db oi) _ hIn (hX7.tab HTb6.out HOut.out) (hX7.z0 HTb6.out HOut.out (by omega)))
          rw [← HXv.out] at HTk
          have HX7 := hid hX7
          have HB12 := hid hb12
          clear hb7 hb12 hC7 hX7 hIn
          go_simp
          refine hK1 _ _ _ HB12.out (fun _ _ h => h) ?_
          clear hK1 K1
          refine wpPre_nil ?_
          refine wpTg_e rfl (fun K1 hK1 => ?_)
          refine step_callG (by first | rfl | go_simp) 21 #[.tmp 71, .tmp 77] _ rfl Tryd.f21 Tryd.func21 (by kernel_rfl) rfl #[.pointer (some ⟨rb, 0, none⟩), xv] rfl _ (HTk.out) ?_
          rintro e_ w8 ⟨_, hq⟩
          obtain ⟨y, N3, he, hyz, hN1, hN2, hyi, hI3, hF3⟩ := hq HUn.out
          subst he
          refine ⟨_, rfl, ?_⟩
          have HYi := hid (And.intro hyz (And.intro hyi (And.intro hI3 (And.intro hF3 (And.intro hN1 hN2)))))
          clear hyz hyi hI3 hF3 hq hN1 hN2
          go_simp
          refine hK1 _ _ (fun wx => Below w8.heap.size w8 wx) (Below.refl _ _) (fun h => by cases h) ?_
          clear hK1 K1
          refine wpPre_e rfl rfl (fun K1 hK1 => ?_)
          apply Exists.intro
          refine And.intro (fun wx hx => ?_) ?_
          · go_simp
            try rfl
          go_simp
          refine hK1 _ ?_
          clear hK1 K1
          refine wpPre_e rfl rfl (fun K1 hK1 => ?_)
          apply Exists.intro
          refine And.intro (fun wx hx => ?_) ?_
          · go_simp
            try rfl
          go_simp
          refine hK1 _ ?_
          clear hK1 K1
          refine wpPre_e rfl rfl (fun K1 hK1 => ?_)
          apply Exists.intro
          refine And.intro (fun wx hx => ?_) ?_
          · go_simp
            try rfl
          go_simp
          refine hK1 _ ?_
          clear hK1 K1
          refine wpPre_e rfl rfl (fun K1 hK1 => ?_)
          apply Exists.intro
          refine And.intro (fun wx hx => ?_) ?_
          · go_simp
            try rfl
          go_simp
          refine hK1 _ ?_
          clear hK1 K1
          refine wpPre_e rfl rfl (fun K1 hK1 => ?_)
          apply Exists.intro
          refine And.intro (fun wx hx => ?_) ?_
          · go_simp
            try rfl
          go_simp
          refine hK1 _ ?_
          clear hK1 K1
          refine wpPre_nil ?_
          refine wpTg_done ?_
          obtain ⟨hyz, hyi, hI3, hF3, hN1, hN2⟩ := HYi.out
          obtain ⟨C8, hX8, hC8⟩ := HX7.out.rcvC hN1 hF3 hI3
          rw [show ({ S1 with R := takeN S1.R (atP Db oi).zs } : LS) = S1 by rw [HTT.out]] at hX8
          have hlq := hX8.lq
          rw [HCb.out] at hlq
          obtain ⟨C9, hTW8, hB8, _, hf8⟩ := HTW6.out.moveB hlq
          have hOb8 : Box w8 ob #[.int .i64 3, .bool s2, .int .i64 oi, .int .i64 bit, .slice bp bz.length bc] 46 := (hf8 ob HOb6.out.lt HCob6.out).trans HOb6.out
          have HOb8 := hid hOb8
          have HTW8 := hid hTW8
          have hBw8 : Below w.heap.size w w8 := HBw6.out.trans hB8
          have HBw8 := hid hBw8
          have HY := hid hyi
          have HYz : Hid (y.zs = pktA S1.R) := by rw [HTT.out] at hyz; exact hyz
          have HAn := hid (answer_any w8 _ rb S1.R hX8.m.r (HT.out.later hBw8))
          have f1 := hX8.m.bx.cell 1
          have fl := hX8.m.bx.lt
          simp at f1
          obtain ⟨yv, hyv⟩ : ∃ v, v = y.val := ⟨_, rfl⟩
          rw [← hyv]
          have HYv := hid hyv
          clear hyz hyi hI3 hF3 hN1 hN2 hX8 hC8 hlq hTW8 hB8 hBw8 hyv HYi e1 e2 el k0 k2 kl hf8 hOb8
          go_wp2_with fail
          refine HAn.out.mono ?_
          rintro e w9 ⟨y2, rfl, hy2, hi2, hb9⟩
          have hsame := sameB_any y y2 w9 _ _ (HY.out.below hb9) hi2
          rw [show decide (y.zs = y2.zs) = true from decide_eq_true (HYz.out.trans hy2.symm), ← HYv.out] at hsame
          have HSm := hid hsame
          have HTW := hid (HTW8.out.below hb9)
          have hOb9 := HOb8.out.below hb9
          have k0 := hOb9.cell 0
          have kl := hOb9.lt
          simp at k0
          have HBw : Hid (Below w.heap.size w w9) := HBw8.out.trans (hb9.mono HTW8.out.le)
          have HTb := hid (HT.out.later HBw.out)
          obtain ⟨y2v, hy2v⟩ : ∃ v, v = y2.val := ⟨_, rfl⟩
          rw [← hy2v] at HSm ⊢
          clear hy2 hi2 hb9 hsame hy2v HAn f1 fl hOb9
          go_wp2_with fail
          refine HSm.out.mono ?_
          rintro e w10 ⟨rfl, h10⟩
          rw [h10]
          clear h10 HSm
          have hLA := HTW.out.a
          obtain ⟨sa, ra, dva, nva, bva, pva, wva, Da, Na, Pa, hMa⟩ := hLA
          have hLB := HTW.out.b
          obtain ⟨sb, rb, dvb, nvb, bvb, pvb, wvb, Db, Nb, Pb, hMb⟩ := hLB
          have a0 := hMa.bx.cell 0
          have a1 := hMa.bx.cell 1
          have al := hMa.bx.lt
          have b0 := hMb.bx.cell 0
          have b1 := hMb.bx.cell 1
          have bl := hMb.bx.lt
          simp at a0 a1 b0 b1
          have HAa := hid (answer_any w9.drew _ ra _ (hMa.r.below (Below.refl _ _).drew fun _ _ h => h) (HTb.out.later (Below.refl _ _).drew))
          have HMa := hid hMa
          have HMb := hid hMb
          clear hMa hMb
          go_wp2_with fail
          go_upto_region 20 with fail
          refine wp_region_calmPG 60 (fun wx => Below w9.heap.size w9 wx) [(0, true), (1, true), (2, true), (3, false), (5, true), (6, true), (7, true), (8, false)] (.one 4 true [] (.one 9 true [] (.one 10 true [(11, true), (12, true), (13, true), (14, true), (15, true), (16, false), (18, true), (19, true), (20, true), (21, false)] (.one 17 true [] (.one 22 true [(23, true), (24, true), (25, true), (26, true), (27, true), (28, true), (29, false), (31, true), (32, true), (33, true), (34, false)] (.one 30 true [] (.one 35 true [(36, true), (37, true)] .done))))))) (by kernel_rfl) (by kernel_rfl) (Below.refl _ _).drew ?_
          refine wpPre_e rfl rfl (fun K1 hK1 => ?_)
          apply Exists.intro
          refine And.intro (fun wx hx => ?_) ?_
          · go_simp
            try rfl
          go_simp
          refine hK1 _ ?_
          clear hK1 K1
          refine wpPre_e rfl rfl (fun K1 hK1 => ?_)
          apply Exists.intro
          refine And.intro (fun wx hx => ?_) ?_
          · go_simp
            try rfl
          go_simp
          refine hK1 _ ?_
          clear hK1 K1
          refine wpPre_e rfl rfl (fun K1 hK1 => ?_)
          apply Exists.intro
          refine And.intro (fun wx hx => ?_) ?_
          · go_simp
            try rfl
          go_simp
          refine hK1 _ ?_
          clear hK1 K1
          refine wpPre_e rfl rfl (fun K1 hK1 => ?_)
          apply Exists.intro
          refine And.intro (fun wx hx => ?_) ?_
          · have e0 := below_fact hx rfl a0
            have e1 := below_fact hx rfl a1
            have e2 := below_fact hx rfl b0
            have e3 := below_fact hx rfl b1
            go_simp
            try rfl
          go_simp
          refine hK1 _ ?_
          clear hK1 K1
          refine wpPre_e rfl rfl (fun K1 hK1 => ?_)
          apply Exists.intro
          refine And.intro (fun wx hx => ?_) ?_
          · go_simp
            try rfl
          go_simp
          refine hK1 _ ?_
          clear hK1 K1
          refine wpPre_e rfl rfl (fun K1 hK1 => ?_)
          apply Exists.intro
          refine And.intro (fun wx hx => ?_) ?_
          · go_simp
            try rfl
          go_simp
          refine hK1 _ ?_
          clear hK1 K1
          refine wpPre_e rfl rfl (fun K1 hK1 => ?_)
          apply Exists.intro
          refine And.intro (fun wx hx => ?_) ?_
          · go_simp
            try rfl
          go_simp
          refine hK1 _ ?_
          clear hK1 K1
          refine wpPre_e rfl rfl (fun K1 hK1 => ?_)
          apply Exists.intro
          refine And.intro (fun wx hx => ?_) ?_
          · have e0 := below_fact hx rfl a0
            have e1 := below_fact hx rfl a1
            have e2 := below_fact hx rfl b0
            have e3 := below_fact hx rfl b1
            go_simp
            try rfl
          go_simp
          refine hK1 _ ?_
          clear hK1 K1
          refine wpPre_nil ?_
          refine wpTg_e rfl (fun K1 hK1 => ?_)
          refine step_callG (by first | rfl | go_simp) 23 #[.tmp 121] _ rfl Tryd.f23 Tryd.func23 (by kernel_rfl) rfl #[.pointer (some ⟨ra, 0, none⟩)] rfl _ (HAa.out) ?_
          rintro e_ w21 ⟨y1, rfl, hy1, hi1, hb1⟩
          refine ⟨_, rfl, ?_⟩
          have HB21 : Hid (Below w9.heap.size w9 w21) := (Below.refl w9.heap.size w9).drew.trans (hb1.mono (Nat.le_refl _))
          have HY1 := hid (And.intro hy1 hi1)
          have HAb := hid (answer_any w21 _ rb _ (HMb.out.r.below HB21.out fun _ _ h => h) (HTb.out.later HB21.out))
          obtain ⟨y1v, hy1v⟩ : ∃ v, v = y1.val := ⟨_, rfl⟩
          rw [← hy1v]
          have HY1v := hid hy1v
          clear hy1 hi1 hb1 hy1v
          go_simp
          refine hK1 _ _ _ HB21.out (fun _ _ h => h) ?_
          clear hK1 K1
          refine wpPre_nil ?_
          refine wpTg_e rfl (fun K1 hK1 => ?_)
          refine step_callG (by first | rfl | go_simp) 23 #[.tmp 126] _ rfl Tryd.f23 Tryd.func23 (by kernel_rfl) rfl #[.pointer (some ⟨rb, 0, none⟩)] rfl _ (HAb.out) ?_
          rintro e_ w22 ⟨y2, rfl, hy2, hi2, hb2⟩
          refine ⟨_, rfl, ?_⟩
          have HB22 : Hid (Below w9.heap.size w9 w22) := HB21.out.trans (hb2.mono HB21.out.size)
          have hsame := sameB_any y1 y2 w22 _ _ (HY1.out.2.below hb2) hi2
          rw [show decide (y1.zs = y2.zs) = true from decide_eq_true (HY1.out.1.trans hy2.symm), ← HY1v.out] at hsame
          obtain ⟨y2v, hy2v⟩ : ∃ v, v = y2.val := ⟨_, rfl⟩
          rw [← hy2v] at hsame ⊢
          have HSm := hid hsame
          have HOa := hid (open_any w22 _ sa _ (HMa.out.s.below HB22.out fun _ _ h => h))
          have HOb := hid (open_any w22 _ sb _ (HMb.out.s.below HB22.out fun _ _ h => h))
          have HWa := hid (word_any w22 _ sa _ (HMa.out.s.below HB22.out fun _ _ h => h))
          have HWb := hid (word_any w22 _ sb _ (HMb.out.s.below HB22.out fun _ _ h => h))
          clear hy2 hi2 hb2 hsame hy2v
          go_simp
          refine hK1 _ _ _ HB22.out (fun _ _ h => h) ?_
          clear hK1 K1
          refine wpPre_nil ?_
          refine wpTg_e rfl (fun K1 hK1 => ?_)
          refine step_callG (by first | rfl | go_simp) 22 #[.tmp 122, .tmp 127] _ rfl Tryd.f22 Tryd.func22 (by kernel_rfl) rfl #[y1v, y2v] rfl _ (HSm.out) ?_
          rintro e_ w23 ⟨rfl, rfl⟩
          refine ⟨_, rfl, ?_⟩
          go_simp
          refine hK1 _ _ _ HB22.out (fun _ _ h => h) ?_
          clear hK1 K1
          refine wpPre_e rfl rfl (fun K1 hK1 => ?_)
          apply Exists.intro
          refine And.intro (fun wx hx => ?_) ?_
          · go_simp
            try rfl
          go_simp
          refine hK1 _ ?_
          clear hK1 K1
          refine wpPre_e rfl rfl (fun K1 hK1 => ?_)
          apply Exists.intro
          refine And.intro (fun wx hx => ?_) ?_
          · go_simp
            try rfl
          go_simp
          refine hK1 _ ?_
          clear hK1 K1
          refine wpPre_i rfl (fun K1 hK1 => ?_)
          rw [if_pos (by go_simp)]
          apply Exists.intro
          refine And.intro (fun wx hx => ?_) ?_
          · go_simp
            try rfl
          go_simp
          refine hK1 _ ?_
          clear hK1 K1
          refine wpPre_i rfl (fun K1 hK1 => ?_)
          rw [if_pos (by go_simp)]
          apply Exists.intro
          refine And.intro (fun wx hx => ?_) ?_
          · go_simp
            try rfl
          go_simp
          refine hK1 _ ?_
          clear hK1 K1
          refine wpPre_i rfl (fun K1 hK1 => ?_)
          rw [if_pos (by go_simp)]
          apply Exists.intro
          refine And.intro (fun wx hx => ?_) ?_
          · go_simp
            try rfl
          go_simp
          refine hK1 _ ?_
          clear hK1 K1
          refine wpPre_i rfl (fun K1 hK1 => ?_)
          rw [if_pos (by go_simp)]
          apply Exists.intro
          refine And.intro (fun wx hx => ?_) ?_
          · have e0 := below_fact hx rfl a0
            have e1 := below_fact hx rfl a1
            have e2 := below_fact hx rfl b0
            have e3 := below_fact hx rfl b1
            go_simp
            try rfl
          go_simp
          refine hK1 _ ?_
          clear hK1 K1
          refine wpPre_i rfl (fun K1 hK1 => ?_)
          rw [if_pos (by go_simp)]
          apply Exists.intro
          refine And.intro (fun wx hx => ?_) ?_
          · go_simp
            try rfl
          go_simp
          refine hK1 _ ?_
          clear hK1 K1
          refine wpPre_i rfl (fun K1 hK1 => ?_)
          rw [if_pos (by go_simp)]
          apply Exists.intro
          refine And.intro (fun wx hx => ?_) ?_
          · go_simp
            try rfl
          go_simp
          refine hK1 _ ?_
          clear hK1 K1
          refine wpPre_i rfl (fun K1 hK1 => ?_)
          rw [if_pos (by go_simp)]
          apply Exists.intro
          refine And.intro (fun wx hx => ?_) ?_
          · go_simp
            try rfl
          go_simp
          refine hK1 _ ?_
          clear hK1 K1
          refine wpPre_i rfl (fun K1 hK1 => ?_)
          rw [if_pos (by go_simp)]
          apply Exists.intro
          refine And.intro (fun wx hx => ?_) ?_
          · have e0 := below_fact hx rfl a0
            have e1 := below_fact hx rfl a1
            have e2 := below_fact hx rfl b0
            have e3 := below_fact hx rfl b1
            go_simp
            try rfl
          go_simp
          refine hK1 _ ?_
          clear hK1 K1
          refine wpPre_nil ?_
          refine wpTg_e rfl (fun K1 hK1 => ?_)
          refine step_callG (by first | rfl | go_simp) 10 #[.tmp 134] _ rfl Tryd.f10 Tryd.func10 (by kernel_rfl) rfl #[.pointer (some ⟨sa, 0, none⟩)] rfl _ (HOa.out) ?_
          rintro e_ w24 ⟨rfl, rfl⟩
          refine ⟨_, rfl, ?_⟩
          go_simp
          refine hK1 _ _ _ HB22.out (fun _ _ h => h) ?_
          clear hK1 K1
          refine wpPre_nil ?_
          refine wpTg_e rfl (fun K1 hK1 => ?_)
          refine step_callG (by first | rfl | go_simp) 10 #[.tmp 139] _ rfl Tryd.f10 Tryd.func10 (by kernel_rfl) rfl #[.pointer (some ⟨sb, 0, none⟩)] rfl _ (HOb.out) ?_
          rintro e_ w25 ⟨rfl, rfl⟩
          refine ⟨_, rfl, ?_⟩
          go_simp
          refine hK1 _ _ _ HB22.out (fun _ _ h => h) ?_
          clear hK1 K1
          refine wpPre_i rfl (fun K1 hK1 => ?_)
          rw [if_pos (by go_simp)]
          apply Exists.intro
          refine And.intro (fun wx hx => ?_) ?_
          · go_simp
            try rfl
          go_simp
          refine hK1 _ ?_
          clear hK1 K1
          refine wpPre_e rfl rfl (fun K1 hK1 => ?_)
          apply Exists.intro
          refine And.intro (fun wx hx => ?_) ?_
          · go_simp
            try rfl
          go_simp
          refine hK1 _ ?_
          clear hK1 K1
          refine wpPre_e rfl rfl (fun K1 hK1 => ?_)
          apply Exists.intro
          refine And.intro (fun wx hx => ?_) ?_
          · go_simp
            try rfl
          go_simp
          refine hK1 _ ?_
          clear hK1 K1
          refine wpPre_i rfl (fun K1 hK1 => ?_)
          rw [if_pos (by go_simp)]
          apply Exists.intro
          refine And.intro (fun wx hx => ?_) ?_
          · go_simp
            try rfl
          go_simp
          refine hK1 _ ?_
          clear hK1 K1
          refine wpPre_i rfl (fun K1 hK1 => ?_)
          rw [if_pos (by go_simp)]
          apply Exists.intro
          refine And.intro (fun wx hx => ?_) ?_
          · go_simp
            try rfl
          go_simp
          refine hK1 _ ?_
          clear hK1 K1
          refine wpPre_i rfl (fun K1 hK1 => ?_)
          rw [if_pos (by go_simp)]
          apply Exists.intro
          refine And.intro (fun wx hx => ?_) ?_
          · go_simp
            try rfl
          go_simp
          refine hK1 _ ?_
          clear hK1 K1
          refine wpPre_i rfl (fun K1 hK1 => ?_)
          rw [if_pos (by go_simp)]
          apply Exists.intro
          refine And.intro (fun wx hx => ?_) ?_
          · have e0 := below_fact hx rfl a0
            have e1 := below_fact hx rfl a1
            have e2 := below_fact hx rfl b0
            have e3 := below_fact hx rfl b1
            go_simp
            try rfl
          go_simp
          refine hK1 _ ?_
          clear hK1 K1
          refine wpPre_i rfl (fun K1 hK1 => ?_)
          rw [if_pos (by go_simp)]
          apply Exists.intro
          refine And.intro (fun wx hx => ?_) ?_
          · go_simp
            try rfl
          go_simp
          refine hK1 _ ?_
          clear hK1 K1
          refine wpPre_i rfl (fun K1 hK1 => ?_)
          rw [if_pos (by go_simp)]
          apply Exists.intro
          refine And.intro (fun wx hx => ?_) ?_
          · go_simp
            try rfl
          go_simp
          refine hK1 _ ?_
          clear hK1 K1
          refine wpPre_i rfl (fun K1 hK1 => ?_)
          rw [if_pos (by go_simp)]
          apply Exists.intro
          refine And.intro (fun wx hx => ?_) ?_
          · go_simp
            try rfl
          go_simp
          refine hK1 _ ?_
          clear hK1 K1
          refine wpPre_i rfl (fun K1 hK1 => ?_)
          rw [if_pos (by go_simp)]
          apply Exists.intro
          refine And.intro (fun wx hx => ?_) ?_
          · have e0 := below_fact hx rfl a0
            have e1 := below_fact hx rfl a1
            have e2 := below_fact hx rfl b0
            have e3 := below_fact hx rfl b1
            go_simp
            try rfl
          go_simp
          refine hK1 _ ?_
          clear hK1 K1
          refine wpPre_nil ?_
          refine wpTg_e rfl (fun K1 hK1 => ?_)
          refine step_callG (by first | rfl | go_simp) 18 #[.tmp 147] _ rfl Tryd.f18 Tryd.func18 (by kernel_rfl) rfl #[.pointer (some ⟨sa, 0, none⟩)] rfl _ (HWa.out) ?_
          rintro e_ w26 ⟨rfl, rfl⟩
          refine ⟨_, rfl, ?_⟩
          go_simp
          refine hK1 _ _ _ HB22.out (fun _ _ h => h) ?_
          clear hK1 K1
          refine wpPre_nil ?_
          refine wpTg_e rfl (fun K1 hK1 => ?_)
          refine step_callG (by first | rfl | go_simp) 18 #[.tmp 152] _ rfl Tryd.f18 Tryd.func18 (by kernel_rfl) rfl #[.pointer (some ⟨sb, 0, none⟩)] rfl _ (HWb.out) ?_
          rintro e_ w27 ⟨rfl, rfl⟩
          refine ⟨_, rfl, ?_⟩
          go_simp
          refine hK1 _ _ _ HB22.out (fun _ _ h => h) ?_
          clear hK1 K1
          refine wpPre_i rfl (fun K1 hK1 => ?_)
          rw [if_pos (by go_simp)]
          apply Exists.intro
          refine And.intro (fun wx hx => ?_) ?_
          · go_simp
            try rfl
          go_simp
          refine hK1 _ ?_
          clear hK1 K1
          refine wpPre_e rfl rfl (fun K1 hK1 => ?_)
          apply Exists.intro
          refine And.intro (fun wx hx => ?_) ?_
          · go_simp
            try rfl
          go_simp
          refine hK1 _ ?_
          clear hK1 K1
          refine wpPre_nil ?_
          refine wpTg_done ?_
          have HBz := HB22
          clear a0 a1 al b0 b1 bl
          go_wp2_with fail
          go_roundw
          case rel => exact ⟨i + 1, _, _, by omega, by go_num, HI.out, HG.out, HTW.out.below HBz.out, HBw.out.trans (HBz.out.mono HTW.out.le)⟩
          case measure => simp [intOf]; omega
      · by_cases h4 : kd = 4
        · subst h4
          clear h3
          rw [stS4 rfl] at hTW6 hI6 hG6 hsz6
          dsimp only at hTW6 hI6 hG6 hsz6
          by_cases hD : S3.N = []
          · as_aux_lemma =>
            have hst : stAck S3 oi = S3 := by unfold stAck; rw [if_pos hD]
            rw [hst] at hTW6 hI6 hG6
            have HTW := hid hTW6
            have HI := hid hI6
            have HG := hid hG6
            have HBw := hid hBw6
            have HTb := hid (HT.out.later hBw6)
            obtain ⟨sb, rb, dvb, nvb, bvb, pvb, wvb, Db, Nb, Pb, hMb⟩ := hTW6.b
            obtain ⟨dp, dc, hdv⟩ := hMb.n.slice
            rw [at_len hMb.hn, hD] at hdv
            subst hdv
            have e2 := hMb.bx.cell 3
            have el := hMb.bx.lt
            simp at e2
            clear hMb hTW6 hI6 hG6 hBw6 hst hD hsz6
            have hLA := HTW.out.a
            obtain ⟨sa, ra, dva, nva, bva, pva, wva, Da, Na, Pa, hMa⟩ := hLA
            have hLB := HTW.out.b
            obtain ⟨sb, rb, dvb, nvb, bvb, pvb, wvb, Db, Nb, Pb, hMb⟩ := hLB
            have a0 := hMa.bx.cell 0
            have a1 := hMa.bx.cell 1
            have al := hMa.bx.lt
            have b0 := hMb.bx.cell 0
            have b1 := hMb.bx.cell 1
            have bl := hMb.bx.lt
            simp at a0 a1 b0 b1
            have HAa := hid (answer_any w6.drew _ ra _ (hMa.r.below (Below.refl _ _).drew fun _ _ h => h) (HTb.out.later (Below.refl _ _).drew))
            have HMa := hid hMa
            have HMb := hid hMb
            clear hMa hMb
            go_wp2_with fail
            go_upto_region 20 with fail
            refine wp_region_calmPG 60 (fun wx => Below w6.heap.size w6 wx) [(0, true), (1, true), (2, true), (3, false), (5, true), (6, true), (7, true), (8, false)] (.one 4 true [] (.one 9 true [] (.one 10 true [(11, true), (12, true), (13, true), (14, true), (15, true), (16, false), (18, true), (19, true), (20, true), (21, false)] (.one 17 true [] (.one 22 true [(23, true), (24, true), (25, true), (26, true), (27, true), (28, true), (29, false), (31, true), (32, true), (33, true), (34, false)] (.one 30 true [] (.one 35 true [(36, true), (37, true)] .done))))))) (by kernel_rfl) (by kernel_rfl) (Below.refl _ _).drew ?_
            refine wpPre_e rfl rfl (fun K1 hK1 => ?_)
            apply Exists.intro
            refine And.intro (fun wx hx => ?_) ?_
            · go_simp
              try rfl
            go_simp
            refine hK1 _ ?_
            clear hK1 K1
            refine wpPre_e rfl rfl (fun K1 hK1 => ?_)
            apply Exists.intro
            refine And.intro (fun wx hx => ?_) ?_
            · go_simp
              try rfl
            go_simp
            refine hK1 _ ?_
            clear hK1 K1
            refine wpPre_e rfl rfl (fun K1 hK1 => ?_)
            apply Exists.intro
            refine And.intro (fun wx hx => ?_) ?_
            · go_simp
              try rfl
            go_simp
            refine hK1 _ ?_
            clear hK1 K1
            refine wpPre_e rfl rfl (fun K1 hK1 => ?_)
            apply Exists.intro
            refine And.intro (fun wx hx => ?_) ?_
            · have e0 := below_fact hx rfl a0
              have e1 := below_fact hx rfl a1
              have e2 := below_fact hx rfl b0
              have e3 := below_fact hx rfl b1
              go_simp
              try rfl
            go_simp
            refine hK1 _ ?_
            clear hK1 K1
            refine wpPre_e rfl rfl (fun K1 hK1 => ?_)
            apply Exists.intro
            refine And.intro (fun wx hx => ?_) ?_
            · go_simp
              try rfl
            go_simp
            refine hK1 _ ?_
            clear hK1 K1
            refine wpPre_e rfl rfl (fun K1 hK1 => ?_)
            apply Exists.intro
            refine And.intro (fun wx hx => ?_) ?_
            · go_simp
              try rfl
            go_simp
            refine hK1 _ ?_
            clear hK1 K1
            refine wpPre_e rfl rfl (fun K1 hK1 => ?_)
            apply Exists.intro
            refine And.intro (fun wx hx => ?_) ?_
            · go_simp
              try rfl
            go_simp
            refine hK1 _ ?_
            clear hK1 K1
            refine wpPre_e rfl rfl (fun K1 hK1 => ?_)
            apply Exists.intro
            refine And.intro (fun wx hx => ?_) ?_
            · have e0 := below_fact hx rfl a0
              have e1 := below_fact hx rfl a1
              have e2 := below_fact hx rfl b0
              have e3 := below_fact hx rfl b1
              go_simp
              try rfl
            go_simp
            refine hK1 _ ?_
            clear hK1 K1
            refine wpPre_nil ?_
            refine wpTg_e rfl (fun K1 hK1 => ?_)
            refine step_callG (by first | rfl | go_simp) 23 #[.tmp 121] _ rfl Tryd.f23 Tryd.func23 (by kernel_rfl) rfl #[.pointer (some ⟨ra, 0, none⟩)] rfl _ (HAa.out) ?_
            rintro e_ w21 ⟨y1, rfl, hy1, hi1, hb1⟩
            refine ⟨_, rfl, ?_⟩
            have HB21 : Hid (Below w6.heap.size w6 w21) := (Below.refl w6.heap.size w6).drew.trans (hb1.mono (Nat.le_refl _))
            have HY1 := hid (And.intro hy1 hi1)
            have HAb := hid (answer_any w21 _ rb _ (HMb.out.r.below HB21.out fun _ _ h => h) (HTb.out.later HB21.out))
            obtain ⟨y1v, hy1v⟩ : ∃ v, v = y1.val := ⟨_, rfl⟩
            rw [← hy1v]
            have HY1v := hid hy1v
            clear hy1 hi1 hb1 hy1v
            go_simp
            refine hK1 _ _ _ HB21.out (fun _ _ h => h) ?_
            clear hK1 K1
            refine wpPre_nil ?_
            refine wpTg_e rfl (fun K1 hK1 => ?_)
            refine step_callG (by first | rfl | go_simp) 23 #[.tmp 126] _ rfl Tryd.f23 Tryd.func23 (by kernel_rfl) rfl #[.pointer (some ⟨rb, 0, none⟩)] rfl _ (HAb.out) ?_
            rintro e_ w22 ⟨y2, rfl, hy2, hi2, hb2⟩
            refine ⟨_, rfl, ?_⟩
            have HB22 : Hid (Below w6.heap.size w6 w22) := HB21.out.trans (hb2.mono HB21.out.size)
            have hsame := sameB_any y1 y2 w22 _ _ (HY1.out.2.below hb2) hi2
            rw [show decide (y1.zs = y2.zs) = true from decide_eq_true (HY1.out.1.trans hy2.symm), ← HY1v.out] at hsame
            obtain ⟨y2v, hy2v⟩ : ∃ v, v = y2.val := ⟨_, rfl⟩
            rw [← hy2v] at hsame ⊢
            have HSm := hid hsame
            have HOa := hid (open_any w22 _ sa _ (HMa.out.s.below HB22.out fun _ _ h => h))
            have HOb := hid (open_any w22 _ sb _ (HMb.out.s.below HB22.out fun _ _ h => h))
            have HWa := hid (word_any w22 _ sa _ (HMa.out.s.below HB22.out fun _ _ h => h))
            have HWb := hid (word_any w22 _ sb _ (HMb.out.s.below HB22.out fun _ _ h => h))
            clear hy2 hi2 hb2 hsame hy2v
            go_simp
            refine hK1 _ _ _ HB22.out (fun _ _ h => h) ?_
            clear hK1 K1
            refine wpPre_nil ?_
            refine wpTg_e rfl (fun K1 hK1 => ?_)
            refine step_callG (by first | rfl | go_simp) 22 #[.tmp 122, .tmp 127] _ rfl Tryd.f22 Tryd.func22 (by kernel_rfl) rfl #[y1v, y2v] rfl _ (HSm.out) ?_
            rintro e_ w23 ⟨rfl, rfl⟩
            refine ⟨_, rfl, ?_⟩
            go_simp
            refine hK1 _ _ _ HB22.out (fun _ _ h => h) ?_
            clear hK1 K1
            refine wpPre_e rfl rfl (fun K1 hK1 => ?_)
            apply Exists.intro
            refine And.intro (fun wx hx => ?_) ?_
            · go_simp
              try rfl
            go_simp
            refine hK1 _ ?_
            clear hK1 K1
            refine wpPre_e rfl rfl (fun K1 hK1 => ?_)
            apply Exists.intro
            refine And.intro (fun wx hx => ?_) ?_
            · go_simp
              try rfl
            go_simp
            refine hK1 _ ?_
            clear hK1 K1
            refine wpPre_i rfl (fun K1 hK1 => ?_)
            rw [if_pos (by go_simp)]
            apply Exists.intro
            refine And.intro (fun wx hx => ?_) ?_
            · go_simp
              try rfl
            go_simp
            refine hK1 _ ?_
            clear hK1 K1
            refine wpPre_i rfl (fun K1 hK1 => ?_)
            rw [if_pos (by go_simp)]
            apply Exists.intro
            refine And.intro (fun wx hx => ?_) ?_
            · go_simp
              try rfl
            go_simp
            refine hK1 _ ?_
            clear hK1 K1
            refine wpPre_i rfl (fun K1 hK1 => ?_)
            rw [if_pos (by go_simp)]
            apply Exists.intro
            refine And.intro (fun wx hx => ?_) ?_
            · go_simp
              try rfl
            go_simp
            refine hK1 _ ?_
            clear hK1 K1
            refine wpPre_i rfl (fun K1 hK1 => ?_)
            rw [if_pos (by go_simp)]
            apply Exists.intro
            refine And.intro (fun wx hx => ?_) ?_
            · have e0 := below_fact hx rfl a0
              have e1 := below_fact hx rfl a1
              have e2 := below_fact hx rfl b0
              have e3 := below_fact hx rfl b1
              go_simp
              try rfl
            go_simp
            refine hK1 _ ?_
            clear hK1 K1
            refine wpPre_i rfl (fun K1 hK1 => ?_)
            rw [if_pos (by go_simp)]
            apply Exists.intro
            refine And.intro (fun wx hx => ?_) ?_
            · go_simp
              try rfl
            go_simp
            refine hK1 _ ?_
            clear hK1 K1
            refine wpPre_i rfl (fun K1 hK1 => ?_)
            rw [if_pos (by go_simp)]
            apply Exists.intro
            refine And.intro (fun wx hx => ?_) ?_
            · go_simp
              try rfl
            go_simp
            refine hK1 _ ?_
            clear hK1 K1
            refine wpPre_i rfl (fun K1 hK1 => ?_)
            rw [if_pos (by go_simp)]
            apply Exists.intro
            refine And.intro (fun wx hx => ?_) ?_
            · go_simp
              try rfl
            go_simp
            refine hK1 _ ?_
            clear hK1 K1
            refine wpPre_i rfl (fun K1 hK1 => ?_)
            rw [if_pos (by go_simp)]
            apply Exists.intro
            refine And.intro (fun wx hx => ?_) ?_
            · have e0 := below_fact hx rfl a0
              have e1 := below_fact hx rfl a1
              have e2 := below_fact hx rfl b0
              have e3 := below_fact hx rfl b1
              go_simp
              try rfl
            go_simp
            refine hK1 _ ?_
            clear hK1 K1
            refine wpPre_nil ?_
            refine wpTg_e rfl (fun K1 hK1 => ?_)
            refine step_callG (by first | rfl | go_simp) 10 #[.tmp 134] _ rfl Tryd.f10 Tryd.func10 (by kernel_rfl) rfl #[.pointer (some ⟨sa, 0, none⟩)] rfl _ (HOa.out) ?_
            rintro e_ w24 ⟨rfl, rfl⟩
            refine ⟨_, rfl, ?_⟩
            go_simp
            refine hK1 _ _ _ HB22.out (fun _ _ h => h) ?_
            clear hK1 K1
            refine wpPre_nil ?_
            refine wpTg_e rfl (fun K1 hK1 => ?_)
            refine step_callG (by first | rfl | go_simp) 10 #[.tmp 139] _ rfl Tryd.f10 Tryd.func10 (by kernel_rfl) rfl #[.pointer (some ⟨sb, 0, none⟩)] rfl _ (HOb.out) ?_
            rintro e_ w25 ⟨rfl, rfl⟩
            refine ⟨_, rfl, ?_⟩
            go_simp
            refine hK1 _ _ _ HB22.out (fun _ _ h => h) ?_
            clear hK1 K1
            refine wpPre_i rfl (fun K1 hK1 => ?_)
            rw [if_pos (by go_simp)]
            apply Exists.intro
            refine And.intro (fun wx hx => ?_) ?_
            · go_simp
              try rfl
            go_simp
            refine hK1 _ ?_
            clear hK1 K1
            refine wpPre_e rfl rfl (fun K1 hK1 => ?_)
            apply Exists.intro
            refine And.intro (fun wx hx => ?_) ?_
            · go_simp
              try rfl
            go_simp
            refine hK1 _ ?_
            clear hK1 K1
            refine wpPre_e rfl rfl (fun K1 hK1 => ?_)
            apply Exists.intro
            refine And.intro (fun wx hx => ?_) ?_
            · go_simp
              try rfl
            go_simp
            refine hK1 _ ?_
            clear hK1 K1
            refine wpPre_i rfl (fun K1 hK1 => ?_)
            rw [if_pos (by go_simp)]
            apply Exists.intro
            refine And.intro (fun wx hx => ?_) ?_
            · go_simp
              try rfl
            go_simp
            refine hK1 _ ?_
            clear hK1 K1
            refine wpPre_i rfl (fun K1 hK1 => ?_)
            rw [if_pos (by go_simp)]
            apply Exists.intro
            refine And.intro (fun wx hx => ?_) ?_
            · go_simp
              try rfl
            go_simp
            refine hK1 _ ?_
            clear hK1 K1
            refine wpPre_i rfl (fun K1 hK1 => ?_)
            rw [if_pos (by go_simp)]
            apply Exists.intro
            refine And.intro (fun wx hx => ?_) ?_
            · go_simp
              try rfl
            go_simp
            refine hK1 _ ?_
            clear hK1 K1
            refine wpPre_i rfl (fun K1 hK1 => ?_)
            rw [if_pos (by go_simp)]
            apply Exists.intro
            refine And.intro (fun wx hx => ?_) ?_
            · have e0 := below_fact hx rfl a0
              have e1 := below_fact hx rfl a1
              have e2 := below_fact hx rfl b0
              have e3 := below_fact hx rfl b1
              go_simp
              try rfl
            go_simp
            refine hK1 _ ?_
            clear hK1 K1
            refine wpPre_i rfl (fun K1 hK1 => ?_)
            rw [if_pos (by go_simp)]
            apply Exists.intro
            refine And.intro (fun wx hx => ?_) ?_
            · go_simp
              try rfl
            go_simp
            refine hK1 _ ?_
            clear hK1 K1
            refine wpPre_i rfl (fun K1 hK1 => ?_)
            rw [if_pos (by go_simp)]
            apply Exists.intro
            refine And.intro (fun wx hx => ?_) ?_
            · go_simp
              try rfl
            go_simp
            refine hK1 _ ?_
            clear hK1 K1
            refine wpPre_i rfl (fun K1 hK1 => ?_)
            rw [if_pos (by go_simp)]
            apply Exists.intro
            refine And.intro (fun wx hx => ?_) ?_
            · go_simp
              try rfl
            go_simp
            refine hK1 _ ?_
            clear hK1 K1
            refine wpPre_i rfl (fun K1 hK1 => ?_)
            rw [if_pos (by go_simp)]
            apply Exists.intro
            refine And.intro (fun wx hx => ?_) ?_
            · have e0 := below_fact hx rfl a0
              have e1 := below_fact hx rfl a1
              have e2 := below_fact hx rfl b0
              have e3 := below_fact hx rfl b1
              go_simp
              try rfl
            go_simp
            refine hK1 _ ?_
            clear hK1 K1
            refine wpPre_nil ?_
            refine wpTg_e rfl (fun K1 hK1 => ?_)
            refine step_callG (by first | rfl | go_simp) 18 #[.tmp 147] _ rfl Tryd.f18 Tryd.func18 (by kernel_rfl) rfl #[.pointer (some ⟨sa, 0, none⟩)] rfl _ (HWa.out) ?_
            rintro e_ w26 ⟨rfl, rfl⟩
            refine ⟨_, rfl, ?_⟩
            go_simp
            refine hK1 _ _ _ HB22.out (fun _ _ h => h) ?_
            clear hK1 K1
            refine wpPre_nil ?_
            refine wpTg_e rfl (fun K1 hK1 => ?_)
            refine step_callG (by first | rfl | go_simp) 18 #[.tmp 152] _ rfl Tryd.f18 Tryd.func18 (by kernel_rfl) rfl #[.pointer (some ⟨sb, 0, none⟩)] rfl _ (HWb.out) ?_
            rintro e_ w27 ⟨rfl, rfl⟩
            refine ⟨_, rfl, ?_⟩
            go_simp
            refine hK1 _ _ _ HB22.out (fun _ _ h => h) ?_
            clear hK1 K1
            refine wpPre_i rfl (fun K1 hK1 => ?_)
            rw [if_pos (by go_simp)]
            apply Exists.intro
            refine And.intro (fun wx hx => ?_) ?_
            · go_simp
              try rfl
            go_simp
            refine hK1 _ ?_
            clear hK1 K1
            refine wpPre_e rfl rfl (fun K1 hK1 => ?_)
            apply Exists.intro
            refine And.intro (fun wx hx => ?_) ?_
            · go_simp
              try rfl
            go_simp
            refine hK1 _ ?_
            clear hK1 K1
            refine wpPre_nil ?_
            refine wpTg_done ?_
            have HBz := HB22
            clear a0 a1 al b0 b1 bl
            go_wp2_with fail
            go_roundw
            case rel => exact ⟨i + 1, _, _, by omega, by go_num, HI.out, HG.out, HTW.out.below HBz.out, HBw.out.trans (HBz.out.mono HTW.out.le)⟩
            case measure => simp [intOf]; omega
          · as_aux_lemma =>
            have hst : stAck S3 oi = { S3 with A := ackN S3.A (atZ S3.N oi) } := by unfold stAck; rw [if_neg hD]
            obtain ⟨S1, hS1⟩ : ∃ S, S = stAck S3 oi := ⟨_, rfl⟩
            rw [← hS1] at hTW6 hI6 hG6
            have hzd := HI3.out.n _ (atZ_mem hD oi)
            have htw := ackN_twice HI3.out (by have := HSz.out; omega) hzd
            have hR1 : S1.A = ackN S3.A (atZ S3.N oi) := by rw [hS1, hst]
            have hD1 : S1.N = S3.N := by rw [hS1, hst]
            rw [← hR1] at htw
            have HI := hid hI6
            have HG := hid hG6
            have HOut := hid (hTW6.outB HT.out.1)
            have HTW6 := hid hTW6
            have HBw6 := hid hBw6
            have HTb6 := hid (HT.out.later hBw6)
            obtain ⟨⟨sb, rb, dvb, nvb, bvb, pvb, wvb, Db, Nb, Pb, hMb⟩, hnB⟩ := hTW6.newB
            obtain ⟨Cb, hCb⟩ : ∃ C, C = upC w6 C6 (20 + 7) := ⟨_, rfl⟩
            rw [← hCb] at hMb hnB HOut
            have HX6 := hid (LX.refl hMb hnB)
            obtain ⟨dp, dc, hdv⟩ := hMb.n.slice
            have hzz : (atP Nb oi).zs = atZ S3.N oi := by rw [atP_zs, hMb.hn, hD1]
            obtain ⟨m0, hm0⟩ : ∃ m, m = Nb.length := ⟨_, rfl⟩
            have hmp : 0 < m0 := by rw [hm0, at_len hMb.hn, hD1]; exact List.length_pos_iff.2 hD
            have hmp' : (0 : Int) < (m0 : Int) := by omega
            rw [← hm0] at hdv
            have e2 := hMb.bx.cell 3
            have e1 := hMb.bx.cell 0
            have el := hMb.bx.lt
            simp at e1 e2
            have HAt := hid (at_any w6.drew (Zc w6 Cb (20 + 4)) lb 3 nvb Nb el e2 (hMb.n.below (Below.refl _ _).drew fun _ _ h => h) oi HFit.out)
            rw [hdv] at e2
            have hun : ackE S1.A (atP Nb oi).zs = 0 := by rw [hzz]; exact htw.2
            have HTT : Hid (ackN S1.A (atP Nb oi).zs = S1.A) := by show _ = _; rw [hzz]; exact htw.1
            obtain ⟨xv, hxv⟩ : ∃ v, v = (atP Nb oi).val := ⟨_, rfl⟩
            rw [← hxv] at HAt
            have HXv := hid hxv
            have HUn := hid hun
            have HCb := hid hCb
            clear hTW6 hI6 hG6 hBw6 hst hD hsz6 hS1 hzd htw hR1 hD1 hMb hnB hCb hzz hm0 hmp hdv hun hxv
            go_wp2_with fail
            go_upto_region 17 with fail
            refine wp_region_calmG 30 (fun wx => Below w6.heap.size w6 wx) [(0, true), (1, true), (2, true), (3, false), (4, true), (5, true), (6, true), (7, true), (8, false)] (.one 9 true [] (.one 10 false [(11, true)] .done)) (by kernel_rfl) (by kernel_rfl) (Below.refl _ _).drew ?_
            refine wpPre_e rfl rfl (fun K1 hK1 => ?_)
            apply Exists.intro
            refine And.intro (fun wx hx => ?_) ?_
            · go_simp
              try rfl
            go_simp
            refine hK1 _ ?_
            clear hK1 K1
            refine wpPre_e rfl rfl (fun K1 hK1 => ?_)
            apply Exists.intro
            refine And.intro (fun wx hx => ?_) ?_
            · go_simp
              try rfl
            go_simp
            refine hK1 _ ?_
            clear hK1 K1
            refine wpPre_e rfl rfl (fun K1 hK1 => ?_)
            apply Exists.intro
            refine And.intro (fun wx hx => ?_) ?_
            · go_simp
              try rfl
            go_simp
            refine hK1 _ ?_
            clear hK1 K1
            refine wpPre_e rfl rfl (fun K1 hK1 => ?_)
            apply Exists.intro
            refine And.intro (fun wx hx => ?_) ?_
            · have e0 := below_fact hx rfl e1
              have e1 := below_fact hx rfl k2
              go_simp
              try rfl
            go_simp
            refine hK1 _ ?_
            clear hK1 K1
            refine wpPre_e rfl rfl (fun K1 hK1 => ?_)
            apply Exists.intro
            refine And.intro (fun wx hx => ?_) ?_
            · go_simp
              try rfl
            go_simp
            refine hK1 _ ?_
            clear hK1 K1
            refine wpPre_e rfl rfl (fun K1 hK1 => ?_)
            apply Exists.intro
            refine And.intro (fun wx hx => ?_) ?_
            · go_simp
              try rfl
            go_simp
            refine hK1 _ ?_
            clear hK1 K1
            refine wpPre_e rfl rfl (fun K1 hK1 => ?_)
            apply Exists.intro
            refine And.intro (fun wx hx => ?_) ?_
            · go_simp
              try rfl
            go_simp
            refine hK1 _ ?_
            clear hK1 K1
            refine wpPre_e rfl rfl (fun K1 hK1 => ?_)
            apply Exists.intro
            refine And.intro (fun wx hx => ?_) ?_
            · go_simp
              try rfl
            go_simp
            refine hK1 _ ?_
            clear hK1 K1
            refine wpPre_e rfl rfl (fun K1 hK1 => ?_)
            apply Exists.intro
            refine And.intro (fun wx hx => ?_) ?_
            · have e0 := below_fact hx rfl e1
              have e1 := below_fact hx rfl k2
              go_simp
              try rfl
            go_simp
            refine hK1 _ ?_
            clear hK1 K1
            refine wpPre_nil ?_
            refine wpTg_e rfl (fun K1 hK1 => ?_)
            refine step_callG (by first | rfl | go_simp) 15 #[.tmp 111, .tmp 113] _ rfl Tryd.f15 Tryd.func15 (by kernel_rfl) rfl #[.pointer (some ⟨lb, 3, none⟩), .int .i64 oi] rfl _ (HAt.out) ?_
            rintro e_ w7 ⟨rfl, hb7⟩
            refine ⟨_, rfl, ?_⟩
            have hb12 : Below w6.heap.size w6 w7 := (Below.refl _ _).drew.trans (hb7.mono (Nat.le_refl _))
            obtain ⟨C7, hC7⟩ : ∃ D, D = upC w6 Cb (20 + 7) := ⟨_, rfl⟩
            have hX7 := HX6.out.below hb12
            rw [← hC7] at hX7
            have hIn : (atP Nb oi).In w7 (fun k => C7 k = 20 + 4 ∧ k < w7.heap.size) := ((atP_in hX7.m.n oi).mono fun k hk hl => ⟨Classical.byContradiction fun e => hk ⟨hl, e⟩, hl⟩)
            have HAk := hid (ack_any w7 (Zc w7 C7 (20 + 1)) sb S1.A hX7.m.s zc_lt (atP Nb oi) _ hIn (hX7.tab HTb6.out HOut.out))
            rw [← HXv.out] at HAk
            have HX7 := hid hX7
            have HB12 := hid hb12
            clear hb7 hb12 hC7 hX7 hIn
            go_simp
            refine hK1 _ _ _ HB12.out (fun _ _ h => h) ?_
            clear hK1 K1
            refine wpPre_nil ?_
            refine wpTg_e rfl (fun K1 hK1 => ?_)
            refine step_callG (by first | rfl | go_simp) 24 #[.tmp 108, .tmp 114] _ rfl Tryd.f24 Tryd.func24 (by kernel_rfl) rfl #[.pointer (some ⟨sb, 0, none⟩), xv] rfl _ (HAk.out) ?_
            rintro e_ w8 ⟨he, hq⟩
            rw [HUn.out] at he
            rw [HUn.out, if_pos rfl] at hq
            subst he
            refine ⟨_, rfl, ?_⟩
            have HX8 := hid (HX7.out.snd hq)
            clear hq
            go_simp
            refine hK1 _ _ (fun wx => Below w8.heap.size w8 wx) (Below.refl _ _) (fun h => by cases h) ?_
            clear hK1 K1
            refine wpPre_e rfl rfl (fun K1 hK1 => ?_)
            apply Exists.intro
            refine And.intro (fun wx hx => ?_) ?_
            · go_simp
              try rfl
            go_simp
            refine hK1 _ ?_
            clear hK1 K1
            refine wpPre_nil ?_
            refine wpTg_done ?_
            have hX8 := HX8.out
            rw [show ({ S1 with A := ackN S1.A (atP Nb oi).zs } : LS) = S1 by rw [HTT.out]] at hX8
            have hlq := hX8.lq
            rw [HCb.out] at hlq
            obtain ⟨C9, hTW8, hB8, _, _⟩ := HTW6.out.moveB hlq
            have HTW := hid hTW8
            have HBw : Hid (Below w.heap.size w w8) := HBw6.out.trans hB8
            have HTb := hid (HT.out.later HBw.out)
            clear hX8 hlq hTW8 hB8 e1 e2 el k0 k2 kl
            have hLA := HTW.out.a
            obtain ⟨sa, ra, dva, nva, bva, pva, wva, Da, Na, Pa, hMa⟩ := hLA
            have hLB := HTW.out.b
            obtain ⟨sb, rb, dvb, nvb, bvb, pvb, wvb, Db, Nb, Pb, hMb⟩ := hLB
            have a0 := hMa.bx.cell 0
            have a1 := hMa.bx.cell 1
            have al := hMa.bx.lt
            have b0 := hMb.bx.cell 0
            have b1 := hMb.bx.cell 1
            have bl := hMb.bx.lt
            simp at a0 a1 b0 b1
            have HAa := hid (answer_any w8.drew _ ra _ (hMa.r.below (Below.refl _ _).drew fun _ _ h => h) (HTb.out.later (Below.refl _ _).drew))
            have HMa := hid hMa
            have HMb := hid hMb
            clear hMa hMb
            go_wp2_with fail
            go_upto_region 20 with fail
            refine wp_region_calmPG 60 (fun wx => Below w8.heap.size w8 wx) [(0, true), (1, true), (2, true), (3, false), (5, true), (6, true), (7, true), (8, false)] (.one 4 true [] (.one 9 true [] (.one 10 true [(11, true), (12, true), (13, true), (14, true), (15, true), (16, false), (18, true), (19, true), (20, true), (21, false)] (.one 17 true [] (.one 22 true [(23, true), (24, true), (25, true), (26, true), (27, true), (28, true), (29, false), (31, true), (32, true), (33, true), (34, false)] (.one 30 true [] (.one 35 true [(36, true), (37, true)] .done))))))) (by kernel_rfl) (by kernel_rfl) (Below.refl _ _).drew ?_
            refine wpPre_e rfl rfl (fun K1 hK1 => ?_)
            apply Exists.intro
            refine And.intro (fun wx hx => ?_) ?_
            · go_simp
              try rfl
            go_simp
            refine hK1 _ ?_
            clear hK1 K1
            refine wpPre_e rfl rfl (fun K1 hK1 => ?_)
            apply Exists.intro
            refine And.intro (fun wx hx => ?_) ?_
            · go_simp
              try rfl
            go_simp
            refine hK1 _ ?_
            clear hK1 K1
            refine wpPre_e rfl rfl (fun K1 hK1 => ?_)
            apply Exists.intro
            refine And.intro (fun wx hx => ?_) ?_
            · go_simp
              try rfl
            go_simp
            refine hK1 _ ?_
            clear hK1 K1
            refine wpPre_e rfl rfl (fun K1 hK1 => ?_)
            apply Exists.intro
            refine And.intro (fun wx hx => ?_) ?_
            · have e0 := below_fact hx rfl a0
              have e1 := below_fact hx rfl a1
              have e2 := below_fact hx rfl b0
              have e3 := below_fact hx rfl b1
              go_simp
              try rfl
            go_simp
            refine hK1 _ ?_
            clear hK1 K1
            refine wpPre_e rfl rfl (fun K1 hK1 => ?_)
            apply Exists.intro
            refine And.intro (fun wx hx => ?_) ?_
            · go_simp
              try rfl
            go_simp
            refine hK1 _ ?_
            clear hK1 K1
            refine wpPre_e rfl rfl (fun K1 hK1 => ?_)
            apply Exists.intro
            refine And.intro (fun wx hx => ?_) ?_
            · go_simp
              try rfl
            go_simp
            refine hK1 _ ?_
            clear hK1 K1
            refine wpPre_e rfl rfl (fun K1 hK1 => ?_)
            apply Exists.intro
            refine And.intro (fun wx hx => ?_) ?_
            · go_simp
              try rfl
            go_simp
            refine hK1 _ ?_
            clear hK1 K1
            refine wpPre_e rfl rfl (fun K1 hK1 => ?_)
            apply Exists.intro
            refine And.intro (fun wx hx => ?_) ?_
            · have e0 := below_fact hx rfl a0
              have e1 := below_fact hx rfl a1
              have e2 := below_fact hx rfl b0
              have e3 := below_fact hx rfl b1
              go_simp
              try rfl
            go_simp
            refine hK1 _ ?_
            clear hK1 K1
            refine wpPre_nil ?_
            refine wpTg_e rfl (fun K1 hK1 => ?_)
            refine step_callG (by first | rfl | go_simp) 23 #[.tmp 121] _ rfl Tryd.f23 Tryd.func23 (by kernel_rfl) rfl #[.pointer (some ⟨ra, 0, none⟩)] rfl _ (HAa.out) ?_
            rintro e_ w21 ⟨y1, rfl, hy1, hi1, hb1⟩
            refine ⟨_, rfl, ?_⟩
            have HB21 : Hid (Below w8.heap.size w8 w21) := (Below.refl w8.heap.size w8).drew.trans (hb1.mono (Nat.le_refl _))
            have HY1 := hid (And.intro hy1 hi1)
            have HAb := hid (answer_any w21 _ rb _ (HMb.out.r.below HB21.out fun _ _ h => h) (HTb.out.later HB21.out))
            obtain ⟨y1v, hy1v⟩ : ∃ v, v = y1.val := ⟨_, rfl⟩
            rw [← hy1v]
            have HY1v := hid hy1v
            clear hy1 hi1 hb1 hy1v
            go_simp
            refine hK1 _ _ _ HB21.out (fun _ _ h => h) ?_
            clear hK1 K1
            refine wpPre_nil ?_
            refine wpTg_e rfl (fun K1 hK1 => ?_)
            refine step_callG (by first | rfl | go_simp) 23 #[.tmp 126] _ rfl Tryd.f23 Tryd.func23 (by kernel_rfl) rfl #[.pointer (some ⟨rb, 0, none⟩)] rfl _ (HAb.out) ?_
            rintro e_ w22 ⟨y2, rfl, hy2, hi2, hb2⟩
            refine ⟨_, rfl, ?_⟩
            have HB22 : Hid (Below w8.heap.size w8 w22) := HB21.out.trans (hb2.mono HB21.out.size)
            have hsame := sameB_any y1 y2 w22 _ _ (HY1.out.2.below hb2) hi2
            rw [show decide (y1.zs = y2.zs) = true from decide_eq_true (HY1.out.1.trans hy2.symm), ← HY1v.out] at hsame
            obtain ⟨y2v, hy2v⟩ : ∃ v, v = y2.val := ⟨_, rfl⟩
            rw [← hy2v] at hsame ⊢
            have HSm := hid hsame
            have HOa := hid (open_any w22 _ sa _ (HMa.out.s.below HB22.out fun _ _ h => h))
            have HOb := hid (open_any w22 _ sb _ (HMb.out.s.below HB22.out fun _ _ h => h))
            have HWa := hid (word_any w22 _ sa _ (HMa.out.s.below HB22.out fun _ _ h => h))
            have HWb := hid (word_any w22 _ sb _ (HMb.out.s.below HB22.out fun _ _ h => h))
            clear hy2 hi2 hb2 hsame hy2v
            go_simp
            refine hK1 _ _ _ HB22.out (fun _ _ h => h) ?_
            clear hK1 K1
            refine wpPre_nil ?_
            refine wpTg_e rfl (fun K1 hK1 => ?_)
            refine step_callG (by first | rfl | go_simp) 22 #[.tmp 122, .tmp 127] _ rfl Tryd.f22 Tryd.func22 (by kernel_rfl) rfl #[y1v, y2v] rfl _ (HSm.out) ?_
            rintro e_ w23 ⟨rfl, rfl⟩
            refine ⟨_, rfl, ?_⟩
            go_simp
            refine hK1 _ _ _ HB22.out (fun _ _ h => h) ?_
            clear hK1 K1
            refine wpPre_e rfl rfl (fun K1 hK1 => ?_)
            apply Exists.intro
            refine And.intro (fun wx hx => ?_) ?_
            · go_simp
              try rfl
            go_simp
            refine hK1 _ ?_
            clear hK1 K1
            refine wpPre_e rfl rfl (fun K1 hK1 => ?_)
            apply Exists.intro
            refine And.intro (fun wx hx => ?_) ?_
            · go_simp
              try rfl
            go_simp
            refine hK1 _ ?_
            clear hK1 K1
            refine wpPre_i rfl (fun K1 hK1 => ?_)
            rw [if_pos (by go_simp)]
            apply Exists.intro
            refine And.intro (fun wx hx => ?_) ?_
            · go_simp
              try rfl
            go_simp
            refine hK1 _ ?_
            clear hK1 K1
            refine wpPre_i rfl (fun K1 hK1 => ?_)
            rw [if_pos (by go_simp)]
            apply Exists.intro
            refine And.intro (fun wx hx => ?_) ?_
            · go_simp
              try rfl
            go_simp
            refine hK1 _ ?_
            clear hK1 K1
            refine wpPre_i rfl (fun K1 hK1 => ?_)
            rw [if_pos (by go_simp)]
            apply Exists.intro
            refine And.intro (fun wx hx => ?_) ?_
            · go_simp
              try rfl
            go_simp
            refine hK1 _ ?_
            clear hK1 K1
            refine wpPre_i rfl (fun K1 hK1 => ?_)
            rw [if_pos (by go_simp)]
            apply Exists.intro
            refine And.intro (fun wx hx => ?_) ?_
            · have e0 := below_fact hx rfl a0
              have e1 := below_fact hx rfl a1
              have e2 := below_fact hx rfl b0
              have e3 := below_fact hx rfl b1
              go_simp
              try rfl
            go_simp
            refine hK1 _ ?_
            clear hK1 K1
            refine wpPre_i rfl (fun K1 hK1 => ?_)
            rw [if_pos (by go_simp)]
            apply Exists.intro
            refine And.intro (fun wx hx => ?_) ?_
            · go_simp
              try rfl
            go_simp
            refine hK1 _ ?_
            clear hK1 K1
            refine wpPre_i rfl (fun K1 hK1 => ?_)
            rw [if_pos (by go_simp)]
            apply Exists.intro
            refine And.intro (fun wx hx => ?_) ?_
            · go_simp
              try rfl
            go_simp
            refine hK1 _ ?_
            clear hK1 K1
            refine wpPre_i rfl (fun K1 hK1 => ?_)
            rw [if_pos (by go_simp)]
            apply Exists.intro
            refine And.intro (fun wx hx => ?_) ?_
            · go_simp
              try rfl
            go_simp
            refine hK1 _ ?_
            clear hK1 K1
            refine wpPre_i rfl (fun K1 hK1 => ?_)
            rw [if_pos (by go_simp)]
            apply Exists.intro
            refine And.intro (fun wx hx => ?_) ?_
            · have e0 := below_fact hx rfl a0
              have e1 := below_fact hx rfl a1
              have e2 := below_fact hx rfl b0
              have e3 := below_fact hx rfl b1
              go_simp
              try rfl
            go_simp
            refine hK1 _ ?_
            clear hK1 K1
            refine wpPre_nil ?_
            refine wpTg_e rfl (fun K1 hK1 => ?_)
            refine step_callG (by first | rfl | go_simp) 10 #[.tmp 134] _ rfl Tryd.f10 Tryd.func10 (by kernel_rfl) rfl #[.pointer (some ⟨sa, 0, none⟩)] rfl _ (HOa.out) ?_
            rintro e_ w24 ⟨rfl, rfl⟩
            refine ⟨_, rfl, ?_⟩
            go_simp
            refine hK1 _ _ _ HB22.out (fun _ _ h => h) ?_
            clear hK1 K1
            refine wpPre_nil ?_
            refine wpTg_e rfl (fun K1 hK1 => ?_)
            refine step_callG (by first | rfl | go_simp) 10 #[.tmp 139] _ rfl Tryd.f10 Tryd.func10 (by kernel_rfl) rfl #[.pointer (some ⟨sb, 0, none⟩)] rfl _ (HOb.out) ?_
            rintro e_ w25 ⟨rfl, rfl⟩
            refine ⟨_, rfl, ?_⟩
            go_simp
            refine hK1 _ _ _ HB22.out (fun _ _ h => h) ?_
            clear hK1 K1
            refine wpPre_i rfl (fun K1 hK1 => ?_)
            rw [if_pos (by go_simp)]
            apply Exists.intro
            refine And.intro (fun wx hx => ?_) ?_
            · go_simp
              try rfl
            go_simp
            refine hK1 _ ?_
            clear hK1 K1
            refine wpPre_e rfl rfl (fun K1 hK1 => ?_)
            apply Exists.intro
            refine And.intro (fun wx hx => ?_) ?_
            · go_simp
              try rfl
            go_simp
            refine hK1 _ ?_
            clear hK1 K1
            refine wpPre_e rfl rfl (fun K1 hK1 => ?_)
            apply Exists.intro
            refine And.intro (fun wx hx => ?_) ?_
            · go_simp
              try rfl
            go_simp
            refine hK1 _ ?_
            clear hK1 K1
            refine wpPre_i rfl (fun K1 hK1 => ?_)
            rw [if_pos (by go_simp)]
            apply Exists.intro
            refine And.intro (fun wx hx => ?_) ?_
            · go_simp
              try rfl
            go_simp
            refine hK1 _ ?_
            clear hK1 K1
            refine wpPre_i rfl (fun K1 hK1 => ?_)
            rw [if_pos (by go_simp)]
            apply Exists.intro
            refine And.intro (fun wx hx => ?_) ?_
            · go_simp
              try rfl
            go_simp
            refine hK1 _ ?_
            clear hK1 K1
            refine wpPre_i rfl (fun K1 hK1 => ?_)
            rw [if_pos (by go_simp)]
            apply Exists.intro
            refine And.intro (fun wx hx => ?_) ?_
            · go_simp
              try rfl
            go_simp
            refine hK1 _ ?_
            clear hK1 K1
            refine wpPre_i rfl (fun K1 hK1 => ?_)
            rw [if_pos (by go_simp)]
            apply Exists.intro
            refine And.intro (fun wx hx => ?_) ?_
            · have e0 := below_fact hx rfl a0
              have e1 := below_fact hx rfl a1
              have e2 := below_fact hx rfl b0
              have e3 := below_fact hx rfl b1
              go_simp
              try rfl
            go_simp
            refine hK1 _ ?_
            clear hK1 K1
            refine wpPre_i rfl (fun K1 hK1 => ?_)
            rw [if_pos (by go_simp)]
            apply Exists.intro
            refine And.intro (fun wx hx => ?_) ?_
            · go_simp
              try rfl
            go_simp
            refine hK1 _ ?_
            clear hK1 K1
            refine wpPre_i rfl (fun K1 hK1 => ?_)
            rw [if_pos (by go_simp)]
            apply Exists.intro
            refine And.intro (fun wx hx => ?_) ?_
            · go_simp
              try rfl
            go_simp
            refine hK1 _ ?_
            clear hK1 K1
            refine wpPre_i rfl (fun K1 hK1 => ?_)
            rw [if_pos (by go_simp)]
            apply Exists.intro
            refine And.intro (fun wx hx => ?_) ?_
            · go_simp
              try rfl
            go_simp
            refine hK1 _ ?_
            clear hK1 K1
            refine wpPre_i rfl (fun K1 hK1 => ?_)
            rw [if_pos (by go_simp)]
            apply Exists.intro
            refine And.intro (fun wx hx => ?_) ?_
            · have e0 := below_fact hx rfl a0
              have e1 := below_fact hx rfl a1
              have e2 := below_fact hx rfl b0
              have e3 := below_fact hx rfl b1
              go_simp
              try rfl
            go_simp
            refine hK1 _ ?_
            clear hK1 K1
            refine wpPre_nil ?_
            refine wpTg_e rfl (fun K1 hK1 => ?_)
            refine step_callG (by first | rfl | go_simp) 18 #[.tmp 147] _ rfl Tryd.f18 Tryd.func18 (by kernel_rfl) rfl #[.pointer (some ⟨sa, 0, none⟩)] rfl _ (HWa.out) ?_
            rintro e_ w26 ⟨rfl, rfl⟩
            refine ⟨_, rfl, ?_⟩
            go_simp
            refine hK1 _ _ _ HB22.out (fun _ _ h => h) ?_
            clear hK1 K1
            refine wpPre_nil ?_
            refine wpTg_e rfl (fun K1 hK1 => ?_)
            refine step_callG (by first | rfl | go_simp) 18 #[.tmp 152] _ rfl Tryd.f18 Tryd.func18 (by kernel_rfl) rfl #[.pointer (some ⟨sb, 0, none⟩)] rfl _ (HWb.out) ?_
            rintro e_ w27 ⟨rfl, rfl⟩
            refine ⟨_, rfl, ?_⟩
            go_simp
            refine hK1 _ _ _ HB22.out (fun _ _ h => h) ?_
            clear hK1 K1
            refine wpPre_i rfl (fun K1 hK1 => ?_)
            rw [if_pos (by go_simp)]
            apply Exists.intro
            refine And.intro (fun wx hx => ?_) ?_
            · go_simp
              try rfl
            go_simp
            refine hK1 _ ?_
            clear hK1 K1
            refine wpPre_e rfl rfl (fun K1 hK1 => ?_)
            apply Exists.intro
            refine And.intro (fun wx hx => ?_) ?_
            · go_simp
              try rfl
            go_simp
            refine hK1 _ ?_
            clear hK1 K1
            refine wpPre_nil ?_
            refine wpTg_done ?_
            have HBz := HB22
            clear a0 a1 al b0 b1 bl
            go_wp2_with fail
            go_roundw
            case rel => exact ⟨i + 1, _, _, by omega, by go_num, HI.out, HG.out, HTW.out.below HBz.out, HBw.out.trans (HBz.out.mono HTW.out.le)⟩
            case measure => simp [intOf]; omega
        · as_aux_lemma =>
          have hb3 : (kd == 3) = false := by simpa using h3
          have hb4 : (kd == 4) = false := by simpa using h4
          have HTW := hid hTW6
          have HI := hid hI6
          have HG := hid hG6
          have HBw := hid hBw6
          have HTb := hid (HT.out.later hBw6)
          clear hTW6 hI6 hG6 hBw6 hsz6 h3 h4
          have hLA := HTW.out.a
          obtain ⟨sa, ra, dva, nva, bva, pva, wva, Da, Na, Pa, hMa⟩ := hLA
          have hLB := HTW.out.b
          obtain ⟨sb, rb, dvb, nvb, bvb, pvb, wvb, Db, Nb, Pb, hMb⟩ := hLB
          have a0 := hMa.bx.cell 0
          have a1 := hMa.bx.cell 1
          have al := hMa.bx.lt
          have b0 := hMb.bx.cell 0
          have b1 := hMb.bx.cell 1
          have bl := hMb.bx.lt
          simp at a0 a1 b0 b1
          have HAa := hid (answer_any w6.drew _ ra _ (hMa.r.below (Below.refl _ _).drew fun _ _ h => h) (HTb.out.later (Below.refl _ _).drew))
          have HMa := hid hMa
          have HMb := hid hMb
          clear hMa hMb
          go_wp2_with fail
          go_upto_region 20 with fail
          refine wp_region_calmPG 60 (fun wx => Below w6.heap.size w6 wx) [(0, true), (1, true), (2, true), (3, false), (5, true), (6, true), (7, true), (8, false)] (.one 4 true [] (.one 9 true [] (.one 10 true [(11, true), (12, true), (13, true), (14, true), (15, true), (16, false), (18, true), (19, true), (20, true), (21, false)] (.one 17 true [] (.one 22 true [(23, true), (24, true), (25, true), (26, true), (27, true), (28, true), (29, false), (31, true), (32, true), (33, true), (34, false)] (.one 30 true [] (.one 35 true [(36, true), (37, true)] .done))))))) (by kernel_rfl) (by kernel_rfl) (Below.refl _ _).drew ?_
          refine wpPre_e rfl rfl (fun K1 hK1 => ?_)
          apply Exists.intro
          refine And.intro (fun wx hx => ?_) ?_
          · go_simp
            try rfl
          go_simp
          refine hK1 _ ?_
          clear hK1 K1
          refine wpPre_e rfl rfl (fun K1 hK1 => ?_)
          apply Exists.intro
          refine And.intro (fun wx hx => ?_) ?_
          · go_simp
            try rfl
          go_simp
          refine hK1 _ ?_
          clear hK1 K1
          refine wpPre_e rfl rfl (fun K1 hK1 => ?_)
          apply Exists.intro
          refine And.intro (fun wx hx => ?_) ?_
          · go_simp
            try rfl
          go_simp
          refine hK1 _ ?_
          clear hK1 K1
          refine wpPre_e rfl rfl (fun K1 hK1 => ?_)
          apply Exists.intro
          refine And.intro (fun wx hx => ?_) ?_
          · have e0 := below_fact hx rfl a0
            have e1 := below_fact hx rfl a1
            have e2 := below_fact hx rfl b0
            have e3 := below_fact hx rfl b1
            go_simp
            try rfl
          go_simp
          refine hK1 _ ?_
          clear hK1 K1
          refine wpPre_e rfl rfl (fun K1 hK1 => ?_)
          apply Exists.intro
          refine And.intro (fun wx hx => ?_) ?_
          · go_simp
            try rfl
          go_simp
          refine hK1 _ ?_
          clear hK1 K1
          refine wpPre_e rfl rfl (fun K1 hK1 => ?_)
          apply Exists.intro
          refine And.intro (fun wx hx => ?_) ?_
          · go_simp
            try rfl
          go_simp
          refine hK1 _ ?_
          clear hK1 K1
          refine wpPre_e rfl rfl (fun K1 hK1 => ?_)
          apply Exists.intro
          refine And.intro (fun wx hx => ?_) ?_
          · go_simp
            try rfl
          go_simp
          refine hK1 _ ?_
          clear hK1 K1
          refine wpPre_e rfl rfl (fun K1 hK1 => ?_)
          apply Exists.intro
          refine And.intro (fun wx hx => ?_) ?_
          · have e0 := below_fact hx rfl a0
            have e1 := below_fact hx rfl a1
            have e2 := below_fact hx rfl b0
            have e3 := below_fact hx rfl b1
            go_simp
            try rfl
          go_simp
          refine hK1 _ ?_
          clear hK1 K1
          refine wpPre_nil ?_
          refine wpTg_e rfl (fun K1 hK1 => ?_)
          refine step_callG (by first | rfl | go_simp) 23 #[.tmp 121] _ rfl Tryd.f23 Tryd.func23 (by kernel_rfl) rfl #[.pointer (some ⟨ra, 0, none⟩)] rfl _ (HAa.out) ?_
          rintro e_ w21 ⟨y1, rfl, hy1, hi1, hb1⟩
          refine ⟨_, rfl, ?_⟩
          have HB21 : Hid (Below w6.heap.size w6 w21) := (Below.refl w6.heap.size w6).drew.trans (hb1.mono (Nat.le_refl _))
          have HY1 := hid (And.intro hy1 hi1)
          have HAb := hid (answer_any w21 _ rb _ (HMb.out.r.below HB21.out fun _ _ h => h) (HTb.out.later HB21.out))
          obtain ⟨y1v, hy1v⟩ : ∃ v, v = y1.val := ⟨_, rfl⟩
          rw [← hy1v]
          have HY1v := hid hy1v
          clear hy1 hi1 hb1 hy1v
          go_simp
          refine hK1 _ _ _ HB21.out (fun _ _ h => h) ?_
          clear hK1 K1
          refine wpPre_nil ?_
          refine wpTg_e rfl (fun K1 hK1 => ?_)
          refine step_callG (by first | rfl | go_simp) 23 #[.tmp 126] _ rfl Tryd.f23 Tryd.func23 (by kernel_rfl) rfl #[.pointer (some ⟨rb, 0, none⟩)] rfl _ (HAb.out) ?_
          rintro e_ w22 ⟨y2, rfl, hy2, hi2, hb2⟩
          refine ⟨_, rfl, ?_⟩
          have HB22 : Hid (Below w6.heap.size w6 w22) := HB21.out.trans (hb2.mono HB21.out.size)
          have hsame := sameB_any y1 y2 w22 _ _ (HY1.out.2.below hb2) hi2
          rw [show decide (y1.zs = y2.zs) = true from decide_eq_true (HY1.out.1.trans hy2.symm), ← HY1v.out] at hsame
          obtain ⟨y2v, hy2v⟩ : ∃ v, v = y2.val := ⟨_, rfl⟩
          rw [← hy2v] at hsame ⊢
          have HSm := hid hsame
          have HOa := hid (open_any w22 _ sa _ (HMa.out.s.below HB22.out fun _ _ h => h))
          have HOb := hid (open_any w22 _ sb _ (HMb.out.s.below HB22.out fun _ _ h => h))
          have HWa := hid (word_any w22 _ sa _ (HMa.out.s.below HB22.out fun _ _ h => h))
          have HWb := hid (word_any w22 _ sb _ (HMb.out.s.below HB22.out fun _ _ h => h))
          clear hy2 hi2 hb2 hsame hy2v
          go_simp
          refine hK1 _ _ _ HB22.out (fun _ _ h => h) ?_
          clear hK1 K1
          refine wpPre_nil ?_
          refine wpTg_e rfl (fun K1 hK1 => ?_)
          refine step_callG (by first | rfl | go_simp) 22 #[.tmp 122, .tmp 127] _ rfl Tryd.f22 Tryd.func22 (by kernel_rfl) rfl #[y1v, y2v] rfl _ (HSm.out) ?_
          rintro e_ w23 ⟨rfl, rfl⟩
          refine ⟨_, rfl, ?_⟩
          go_simp
          refine hK1 _ _ _ HB22.out (fun _ _ h => h) ?_
          clear hK1 K1
          refine wpPre_e rfl rfl (fun K1 hK1 => ?_)
          apply Exists.intro
          refine And.intro (fun wx hx => ?_) ?_
          · go_simp
            try rfl
          go_simp
          refine hK1 _ ?_
          clear hK1 K1
          refine wpPre_e rfl rfl (fun K1 hK1 => ?_)
          apply Exists.intro
          refine And.intro (fun wx hx => ?_) ?_
          · go_simp
            try rfl
          go_simp
          refine hK1 _ ?_
          clear hK1 K1
          refine wpPre_i rfl (fun K1 hK1 => ?_)
          rw [if_pos (by go_simp)]
          apply Exists.intro
          refine And.intro (fun wx hx => ?_) ?_
          · go_simp
            try rfl
          go_simp
          refine hK1 _ ?_
          clear hK1 K1
          refine wpPre_i rfl (fun K1 hK1 => ?_)
          rw [if_pos (by go_simp)]
          apply Exists.intro
          refine And.intro (fun wx hx => ?_) ?_
          · go_simp
            try rfl
          go_simp
          refine hK1 _ ?_
          clear hK1 K1
          refine wpPre_i rfl (fun K1 hK1 => ?_)
          rw [if_pos (by go_simp)]
          apply Exists.intro
          refine And.intro (fun wx hx => ?_) ?_
          · go_simp
            try rfl
          go_simp
          refine hK1 _ ?_
          clear hK1 K1
          refine wpPre_i rfl (fun K1 hK1 => ?_)
          rw [if_pos (by go_simp)]
          apply Exists.intro
          refine And.intro (fun wx hx => ?_) ?_
          · have e0 := below_fact hx rfl a0
            have e1 := below_fact hx rfl a1
            have e2 := below_fact hx rfl b0
            have e3 := below_fact hx rfl b1
            go_simp
            try rfl
          go_simp
          refine hK1 _ ?_
          clear hK1 K1
          refine wpPre_i rfl (fun K1 hK1 => ?_)
          rw [if_pos (by go_simp)]
          apply Exists.intro
          refine And.intro (fun wx hx => ?_) ?_
          · go_simp
            try rfl
          go_simp
          refine hK1 _ ?_
          clear hK1 K1
          refine wpPre_i rfl (fun K1 hK1 => ?_)
          rw [if_pos (by go_simp)]
          apply Exists.intro
          refine And.intro (fun wx hx => ?_) ?_
          · go_simp
            try rfl
          go_simp
          refine hK1 _ ?_
          clear hK1 K1
          refine wpPre_i rfl (fun K1 hK1 => ?_)
          rw [if_pos (by go_simp)]
          apply Exists.intro
          refine And.intro (fun wx hx => ?_) ?_
          · go_simp
            try rfl
          go_simp
          refine hK1 _ ?_
          clear hK1 K1
          refine wpPre_i rfl (fun K1 hK1 => ?_)
          rw [if_pos (by go_simp)]
          apply Exists.intro
          refine And.intro (fun wx hx => ?_) ?_
          · have e0 := below_fact hx rfl a0
            have e1 := below_fact hx rfl a1
            have e2 := below_fact hx rfl b0
            have e3 := below_fact hx rfl b1
            go_simp
            try rfl
          go_simp
          refine hK1 _ ?_
          clear hK1 K1
          refine wpPre_nil ?_
          refine wpTg_e rfl (fun K1 hK1 => ?_)
          refine step_callG (by first | rfl | go_simp) 10 #[.tmp 134] _ rfl Tryd.f10 Tryd.func10 (by kernel_rfl) rfl #[.pointer (some ⟨sa, 0, none⟩)] rfl _ (HOa.out) ?_
          rintro e_ w24 ⟨rfl, rfl⟩
          refine ⟨_, rfl, ?_⟩
          go_simp
          refine hK1 _ _ _ HB22.out (fun _ _ h => h) ?_
          clear hK1 K1
          refine wpPre_nil ?_
          refine wpTg_e rfl (fun K1 hK1 => ?_)
          refine step_callG (by first | rfl | go_simp) 10 #[.tmp 139] _ rfl Tryd.f10 Tryd.func10 (by kernel_rfl) rfl #[.pointer (some ⟨sb, 0, none⟩)] rfl _ (HOb.out) ?_
          rintro e_ w25 ⟨rfl, rfl⟩
          refine ⟨_, rfl, ?_⟩
          go_simp
          refine hK1 _ _ _ HB22.out (fun _ _ h => h) ?_
          clear hK1 K1
          refine wpPre_i rfl (fun K1 hK1 => ?_)
          rw [if_pos (by go_simp)]
          apply Exists.intro
          refine And.intro (fun wx hx => ?_) ?_
          · go_simp
            try rfl
          go_simp
          refine hK1 _ ?_
          clear hK1 K1
          refine wpPre_e rfl rfl (fun K1 hK1 => ?_)
          apply Exists.intro
          refine And.intro (fun wx hx => ?_) ?_
          · go_simp
            try rfl
          go_simp
          refine hK1 _ ?_
          clear hK1 K1
          refine wpPre_e rfl rfl (fun K1 hK1 => ?_)
          apply Exists.intro
          refine And.intro (fun wx hx => ?_) ?_
          · go_simp
            try rfl
          go_simp
          refine hK1 _ ?_
          clear hK1 K1
          refine wpPre_i rfl (fun K1 hK1 => ?_)
          rw [if_pos (by go_simp)]
          apply Exists.intro
          refine And.intro (fun wx hx => ?_) ?_
          · go_simp
            try rfl
          go_simp
          refine hK1 _ ?_
          clear hK1 K1
          refine wpPre_i rfl (fun K1 hK1 => ?_)
          rw [if_pos (by go_simp)]
          apply Exists.intro
          refine And.intro (fun wx hx => ?_) ?_
          · go_simp
            try rfl
          go_simp
          refine hK1 _ ?_
          clear hK1 K1
          refine wpPre_i rfl (fun K1 hK1 => ?_)
          rw [if_pos (by go_simp)]
          apply Exists.intro
          refine And.intro (fun wx hx => ?_) ?_
          · go_simp
            try rfl
          go_simp
          refine hK1 _ ?_
          clear hK1 K1
          refine wpPre_i rfl (fun K1 hK1 => ?_)
          rw [if_pos (by go_simp)]
          apply Exists.intro
          refine And.intro (fun wx hx => ?_) ?_
          · have e0 := below_fact hx rfl a0
            have e1 := below_fact hx rfl a1
            have e2 := below_fact hx rfl b0
            have e3 := below_fact hx rfl b1
            go_simp
            try rfl
          go_simp
          refine hK1 _ ?_
          clear hK1 K1
          refine wpPre_i rfl (fun K1 hK1 => ?_)
          rw [if_pos (by go_simp)]
          apply Exists.intro
          refine And.intro (fun wx hx => ?_) ?_
          · go_simp
            try rfl
          go_simp
          refine hK1 _ ?_
          clear hK1 K1
          refine wpPre_i rfl (fun K1 hK1 => ?_)
          rw [if_pos (by go_simp)]
          apply Exists.intro
          refine And.intro (fun wx hx => ?_) ?_
          · go_simp
            try rfl
          go_simp
          refine hK1 _ ?_
          clear hK1 K1
          refine wpPre_i rfl (fun K1 hK1 => ?_)
          rw [if_pos (by go_simp)]
          apply Exists.intro
          refine And.intro (fun wx hx => ?_) ?_
          · go_simp
            try rfl
          go_simp
          refine hK1 _ ?_
          clear hK1 K1
          refine wpPre_i rfl (fun K1 hK1 => ?_)
          rw [if_pos (by go_simp)]
          apply Exists.intro
          refine And.intro (fun wx hx => ?_) ?_
          · have e0 := below_fact hx rfl a0
            have e1 := below_fact hx rfl a1
            have e2 := below_fact hx rfl b0
            have e3 := below_fact hx rfl b1
            go_simp
            try rfl
          go_simp
          refine hK1 _ ?_
          clear hK1 K1
          refine wpPre_nil ?_
          refine wpTg_e rfl (fun K1 hK1 => ?_)
          refine step_callG (by first | rfl | go_simp) 18 #[.tmp 147] _ rfl Tryd.f18 Tryd.func18 (by kernel_rfl) rfl #[.pointer (some ⟨sa, 0, none⟩)] rfl _ (HWa.out) ?_
          rintro e_ w26 ⟨rfl, rfl⟩
          refine ⟨_, rfl, ?_⟩
          go_simp
          refine hK1 _ _ _ HB22.out (fun _ _ h => h) ?_
          clear hK1 K1
          refine wpPre_nil ?_
          refine wpTg_e rfl (fun K1 hK1 => ?_)
          refine step_callG (by first | rfl | go_simp) 18 #[.tmp 152] _ rfl Tryd.f18 Tryd.func18 (by kernel_rfl) rfl #[.pointer (some ⟨sb, 0, none⟩)] rfl _ (HWb.out) ?_
          rintro e_ w27 ⟨rfl, rfl⟩
          refine ⟨_, rfl, ?_⟩
          go_simp
          refine hK1 _ _ _ HB22.out (fun _ _ h => h) ?_
          clear hK1 K1
          refine wpPre_i rfl (fun K1 hK1 => ?_)
          rw [if_pos (by go_simp)]
          apply Exists.intro
          refine And.intro (fun wx hx => ?_) ?_
          · go_simp
            try rfl
          go_simp
          refine hK1 _ ?_
          clear hK1 K1
          refine wpPre_e rfl rfl (fun K1 hK1 => ?_)
          apply Exists.intro
          refine And.intro (fun wx hx => ?_) ?_
          · go_simp
            try rfl
          go_simp
          refine hK1 _ ?_
          clear hK1 K1
          refine wpPre_nil ?_
          refine wpTg_done ?_
          have HBz := HB22
          clear a0 a1 al b0 b1 bl
          go_wp2_with fail
          go_roundw
          case rel => exact ⟨i + 1, _, _, by omega, by go_num, HI.out, HG.out, HTW.out.below HBz.out, HBw.out.trans (HBz.out.mono HTW.out.le)⟩
          case measure => simp [intOf]; omega
    case neg =>
      as_aux_lemma =>
      obtain rfl : i = s.n := by omega
      have hTb := HT.out.later hBw3
      obtain ⟨⟨sa, ra, dva, nva, bva, pva, wva, Da, Na, Pa, hMa⟩, hnA⟩ := hTW3.newA
      obtain ⟨V4, hV4⟩ : ∃ V, V = wr.alloc (.cells #[.int .u8 1] 5) := ⟨_, rfl⟩
      have hb4 : Below wr.heap.size wr V4 := by rw [hV4]; exact (Below.refl _ _).alloc (Nat.le_refl _) _
      have hx4 : BS.In V4 (fun k => wr.heap.size ≤ k) ⟨some ⟨wr.heap.size, 0, none⟩, 1, [1]⟩ := by rw [hV4]; exact bs_lit wr [1] (by decide) (by decide)
      obtain ⟨Ca, hCa⟩ : ∃ C, C = upC wr C3 (10 + 7) := ⟨_, rfl⟩
      rw [← hCa] at hMa hnA
      have hX4 := (LX.refl hMa hnA).below hb4
      obtain ⟨C4, hC4⟩ : ∃ C, C = upC wr Ca (10 + 7) := ⟨_, rfl⟩
      rw [← hC4] at hX4
      have hOutA : Out8 Ca 10 := by rw [hCa]; exact hTW3.outA HT.out.1
      have HTa := hid (take_any V4 (Zc V4 C4 (10 + 2)) ra S3.R hX4.m.r zc_lt _ _ hx4 (hTb.later hb4) (hX4.z0 hTb hOutA (by omega)))
      have HUn : Hid (¬ unpE S3.R.ln 68 [1] = 0) := by show ¬ _ = _; rw [unpE_none tb_short]; decide
      have HUe : Hid (unpE S3.R.ln 68 [1] = 212) := unpE_none tb_short
      have a1 := hMa.bx.cell 1
      have al := hMa.bx.lt
      simp at a1
      have HX4 := hid hX4
      have HV4 := hid hV4
      have HCa := hid hCa
      clear hMa hnA hV4 hb4 hx4 hCa hX4 hC4 hOutA hTb hlt hI3 hG3 hTW3 hBw3
      go_wp2_with fail
      rw [← HV4.out]
      refine HTa.out.mono ?_
      rintro e w5 ⟨hq, _⟩
      obtain ⟨he, hq5⟩ := hq HUn.out
      have he : e = .returned (.tuple #[.slice none 0 0, .int .i64 (unpE S3.R.ln 68 [1])]) := he
      rw [HUe.out] at he
      subst he
      have hX5 := HX4.out.rcv hq5
      have hlq := hX5.lq
      rw [HCa.out] at hlq
      obtain ⟨C5, hTW5, hB5, _, _⟩ := HTW3.out.moveA (S' := S3) hlq
      have hBw5 : Below w.heap.size w w5 := HBw3.out.trans hB5
      have hTWd := hTW5.below (Below.refl w5.heap.size w5).drew
      have HTWd := hid hTWd
      have HLa := hid (looks_any w5.drew _ 10 la S3 hTWd.newA.1 hTWd.newA.2 (HI3.out.lk (by omega) (by omega)))
      have HBw5 : Hid (Below w.heap.size w w5.drew) := hBw5.drew
      have HSz := hid hsz
      clear hq5 hX5 hlq hTW5 hB5 hBw5 hTWd HTa a1 al hsz HV4 HX4 HCa HUn HUe
      go_wp2_with fail
      go_upto_region 23 with fail
      refine wp_region_calmG 30 (fun wx => Below w5.heap.size w5 wx) [(0, true)] (.one 1 false [(2, true), (3, true)] (.one 4 false [(5, true), (6, true), (7, true), (8, true), (9, true), (10, false), (11, true), (12, true), (13, true), (14, false), (15, true), (16, true), (17, true), (18, true), (19, true), (20, true), (21, true)] .done)) (by kernel_rfl) (by kernel_rfl) (Below.refl _ _).drew ?_
      refine wpPre_e rfl rfl (fun K1 hK1 => ?_)
      apply Exists.intro
      refine And.intro (fun wx hx => ?_) ?_
      · go_simp
        try rfl
      go_simp
      refine hK1 _ ?_
      clear hK1 K1
      refine wpPre_nil ?_
      refine wpTg_e rfl (fun K1 hK1 => ?_)
      refine step_callG (by first | rfl | go_simp) 12 #[.tmp 165] _ rfl Tryd.f12 Tryd.func12 (by kernel_rfl) rfl #[.pointer (some ⟨la, 0, none⟩)] rfl _ (HLa.out) ?_
      rintro e_ w6 ⟨rfl, hq⟩
      refine ⟨_, rfl, ?_⟩
      obtain ⟨C6, hTW6, hB6, _, _⟩ := HTWd.out.moveA hq
      have HTW6 := hid hTW6
      have HB6 := hid hB6
      have HLb := hid (looks_any w6 _ 20 lb S3 hTW6.newB.1 hTW6.newB.2 (HI3.out.lk (by have := HSz.out; omega) (by have := HSz.out; omega)))
      clear hq hTW6 hB6 HLa
      go_simp
      refine hK1 _ _ (fun wx => Below w6.heap.size w6 wx) (Below.refl _ _) (fun h => by cases h) ?_
      clear hK1 K1
      refine wpPre_e rfl rfl (fun K1 hK1 => ?_)
      apply Exists.intro
      refine And.intro (fun wx hx => ?_) ?_
      · go_simp
        try rfl
      go_simp
      refine hK1 _ ?_
      clear hK1 K1
      refine wpPre_i rfl (fun K1 hK1 => ?_)
      rw [if_pos (by go_simp)]
      apply Exists.intro
      refine And.intro (fun wx hx => ?_) ?_
      · go_simp
        try rfl
      go_simp
      refine hK1 _ ?_
      clear hK1 K1
      refine wpPre_nil ?_
      refine wpTg_e rfl (fun K1 hK1 => ?_)
      refine step_callG (by first | rfl | go_simp) 12 #[.tmp 168] _ rfl Tryd.f12 Tryd.func12 (by kernel_rfl) rfl #[.pointer (some ⟨lb, 0, none⟩)] rfl _ (HLb.out) ?_
      rintro e_ w7 ⟨rfl, hq⟩
      refine ⟨_, rfl, ?_⟩
      obtain ⟨C7, hTW7, hB7, _, _⟩ := HTW6.out.moveB hq
      have HB7 := hid hB7
      obtain ⟨sa, ra, dva, nva, bva, pva, wva, Da, Na, Pa, hMa⟩ := hTW7.a
      obtain ⟨sb, rb, dvb, nvb, bvb, pvb, wvb, Db, Nb, Pb, hMb⟩ := hTW7.b
      have fa := hMa.bx.cell 6
      have fb := hMb.bx.cell 6
      have fal := hMa.bx.lt
      have fbl := hMb.bx.lt
      simp at fa fb
      obtain ⟨gv, hgv⟩ : ∃ g, g = (stLook S3).gv := ⟨_, rfl⟩
      rw [← hgv] at fa fb
      clear hq hTW7 hB7 hMa hMb hgv HLb
      go_simp
      refine hK1 _ _ (fun wx => Below w7.heap.size w7 wx) (Below.refl _ _) (fun h => by cases h) ?_
      clear hK1 K1
      refine wpPre_e rfl rfl (fun K1 hK1 => ?_)
      apply Exists.intro
      refine And.intro (fun wx hx => ?_) ?_
      · go_simp
        try rfl
      go_simp
      refine hK1 _ ?_
      clear hK1 K1
      refine wpPre_e rfl rfl (fun K1 hK1 => ?_)
      apply Exists.intro
      refine And.intro (fun wx hx => ?_) ?_
      · go_simp
        try rfl
      go_simp
      refine hK1 _ ?_
      clear hK1 K1
      refine wpPre_i rfl (fun K1 hK1 => ?_)
      rw [if_pos (by go_simp)]
      apply Exists.intro
      refine And.intro (fun wx hx => ?_) ?_
      · go_simp
        try rfl
      go_simp
      refine hK1 _ ?_
      clear hK1 K1
      refine wpPre_i rfl (fun K1 hK1 => ?_)
      rw [if_pos (by go_simp)]
      apply Exists.intro
      refine And.intro (fun wx hx => ?_) ?_
      · go_simp
        try rfl
      go_simp
      refine hK1 _ ?_
      clear hK1 K1
      refine wpPre_i rfl (fun K1 hK1 => ?_)
      rw [if_pos (by go_simp)]
      apply Exists.intro
      refine And.intro (fun wx hx => ?_) ?_
      · go_simp
        try rfl
      go_simp
      refine hK1 _ ?_
      clear hK1 K1
      refine wpPre_i rfl (fun K1 hK1 => ?_)
      rw [if_pos (by go_simp)]
      apply Exists.intro
      refine And.intro (fun wx hx => ?_) ?_
      · have e0 := below_fact hx rfl fa
        go_simp
        try rfl
      go_simp
      refine hK1 _ ?_
      clear hK1 K1
      refine wpPre_i rfl (fun K1 hK1 => ?_)
      rw [if_pos (by go_simp)]
      apply Exists.intro
      refine And.intro (fun wx hx => ?_) ?_
      · go_simp
        try rfl
      go_simp
      refine hK1 _ ?_
      clear hK1 K1
      refine wpPre_i rfl (fun K1 hK1 => ?_)
      rw [if_pos (by go_simp)]
      apply Exists.intro
      refine And.intro (fun wx hx => ?_) ?_
      · go_simp
        try rfl
      go_simp
      refine hK1 _ ?_
      clear hK1 K1
      refine wpPre_i rfl (fun K1 hK1 => ?_)
      rw [if_pos (by go_simp)]
      apply Exists.intro
      refine And.intro (fun wx hx => ?_) ?_
      · go_simp
        try rfl
      go_simp
      refine hK1 _ ?_
      clear hK1 K1
      refine wpPre_i rfl (fun K1 hK1 => ?_)
      rw [if_pos (by go_simp)]
      apply Exists.intro
      refine And.intro (fun wx hx => ?_) ?_
      · have e0 := below_fact hx rfl fb
        go_simp
        try rfl
      go_simp
      refine hK1 _ ?_
      clear hK1 K1
      refine wpPre_i rfl (fun K1 hK1 => ?_)
      rw [if_pos (by go_simp)]
      apply Exists.intro
      refine And.intro (fun wx hx => ?_) ?_
      · go_simp
        try rfl
      go_simp
      refine hK1 _ ?_
      clear hK1 K1
      refine wpPre_e rfl rfl (fun K1 hK1 => ?_)
      apply Exists.intro
      refine And.intro (fun wx hx => ?_) ?_
      · go_simp
        try rfl
      go_simp
      refine hK1 _ ?_
      clear hK1 K1
      refine wpPre_e rfl rfl (fun K1 hK1 => ?_)
      apply Exists.intro
      refine And.intro (fun wx hx => ?_) ?_
      · go_simp
        try rfl
      go_simp
      refine hK1 _ ?_
      clear hK1 K1
      refine wpPre_i rfl (fun K1 hK1 => ?_)
      rw [if_pos (by go_simp)]
      apply Exists.intro
      refine And.intro (fun wx hx => ?_) ?_
      · go_simp
        try rfl
      go_simp
      refine hK1 _ ?_
      clear hK1 K1
      refine wpPre_i rfl (fun K1 hK1 => ?_)
      rw [if_pos (by go_simp)]
      apply Exists.intro
      refine And.intro (fun wx hx => ?_) ?_
      · go_simp
        try rfl
      go_simp
      refine hK1 _ ?_
      clear hK1 K1
      refine wpPre_e rfl rfl (fun K1 hK1 => ?_)
      apply Exists.intro
      refine And.intro (fun wx hx => ?_) ?_
      · go_simp
        try rfl
      go_simp
      refine hK1 _ ?_
      clear hK1 K1
      refine wpPre_e rfl rfl (fun K1 hK1 => ?_)
      apply Exists.intro
      refine And.intro (fun wx hx => ?_) ?_
      · go_simp
        try rfl
      go_simp
      refine hK1 _ ?_
      clear hK1 K1
      refine wpPre_nil ?_
      refine wpTg_done ?_
      have HF := hid (HBw5.out.trans (HB6.out.trans HB7.out))
      clear fa fal fb fbl
      go_wp2
      exact bodyPost_ret (v := .bool true) (by simp [results, Tryd.results6, go_sem]) rfl ⟨rfl, HF.out⟩
end Go.Proofs.YtgnamngnmbaeeaaDoor
