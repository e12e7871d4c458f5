import Derived.Test.YtdncnnjhfipokabKsA
import Derived.Test.YtdncnnjhfipokabPack8
import Derived.Test.YtdncnnjhfipokabPack6
namespace Go.Proofs.Ytdncnnjhfipokab
open Go.RowKit
set_option maxRecDepth 8000
set_option maxHeartbeats 4000000 in
theorem yState (num : Int) (l u : LT VT) (w : World) (S R : Nat → Prop) (hl : LT.In elCell w S l) (hu : LT.In elCell w R u) (hal : LT.Alk VT.Alike l u) :
    Calls Try.prog 49 #[.agg #[.int .i64 num, .slice l.p l.n l.c], .agg #[.int .i64 num, .slice u.p u.n u.c]] w fun e w' => e = .returned (.bool true) ∧ Below w.heap.size w w' := by
  have hnn := hl.nn
  have hun := hal.n
  have H := hid hl
  have H' := hid hu
  have HA := hid hal
  have HT := hid (TwoK.start w #[.int .i64 num, .slice l.p l.n l.c] #[.int .i64 num, .slice u.p u.n u.c] 42)
  clear hl hu hal
  go_enter Try.func49, Try.ntmps49
  rw [hun] at HT ⊢
  go_wp2_with fail
  go_loopw [5] (fun x wr => ∃ j : Nat, j ≤ l.n ∧ x = .int .i64 j ∧ TwoK w wr #[.int .i64 num, .slice l.p l.n l.c] #[.int .i64 num, .slice u.p l.n u.c] 42) (fun x _ => l.n - (intOf x).toNat)
  case atStart => exact ⟨0, Nat.zero_le _, rfl, HT.out⟩
  case round =>
    obtain ⟨j, hj, rfl, hT1⟩ := hrel
    have HT1 := hid hT1
    have x1 := hT1.ba.cell 1
    have y1 := hT1.bb.cell 1
    have xl := hT1.ba.lt
    have yl := hT1.bb.lt
    simp at x1 y1
    clear hT1 HT
    by_cases hlt : j < l.n
    · have hlt' : (j : Int) < (l.n : Int) := by omega
      obtain ⟨b1, o1, hp, _, hl1, ha⟩ := H.out.at_ (show 0 < l.n by omega)
      obtain ⟨b2, o2, hp', _, hl2, ha'⟩ := H'.out.at_ (show 0 < u.n by omega)
      have hca : ∀ r v, (elCell.cells (l.item j))[r]? = some v → wr.cell? ⟨b1, o1 + j * 2 + r, none⟩ = some v := fun r v hv => (World.cell?_of_block (a := ⟨b1, o1 + j * 2 + r, none⟩) (HT1.out.bel.block b1 hl1)).trans (ha j hlt r v hv)
      have hcb : ∀ r v, (elCell.cells (u.item j))[r]? = some v → wr.cell? ⟨b2, o2 + j * 2 + r, none⟩ = some v := fun r v hv => (World.cell?_of_block (a := ⟨b2, o2 + j * 2 + r, none⟩) (HT1.out.bel.block b2 hl2)).trans (ha' j (by omega) r v hv)
      have a0 : wr.cell? ⟨b1, o1 + j * 2, none⟩ = some (.string (l.item j).text) := hca 0 _ rfl
      have a1 : wr.cell? ⟨b1, o1 + j * 2 + 1, none⟩ = some (.slice (l.item j).p (l.item j).n (l.item j).c) := hca 1 _ rfl
      have g0 : wr.cell? ⟨b2, o2 + j * 2, none⟩ = some (.string (u.item j).text) := hcb 0 _ rfl
      have g1 : wr.cell? ⟨b2, o2 + j * 2 + 1, none⟩ = some (.slice (u.item j).p (u.item j).n (u.item j).c) := hcb 1 _ rfl
      have hI : VT.In w S (l.item j) := H.out.each j hlt
      have hU : VT.In w R (u.item j) := H'.out.each j (by omega)
      have hAj := HA.out.item j hlt
      rw [hp] at x1
      rw [hp'] at y1
      clear hp hp'
      rw [hAj.text] at g0
      rw [hAj.n] at g1
      have hxn := hI.fit.nn
      have HI := hid hI
      have HU := hid hU
      have HAj := hid hAj
      have HE1 := hid (And.intro a1 g1)
      have hl1r : b1 < wr.heap.size := by have := HT1.out.bel.size; omega
      have hl2r : b2 < wr.heap.size := by have := HT1.out.bel.size; omega
      clear ha ha' hca hcb hI hU hAj
      go_wp2_with fail
      refine wp_region_calmD 30 (fun wx => Below wr.heap.size wr wx) [(0, true), (1, false), (2, true), (3, true), (4, true), (5, false), (6, true), (7, false), (8, true), (9, true), (10, true), (11, false), (12, true), (13, true), (14, true), (15, false), (16, true), (17, true), (18, true), (19, false), (20, true), (21, true), (22, false), (23, true), (24, true), (25, true), (26, false), (27, true), (28, true), (29, true)] [] (by kernel_rfl) (by kernel_rfl) (Below.refl _ _).drew ?_
      refine wpPre_e rfl rfl (fun K1 hK1 => ?_)
      apply Exists.intro
      refine And.intro (fun wx hx => ?_) ?_
      · go_simp
        try rfl
      go_simp
      refine hK1 _ ?_
      clear hK1 K1
      refine wpPre_e rfl rfl (fun K1 hK1 => ?_)
      apply Exists.intro
      refine And.intro (fun wx hx => ?_) ?_
      · have e0 := below_fact hx rfl x1
        have e1 := below_fact hx rfl y1
        have e2 := below_fact hx rfl a0
        have e3 := below_fact hx rfl a1
        have e4 := below_fact hx rfl g0
        have e5 := below_fact hx rfl g1
        go_simp
        try rfl
      go_simp
      refine hK1 _ ?_
      clear hK1 K1
      refine wpPre_e rfl rfl (fun K1 hK1 => ?_)
      apply Exists.intro
      refine And.intro (fun wx hx => ?_) ?_
      · go_simp
        try rfl
      go_simp
      refine hK1 _ ?_
      clear hK1 K1
      refine wpPre_e rfl rfl (fun K1 hK1 => ?_)
      apply Exists.intro
      refine And.intro (fun wx hx => ?_) ?_
      · go_simp
        try rfl
      go_simp
      refine hK1 _ ?_
      clear hK1 K1
      refine wpPre_e rfl rfl (fun K1 hK1 => ?_)
      apply Exists.intro
      refine And.intro (fun wx hx => ?_) ?_
      · go_simp
        try rfl
      go_simp
      refine hK1 _ ?_
      clear hK1 K1
      refine wpPre_e rfl rfl (fun K1 hK1 => ?_)
      apply Exists.intro
      refine And.intro (fun wx hx => ?_) ?_
      · have e0 := below_fact hx rfl x1
        have e1 := below_fact hx rfl y1
        have e2 := below_fact hx rfl a0
        have e3 := below_fact hx rfl a1
        have e4 := below_fact hx rfl g0
        have e5 := below_fact hx rfl g1
        go_simp
        try rfl
      go_simp
      refine hK1 _ ?_
      clear hK1 K1
      refine wpPre_e rfl rfl (fun K1 hK1 => ?_)
      apply Exists.intro
      refine And.intro (fun wx hx => ?_) ?_
      · go_simp
        try rfl
      go_simp
      refine hK1 _ ?_
      clear hK1 K1
      refine wpPre_e rfl rfl (fun K1 hK1 => ?_)
      apply Exists.intro
      refine And.intro (fun wx hx => ?_) ?_
      · have e0 := below_fact hx rfl x1
        have e1 := below_fact hx rfl y1
        have e2 := below_fact hx rfl a0
        have e3 := below_fact hx rfl a1
        have e4 := below_fact hx rfl g0
        have e5 := below_fact hx rfl g1
        go_simp
        try rfl
      go_simp
      refine hK1 _ ?_
      clear hK1 K1
      refine wpPre_e rfl rfl (fun K1 hK1 => ?_)
      apply Exists.intro
      refine And.intro (fun wx hx => ?_) ?_
      · go_simp
        try rfl
      go_simp
      refine hK1 _ ?_
      clear hK1 K1
      refine wpPre_e rfl rfl (fun K1 hK1 => ?_)
      apply Exists.intro
      refine And.intro (fun wx hx => ?_) ?_
      · go_simp
        try rfl
      go_simp
      refine hK1 _ ?_
      clear hK1 K1
      refine wpPre_e rfl rfl (fun K1 hK1 => ?_)
      apply Exists.intro
      refine And.intro (fun wx hx => ?_) ?_
      · go_simp
        try rfl
      go_simp
      refine hK1 _ ?_
      clear hK1 K1
      refine wpPre_e rfl rfl (fun K1 hK1 => ?_)
      apply Exists.intro
      refine And.intro (fun wx hx => ?_) ?_
      · have e0 := below_fact hx rfl x1
        have e1 := below_fact hx rfl y1
        have e2 := below_fact hx rfl a0
        have e3 := below_fact hx rfl a1
        have e4 := below_fact hx rfl g0
        have e5 := below_fact hx rfl g1
        go_simp
        try rfl
      go_simp
      refine hK1 _ ?_
      clear hK1 K1
      refine wpPre_e rfl rfl (fun K1 hK1 => ?_)
      apply Exists.intro
      refine And.intro (fun wx hx => ?_) ?_
      · go_simp
        try rfl
      go_simp
      refine hK1 _ ?_
      clear hK1 K1
      refine wpPre_e rfl rfl (fun K1 hK1 => ?_)
      apply Exists.intro
      refine And.intro (fun wx hx => ?_) ?_
      · go_simp
        try rfl
      go_simp
      refine hK1 _ ?_
      clear hK1 K1
      refine wpPre_i rfl (fun K1 hK1 => ?_)
      rw [if_pos (by go_simp)]
      apply Exists.intro
      refine And.intro (fun wx hx => ?_) ?_
      · go_simp
        try rfl
      go_simp
      refine hK1 _ ?_
      clear hK1 K1
      refine wpPre_i rfl (fun K1 hK1 => ?_)
      rw [if_pos (by go_simp)]
      apply Exists.intro
      refine And.intro (fun wx hx => ?_) ?_
      · have e0 := below_fact hx rfl x1
        have e1 := below_fact hx rfl y1
        have e2 := below_fact hx rfl a0
        have e3 := below_fact hx rfl a1
        have e4 := below_fact hx rfl g0
        have e5 := below_fact hx rfl g1
        go_simp
        try rfl
      go_simp
      refine hK1 _ ?_
      clear hK1 K1
      refine wpPre_i rfl (fun K1 hK1 => ?_)
      rw [if_pos (by go_simp)]
      apply Exists.intro
      refine And.intro (fun wx hx => ?_) ?_
      · go_simp
        try rfl
      go_simp
      refine hK1 _ ?_
      clear hK1 K1
      refine wpPre_i rfl (fun K1 hK1 => ?_)
      rw [if_pos (by go_simp)]
      apply Exists.intro
      refine And.intro (fun wx hx => ?_) ?_
      · go_simp
        try rfl
      go_simp
      refine hK1 _ ?_
      clear hK1 K1
      refine wpPre_i rfl (fun K1 hK1 => ?_)
      rw [if_pos (by go_simp)]
      apply Exists.intro
      refine And.intro (fun wx hx => ?_) ?_
      · go_simp
        try rfl
      go_simp
      refine hK1 _ ?_
      clear hK1 K1
      refine wpPre_i rfl (fun K1 hK1 => ?_)
      rw [if_pos (by go_simp)]
      apply Exists.intro
      refine And.intro (fun wx hx => ?_) ?_
      · have e0 := below_fact hx rfl x1
        have e1 := below_fact hx rfl y1
        have e2 := below_fact hx rfl a0
        have e3 := below_fact hx rfl a1
        have e4 := below_fact hx rfl g0
        have e5 := below_fact hx rfl g1
        go_simp
        try rfl
      go_simp
      refine hK1 _ ?_
      clear hK1 K1
      refine wpPre_i rfl (fun K1 hK1 => ?_)
      rw [if_pos (by go_simp)]
      apply Exists.intro
      refine And.intro (fun wx hx => ?_) ?_
      · go_simp
        try rfl
      go_simp
      refine hK1 _ ?_
      clear hK1 K1
      refine wpPre_i rfl (fun K1 hK1 => ?_)
      rw [if_pos (by go_simp)]
      apply Exists.intro
      refine And.intro (fun wx hx => ?_) ?_
      · go_simp
        try rfl
      go_simp
      refine hK1 _ ?_
      clear hK1 K1
      refine wpPre_i rfl (fun K1 hK1 => ?_)
      rw [if_pos (by go_simp)]
      apply Exists.intro
      refine And.intro (fun wx hx => ?_) ?_
      · have e0 := below_fact hx rfl x1
        have e1 := below_fact hx rfl y1
        have e2 := below_fact hx rfl a0
        have e3 := below_fact hx rfl a1
        have e4 := below_fact hx rfl g0
        have e5 := below_fact hx rfl g1
        go_simp
        try rfl
      go_simp
      refine hK1 _ ?_
      clear hK1 K1
      refine wpPre_i rfl (fun K1 hK1 => ?_)
      rw [if_pos (by go_simp)]
      apply Exists.intro
      refine And.intro (fun wx hx => ?_) ?_
      · go_simp
        try rfl
      go_simp
      refine hK1 _ ?_
      clear hK1 K1
      refine wpPre_i rfl (fun K1 hK1 => ?_)
      rw [if_pos (by go_simp)]
      apply Exists.intro
      refine And.intro (fun wx hx => ?_) ?_
      · go_simp
        try rfl
      go_simp
      refine hK1 _ ?_
      clear hK1 K1
      refine wpPre_i rfl (fun K1 hK1 => ?_)
      rw [if_pos (by go_simp)]
      apply Exists.intro
      refine And.intro (fun wx hx => ?_) ?_
      · go_simp
        try rfl
      go_simp
      refine hK1 _ ?_
      clear hK1 K1
      refine wpPre_i rfl (fun K1 hK1 => ?_)
      rw [if_pos (by go_simp)]
      apply Exists.intro
      refine And.intro (fun wx hx => ?_) ?_
      · have e0 := below_fact hx rfl x1
        have e1 := below_fact hx rfl y1
        have e2 := below_fact hx rfl a0
        have e3 := below_fact hx rfl a1
        have e4 := below_fact hx rfl g0
        have e5 := below_fact hx rfl g1
        go_simp
        try rfl
      go_simp
      refine hK1 _ ?_
      clear hK1 K1
      refine wpPre_i rfl (fun K1 hK1 => ?_)
      rw [if_pos (by go_simp)]
      apply Exists.intro
      refine And.intro (fun wx hx => ?_) ?_
      · go_simp
        try rfl
      go_simp
      refine hK1 _ ?_
      clear hK1 K1
      refine wpPre_i rfl (fun K1 hK1 => ?_)
      rw [if_pos (by go_simp)]
      apply Exists.intro
      refine And.intro (fun wx hx => ?_) ?_
      · go_simp
        try rfl
      go_simp
      refine hK1 _ ?_
      clear hK1 K1
      refine wpPre_e rfl rfl (fun K1 hK1 => ?_)
      apply Exists.intro
      refine And.intro (fun wx hx => ?_) ?_
      · go_simp
        try rfl
      go_simp
      refine hK1 _ ?_
      clear hK1 K1
      refine wpPre_nil ?_
      refine wpStg_nil ?_
      go_wp2_with fail
      clear a0 g0
      obtain ⟨wo, hwo⟩ : ∃ x, x = wr := ⟨_, rfl⟩
      subst hwo
      go_loopw [6] (fun x wr => ∃ m : Nat, m ≤ (l.item j).n ∧ x = .int .i64 m ∧ Below wo.heap.size wo wr) (fun x _ => (l.item j).n - (intOf x).toNat)
      case atStart => exact ⟨0, Nat.zero_le _, rfl, (Below.refl _ _).drew⟩
      case round =>
        obtain ⟨m, hm, rfl, hbq⟩ := hrel
        have xl0 := HT1.out.ba.lt
        have yl0 := HT1.out.bb.lt
        have HBq := hid hbq
        have hT2 := HT1.out.below hbq
        have HT2 := hid hT2
        have xl := hT2.ba.lt
        have yl := hT2.bb.lt
        have x1 := (World.cell?_of_block (a := ⟨w.heap.size, 1, none⟩) (hbq.block _ xl0)).trans x1
        have y1 := (World.cell?_of_block (a := ⟨w.heap.size + 1, 1, none⟩) (hbq.block _ yl0)).trans y1
        have a1 := (World.cell?_of_block (a := ⟨b1, o1 + j * 2 + 1, none⟩) (hbq.block b1 hl1r)).trans HE1.out.1
        have g1 := (World.cell?_of_block (a := ⟨b2, o2 + j * 2 + 1, none⟩) (hbq.block b2 hl2r)).trans HE1.out.2
        clear hT2
        by_cases hlm : m < (l.item j).n
        · have hlm' : (m : Int) < ((l.item j).n : Int) := by omega
          have hlm2 : m < (u.item j).n := by have := HAj.out.n; omega
          obtain ⟨bb, oo, hp3, hSb, hbl3, hat⟩ := HI.out.at_ (by omega)
          obtain ⟨bb2, oo2, hp4, hSb2, hbl4, hat2⟩ := HU.out.at_ (by omega)
          rw [hp3] at a1
          rw [hp4] at g1
          have hbw : Below w.heap.size w wr := HT2.out.bel
          obtain ⟨c0, c1, c2, c3⟩ := (hat m hlm).kept (hbw.block bb hbl3)
          obtain ⟨d0, d1, d2, d3⟩ := (hat2 m hlm2).kept (hbw.block bb2 hbl4)
          have HC : Hid (∀ W, Below wr.heap.size wr W → Calls Try.prog 59 #[.agg #[.int .i64 ((l.item j).item m).kind, .int .i64 ((l.item j).item m).int, .string ((l.item j).item m).text, .slice ((l.item j).item m).p ((l.item j).item m).n ((l.item j).item m).c], .agg #[.int .i64 ((u.item j).item m).kind, .int .i64 ((u.item j).item m).int, .string ((u.item j).item m).text, .slice ((u.item j).item m).p ((u.item j).item m).n ((u.item j).item m).c]] W fun e w' => YesNo (VT.Alike ((l.item j).item m) ((u.item j).item m)) e W w') := fun W hW =>
            yValue ((l.item j).item m) ((u.item j).item m) W (fun b => S b ∧ b < w.heap.size) (fun b => R b ∧ b < w.heap.size) ((((HI.out.sub hlm).mono fun b hb hl => ⟨hb, hl⟩).kept hbw.size (fun b hb _ => hbw.block b hb.2)).below hW) ((((HU.out.sub hlm2).mono fun b hb hl => ⟨hb, hl⟩).kept hbw.size (fun b hb _ => hbw.block b hb.2)).below hW)
          have HIt := hid (HAj.out.item hlm)
          clear hat hat2 hbw hbq hp3 hp4
          go_wp2_with fail
          refine wp_region_calmE 30 (fun wx => Below wr.heap.size wr wx) [(0, true), (1, false), (2, true), (3, true), (4, true), (5, false), (6, true), (7, true), (8, false), (9, true), (10, false), (11, true), (12, true), (13, true), (14, false), (15, true), (16, true), (17, false)] (.one 18 false [(19, true)] .done) (by kernel_rfl) (by kernel_rfl) (Below.refl _ _).drew ?_
          refine wpPre_e rfl rfl (fun K1 hK1 => ?_)
          apply Exists.intro
          refine And.intro (fun wx hx => ?_) ?_
          · go_simp
            try rfl
          go_simp
          refine hK1 _ ?_
          clear hK1 K1
          refine wpPre_e rfl rfl (fun K1 hK1 => ?_)
          apply Exists.intro
          refine And.intro (fun wx hx => ?_) ?_
          · have e0 := below_fact hx rfl x1
            have e1 := below_fact hx rfl y1
            have e2 := below_fact hx rfl a1
            have e3 := below_fact hx rfl g1
            have e4 := below_fact hx rfl c0
            have e5 := below_fact hx rfl c1
            have e6 := below_fact hx rfl c2
            have e7 := below_fact hx rfl c3
            have e8 := below_fact hx rfl d0
            have e9 := below_fact hx rfl d1
            have e10 := below_fact hx rfl d2
            have e11 := below_fact hx rfl d3
            go_simp
            try rfl
          go_simp
          refine hK1 _ ?_
          clear hK1 K1
          refine wpPre_e rfl rfl (fun K1 hK1 => ?_)
          apply Exists.intro
          refine And.intro (fun wx hx => ?_) ?_
          · go_simp
            try rfl
          go_simp
          refine hK1 _ ?_
          clear hK1 K1
          refine wpPre_e rfl rfl (fun K1 hK1 => ?_)
          apply Exists.intro
          refine And.intro (fun wx hx => ?_) ?_
          · go_simp
            try rfl
          go_simp
          refine hK1 _ ?_
          clear hK1 K1
          refine wpPre_e rfl rfl (fun K1 hK1 => ?_)
          apply Exists.intro
          refine And.intro (fun wx hx => ?_) ?_
          · go_simp
            try rfl
          go_simp
          refine hK1 _ ?_
          clear hK1 K1
          refine wpPre_e rfl rfl (fun K1 hK1 => ?_)
          apply Exists.intro
          refine And.intro (fun wx hx => ?_) ?_
          · have e0 := below_fact hx rfl x1
            have e1 := below_fact hx rfl y1
            have e2 := below_fact hx rfl a1
            have e3 := below_fact hx rfl g1
            have e4 := below_fact hx rfl c0
            have e5 := below_fact hx rfl c1
            have e6 := below_fact hx rfl c2
            have e7 := below_fact hx rfl c3
            have e8 := below_fact hx rfl d0
            have e9 := below_fact hx rfl d1
            have e10 := below_fact hx rfl d2
            have e11 := below_fact hx rfl d3
            go_simp
            try rfl
          go_simp
          refine hK1 _ ?_
          clear hK1 K1
          refine wpPre_e rfl rfl (fun K1 hK1 => ?_)
          apply Exists.intro
          refine And.intro (fun wx hx => ?_) ?_
          · go_simp
            try rfl
          go_simp
          refine hK1 _ ?_
          clear hK1 K1
          refine wpPre_e rfl rfl (fun K1 hK1 => ?_)
          apply Exists.intro
          refine And.intro (fun wx hx => ?_) ?_
          · go_simp
            try rfl
          go_simp
          refine hK1 _ ?_
          clear hK1 K1
          refine wpPre_e rfl rfl (fun K1 hK1 => ?_)
          apply Exists.intro
          refine And.intro (fun wx hx => ?_) ?_
          · have e0 := below_fact hx rfl x1
            have e1 := below_fact hx rfl y1
            have e2 := below_fact hx rfl a1
            have e3 := below_fact hx rfl g1
            have e4 := below_fact hx rfl c0
            have e5 := below_fact hx rfl c1
            have e6 := below_fact hx rfl c2
            have e7 := below_fact hx rfl c3
            have e8 := below_fact hx rfl d0
            have e9 := below_fact hx rfl d1
            have e10 := below_fact hx rfl d2
            have e11 := below_fact hx rfl d3
            go_simp
            try rfl
          go_simp
          refine hK1 _ ?_
          clear hK1 K1
          refine wpPre_e rfl rfl (fun K1 hK1 => ?_)
          apply Exists.intro
          refine And.intro (fun wx hx => ?_) ?_
          · go_simp
            try rfl
          go_simp
          refine hK1 _ ?_
          clear hK1 K1
          refine wpPre_e rfl rfl (fun K1 hK1 => ?_)
          apply Exists.intro
          refine And.intro (fun wx hx => ?_) ?_
          · have e0 := below_fact hx rfl x1
            have e1 := below_fact hx rfl y1
            have e2 := below_fact hx rfl a1
            have e3 := below_fact hx rfl g1
            have e4 := below_fact hx rfl c0
            have e5 := below_fact hx rfl c1
            have e6 := below_fact hx rfl c2
            have e7 := below_fact hx rfl c3
            have e8 := below_fact hx rfl d0
            have e9 := below_fact hx rfl d1
            have e10 := below_fact hx rfl d2
            have e11 := below_fact hx rfl d3
            go_simp
            try rfl
          go_simp
          refine hK1 _ ?_
          clear hK1 K1
          refine wpPre_e rfl rfl (fun K1 hK1 => ?_)
          apply Exists.intro
          refine And.intro (fun wx hx => ?_) ?_
          · go_simp
            try rfl
          go_simp
          refine hK1 _ ?_
          clear hK1 K1
          refine wpPre_e rfl rfl (fun K1 hK1 => ?_)
          apply Exists.intro
          refine And.intro (fun wx hx => ?_) ?_
          · go_simp
            try rfl
          go_simp
          refine hK1 _ ?_
          clear hK1 K1
          refine wpPre_e rfl rfl (fun K1 hK1 => ?_)
          apply Exists.intro
          refine And.intro (fun wx hx => ?_) ?_
          · go_simp
            try rfl
          go_simp
          refine hK1 _ ?_
          clear hK1 K1
          refine wpPre_e rfl rfl (fun K1 hK1 => ?_)
          apply Exists.intro
          refine And.intro (fun wx hx => ?_) ?_
          · have e0 := below_fact hx rfl x1
            have e1 := below_fact hx rfl y1
            have e2 := below_fact hx rfl a1
            have e3 := below_fact hx rfl g1
            have e4 := below_fact hx rfl c0
            have e5 := below_fact hx rfl c1
            have e6 := below_fact hx rfl c2
            have e7 := below_fact hx rfl c3
            have e8 := below_fact hx rfl d0
            have e9 := below_fact hx rfl d1
            have e10 := below_fact hx rfl d2
            have e11 := below_fact hx rfl d3
            go_simp
            try rfl
          go_simp
          refine hK1 _ ?_
          clear hK1 K1
          refine wpPre_e rfl rfl (fun K1 hK1 => ?_)
          apply Exists.intro
          refine And.intro (fun wx hx => ?_) ?_
          · go_simp
            try rfl
          go_simp
          refine hK1 _ ?_
          clear hK1 K1
          refine wpPre_e rfl rfl (fun K1 hK1 => ?_)
          apply Exists.intro
          refine And.intro (fun wx hx => ?_) ?_
          · go_simp
            try rfl
          go_simp
          refine hK1 _ ?_
          clear hK1 K1
          refine wpPre_e rfl rfl (fun K1 hK1 => ?_)
          apply Exists.intro
          refine And.intro (fun wx hx => ?_) ?_
          · have e0 := below_fact hx rfl x1
            have e1 := below_fact hx rfl y1
            have e2 := below_fact hx rfl a1
            have e3 := below_fact hx rfl g1
            have e4 := below_fact hx rfl c0
            have e5 := below_fact hx rfl c1
            have e6 := below_fact hx rfl c2
            have e7 := below_fact hx rfl c3
            have e8 := below_fact hx rfl d0
            have e9 := below_fact hx rfl d1
            have e10 := below_fact hx rfl d2
            have e11 := below_fact hx rfl d3
            go_simp
            try rfl
          go_simp
          refine hK1 _ ?_
          clear hK1 K1
          refine wpPre_nil ?_
          refine wpTr_e rfl (fun K1 hK1 => ?_)
          refine step_call rfl 59 #[.tmp 77, .tmp 86] _ rfl Try.f59 Try.func59 (by kernel_rfl) rfl #[.agg #[.int .i64 ((l.item j).item m).kind, .int .i64 ((l.item j).item m).int, .string ((l.item j).item m).text, .slice ((l.item j).item m).p ((l.item j).item m).n ((l.item j).item m).c], .agg #[.int .i64 ((u.item j).item m).kind, .int .i64 ((u.item j).item m).int, .string ((u.item j).item m).text, .slice ((u.item j).item m).p ((u.item j).item m).n ((u.item j).item m).c]] rfl _ (HC.out _ (Below.refl _ _).drew) (fun e w4 h4 => ?_)
          obtain ⟨r4, rfl, hr4, hb4⟩ := h4
          obtain rfl : r4 = true := hr4.2 HIt.out
          refine ⟨_, rfl, ?_⟩
          have HB4 : Hid (Below wo.heap.size wo w4) := HBq.out.trans (((Below.refl wr.heap.size wr).drew.trans hb4).mono HBq.out.size)
          clear hr4 hb4 HC
          go_simp
          refine hK1 _ _ (fun h => by cases h) ?_
          clear hK1 K1
          refine wpPre_e rfl rfl (fun K1 hK1 => ?_)
          apply Exists.intro
          refine And.intro (fun wx hx => ?_) ?_
          · go_simp
            try rfl
          go_simp
          refine hK1 _ ?_
          clear hK1 K1
          refine wpPre_nil ?_
          refine wpTr_done ?_
          go_wp2
          go_roundw
          case rel => exact ⟨m + 1, by omega, by go_num, HB4.out⟩
          case measure => simp [intOf]; omega
        · have hlm' : ¬ (m : Int) < ((l.item j).n : Int) := by omega
          clear hbq
          go_wp2
          go_roundw
          case rel => exact ⟨j + 1, by omega, by go_num, HT2.out⟩
          case measure => simp [intOf]; omega
    · have hlt' : ¬ (j : Int) < (l.n : Int) := by omega
      go_wp2
      go_ret
      exact ⟨rfl, HT1.out.bel⟩
end Go.Proofs.Ytdncnnjhfipokab
