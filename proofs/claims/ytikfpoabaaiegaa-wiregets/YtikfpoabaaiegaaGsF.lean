import Derived.Test.YtikfpoabaaiegaaPack34
import Derived.Test.YtikfpoabaaiegaaPack10
import Derived.Test.YtikfpoabaaiegaaPack9
namespace Go.Proofs.Ytikfpoabaaiegaa
open Go.RowKit
set_option maxRecDepth 8000
set_option maxHeartbeats 16000000 in
theorem refGetSeg (w : World) (S : Nat → Prop) (p : Option Addr) (c : Nat) (B : List Int) (hB : Byts w S p B.length c (fun j => B.getD j 0)) (hS : ∀ b, S b → b < w.heap.size) (hl : B.length ≤ 1000000) (hBy : Byt B) : Calls Try.prog 25 #[.slice p B.length c] w fun x w' => ∃ t k, x = .returned (.tuple #[GT.val t, .int .i64 k]) ∧ GetP segS GT.val zGT GT.In GT.Is w B t k w' := by
  have ha : Below w.heap.size w (w.alloc (.cells #[.int .i64 0, .int .i64 0, .int .i64 0, .int .u32 0, .int .i64 0, .slice none 0 0, .int .i64 0, .slice none 0 0, .slice none 0 0, .slice none 0 0, .slice none 0 0] 38)) := (Below.refl _ _).alloc (Nat.le_refl _) _
  have hz0 : (w.alloc (.cells #[.int .i64 0, .int .i64 0, .int .i64 0, .int .u32 0, .int .i64 0, .slice none 0 0, .int .i64 0, .slice none 0 0, .slice none 0 0, .slice none 0 0, .slice none 0 0] 38)).heap.size = w.heap.size + 1 := by simp
  have hBa := hB.kept ha.size fun b _ hl => ha.block b hl
  have HW := hid (refWalk_any (w0 := (w.alloc (.cells #[.int .i64 0, .int .i64 0, .int .i64 0, .int .u32 0, .int .i64 0, .slice none 0 0, .int .i64 0, .slice none 0 0, .slice none 0 0, .slice none 0 0, .slice none 0 0] 38))) (rb := (w.alloc (.cells #[.int .i64 0, .int .i64 0, .int .i64 0, .int .u32 0, .int .i64 0, .slice none 0 0, .int .i64 0, .slice none 0 0, .slice none 0 0, .slice none 0 0, .slice none 0 0] 38)).heap.size) (bp := p) (bc := c) (S := S) (B := B) ⟨hBa, (fun b hb => by have := hS b hb; omega), hl⟩ 4 ⟨#[83, 105, 116, 105]⟩ (by decide) _ ⟨[], [], []⟩ 0 (GMv.new (w.alloc (.cells #[.int .i64 0, .int .i64 0, .int .i64 0, .int .u32 0, .int .i64 0, .slice none 0 0, .int .i64 0, .slice none 0 0, .slice none 0 0, .slice none 0 0, .slice none 0 0] 38)) p B.length c) (Nat.zero_le _) ⟨Nat.le_refl _, Nat.le_refl _, Nat.le_refl _⟩ (.inr (by decide)) (by rw [walk_front4, List.drop_zero]; exact (low_bind low_front fun _ => low_ret _).no B))
  rw [walk_front4] at HW
  have HCW := hid (fun (W : World) (hW : Below w.heap.size w W) => refGet_any W S p c B (hB.kept hW.size fun b _ hl => hW.block b hl) (fun b hb => by have := hS b hb; have := hW.size; omega) hl 12 ⟨#[83, 105, 116, 105, 110, 60, 99, 107, 91, 98, 118, 93, 62, 91, 112, 91, 108, 107, 118, 91, 97, 104, 93, 93, 93, 91, 108, 107, 118, 91, 97, 104, 93, 93]⟩ (by decide) (by decide) (by rw [walk_whole12]; exact (low_bind low_front fun _ => low_bind low_whole fun _ => low_ret _).no B))
  rw [walk_whole12] at HCW
  have HCP := hid (fun (W : World) (hW : Below w.heap.size w W) => refGet_any W S p c B (hB.kept hW.size fun b _ hl => hW.block b hl) (fun b hb => by have := hS b hb; have := hW.size; omega) hl 14 ⟨#[83, 105, 116, 105, 119, 110, 60, 99, 107, 91, 98, 118, 93, 62, 60, 99, 107, 62, 91, 112, 91, 108, 107, 118, 91, 97, 104, 93, 93, 93, 91, 108, 107, 118, 91, 97, 104, 93, 93]⟩ (by decide) (by decide) (by rw [walk_patch14]; exact (low_bind low_front fun _ => low_bind low_patch fun _ => low_ret _).no B))
  rw [walk_patch14] at HCP
  have HA := hid ha
  have HV := hid (Box.new w #[.int .i64 0, .int .i64 0, .int .i64 0, .int .u32 0, .int .i64 0, .slice none 0 0, .int .i64 0, .slice none 0 0, .slice none 0 0, .slice none 0 0, .slice none 0 0] 38)
  have HBy := hid hBy
  clear hB hS ha hBy hBa
  obtain ⟨n, hn⟩ : ∃ n, n = B.length := ⟨_, rfl⟩
  rw [← hn] at HW HCW HCP ⊢
  rw [hz0] at HW
  have HNl := hid (And.intro hn hl)
  clear hn hl
  go_enter Try.func25, Try.ntmps25
  go_wp2_with fail
  refine HW.out.mono ?_
  rintro x w3 ⟨rfl, hst⟩
  unfold StP at hst
  rw [List.drop_zero] at hst
  clear HW
  cases hF : frontS B with
  | error e =>
    obtain ⟨hk0, pa, g, hg⟩ := hst.2 e (bindS_no hF)
    have d2 := hg.cell2
    have hk' : ((e : Int) == 0) = false := by simpa using hk0
    have hb3 := hg.below
    have hs3 := hb3.size
    have hv := HV.out.below (by rw [hz0]; exact hb3)
    have HB3 := hid hb3
    have HRb := hid hg.lt
    have HSeg : Hid (segS B = .error e) := by
      unfold Hid
      rw [seg_front, bindS_no hF]
    have HK0 := hid hk0
    clear hst hF hg hb3 HCW HCP hk0
    have c0 := hv.cell 0
    have f0 := hv.frozen 0
    have c1 := hv.cell 1
    have f1 := hv.frozen 1
    have c2 := hv.cell 2
    have f2 := hv.frozen 2
    have c3 := hv.cell 3
    have f3 := hv.frozen 3
    have c4 := hv.cell 4
    have f4 := hv.frozen 4
    have c5 := hv.cell 5
    have f5 := hv.frozen 5
    have c6 := hv.cell 6
    have f6 := hv.frozen 6
    have c7 := hv.cell 7
    have f7 := hv.frozen 7
    have c8 := hv.cell 8
    have f8 := hv.frozen 8
    have c9 := hv.cell 9
    have f9 := hv.frozen 9
    have c10 := hv.cell 10
    have f10 := hv.frozen 10
    simp only [List.getElem?_toArray, List.getElem?_cons_zero, List.getElem?_cons_succ] at c0 c1 c2 c3 c4 c5 c6 c7 c8 c9 c10
    have zz := set11_box hv (.int .i64 0) (.int .i64 0) (.int .i64 0) (.int .u32 0) (.int .i64 0) (.slice none 0 0) (.int .i64 0) (.slice none 0 0) (.slice none 0 0) (.slice none 0 0) (.slice none 0 0)
    have r0' := zz.cell 0
    have r1' := zz.cell 1
    have r2' := zz.cell 2
    have r3' := zz.cell 3
    have r4' := zz.cell 4
    have r5' := zz.cell 5
    have r6' := zz.cell 6
    have r7' := zz.cell 7
    have r8' := zz.cell 8
    have r9' := zz.cell 9
    have r10' := zz.cell 10
    simp only [List.getElem?_toArray, List.getElem?_cons_zero, List.getElem?_cons_succ] at r0' r1' r2' r3' r4' r5' r6' r7' r8' r9' r10'
    have HZ := hid (And.intro r0' (And.intro r1' (And.intro r2' (And.intro r3' (And.intro r4' (And.intro r5' (And.intro r6' (And.intro r7' (And.intro r8' (And.intro r9' r10'))))))))))
    clear zz r0' r1' r2' r3' r4' r5' r6' r7' r8' r9' r10'
    clear hv
    go_wp2_with fail
    refine wp_region_calmE 30 (fun wx => wx.cell? ⟨w.heap.size + 1, 2, none⟩ = some (.int .i64 (e : Int))) [(0, true), (1, true), (2, true), (3, true), (4, false)] (.one 5 true [(6, true)] .done) (by kernel_rfl) (by kernel_rfl) d2 ?_
    refine wpPre_e rfl rfl (fun K1 hK1 => ?_)
    apply Exists.intro
    refine And.intro (fun wx hx => ?_) ?_
    · go_simp
      try rfl
    go_simp
    refine hK1 _ ?_
    clear hK1 K1
    refine wpPre_e rfl rfl (fun K1 hK1 => ?_)
    apply Exists.intro
    refine And.intro (fun wx hx => ?_) ?_
    · go_simp
      try rfl
    go_simp
    refine hK1 _ ?_
    clear hK1 K1
    refine wpPre_e rfl rfl (fun K1 hK1 => ?_)
    apply Exists.intro
    refine And.intro (fun wx hx => ?_) ?_
    · go_simp
      try rfl
    go_simp
    refine hK1 _ ?_
    clear hK1 K1
    refine wpPre_e rfl rfl (fun K1 hK1 => ?_)
    apply Exists.intro
    refine And.intro (fun wx hx => ?_) ?_
    · go_simp
      try rfl
    go_simp
    refine hK1 _ ?_
    clear hK1 K1
    refine wpPre_e rfl rfl (fun K1 hK1 => ?_)
    apply Exists.intro
    refine And.intro (fun wx hx => ?_) ?_
    · have e0 := hx.resolve_left (by decide)
      go_simp
      try rfl
    go_simp
    refine hK1 _ ?_
    clear hK1 K1
    refine wpPre_nil ?_
    refine wpTr_e rfl (fun K1 hK1 => ?_)
    go_simp
    have hff := (But.sets11 w3 w.heap.size (.int .i64 0) (.int .i64 0) (.int .i64 0) (.int .u32 0) (.int .i64 0) (.slice none 0 0) (.int .i64 0) (.slice none 0 0) (.slice none 0 0) (.slice none 0 0) (.slice none 0 0)).drew
    refine hK1 _ _ (fun _ => (World.cell?_of_block (a := ⟨w.heap.size + 1, 2, none⟩) (hff.block (w.heap.size + 1) HRb.out (by omega))).trans d2) ?_
    clear hK1 K1
    refine wpPre_e rfl rfl (fun K1 hK1 => ?_)
    apply Exists.intro
    refine And.intro (fun wx hx => ?_) ?_
    · go_simp
      try rfl
    go_simp
    refine hK1 _ ?_
    clear hK1 K1
    refine wpPre_nil ?_
    refine wpTr_done ?_
    go_wp2
    obtain ⟨r0', r1', r2', r3', r4', r5', r6', r7', r8', r9', r10'⟩ := HZ.out
    have hfin := But.sets11 w3 w.heap.size (.int .i64 0) (.int .i64 0) (.int .i64 0) (.int .u32 0) (.int .i64 0) (.slice none 0 0) (.int .i64 0) (.slice none 0 0) (.slice none 0 0) (.slice none 0 0) (.slice none 0 0)
    have hbf : Below w.heap.size w _ := (HA.out.trans (HB3.out.mono (by omega))).trans (hfin.drew.below (by omega) (fun k hk e => by omega))
    refine bodyPost_ret (v := .tuple #[.agg #[.int .i64 0, .int .i64 0, .int .i64 0, .int .u32 0, .int .i64 0, .slice none 0 0, .int .i64 0, .slice none 0 0, .slice none 0 0, .slice none 0 0, .slice none 0 0], .int .i64 (e : Int)]) (by simp [results, Try.results25, go_sem, r0', r1', r2', r3', r4', r5', r6', r7', r8', r9', r10']) rfl ⟨zGT, (e : Int), rfl, hbf, in_zGT _ _, fun y hy => ?_, fun y z R hy => ?_, fun e he => ?_⟩
    · rw [HSeg.out] at hy; cases hy
    · rw [HSeg.out] at hy; cases hy
    · rw [HSeg.out] at he; cases he; exact ⟨rfl, HK0.out, rfl⟩
  | ok z =>
    obtain ⟨⟨ii, tt, bb⟩, R⟩ := z
    obtain ⟨p', hp', hR', hws⟩ := hst.1 (dFront (ii, tt, bb)) R (bindS_at hF)
    obtain ⟨hi1, hi2, hi3, hbR⟩ := front_small hF HBy.out
    obtain ⟨fa, fb, fc, fV, hG0, _⟩ := hws.gm
    have hb3 : Below (w.alloc (.cells #[.int .i64 0, .int .i64 0, .int .i64 0, .int .u32 0, .int .i64 0, .slice none 0 0, .int .i64 0, .slice none 0 0, .slice none 0 0, .slice none 0 0, .slice none 0 0] 38)).heap.size (w.alloc (.cells #[.int .i64 0, .int .i64 0, .int .i64 0, .int .u32 0, .int .i64 0, .slice none 0 0, .int .i64 0, .slice none 0 0, .slice none 0 0, .slice none 0 0, .slice none 0 0] 38)) w3 := by rw [hz0]; exact hG0.below
    have hs3 := hb3.size
    have hrb0 := hG0.box.lt
    obtain ⟨g, cap, rfl, hc2, hgne, hgl, _⟩ := hG0.numAt (i := 2) (x := (bb : Int)) rfl
    rw [show (dFront (ii, tt, bb)).N.length = 3 from rfl] at hG0
    have d2 := hG0.box.cell 2
    have d3 := hG0.box.cell 3
    simp at d2 d3
    have HBF : Hid (Below w.heap.size w w3) := HA.out.trans (hb3.mono (by omega))
    have HV3 := hid (HV.out.below hb3)
    have HF := hid hF
    have HbR := hid hbR
    have HFr := hid (And.intro hi1 (And.intro hi2 hi3))
    clear hst hF hws hG0 hb3 hbR hi1 hi2 hi3 HV hR' hp' hgne hgl
    by_cases hb0 : bb = 0
    · have hbg : ¬ (0 : Int) < (bb : Int) := by omega
      go_wp2_with fail
      refine (HCW.out w3 HBF.out).mono ?_
      rintro x w1 ⟨k, rfl, hg⟩
      have hs1 := hg.bel.size
      have HV1 := hid (HV3.out.below hg.bel)
      have HBE1 : Hid (Below w.heap.size w w1) := HBF.out.trans (hg.bel.mono (by omega))
      cases hZ : wholeS_ R with
      | error e =>
        obtain ⟨hk, hne⟩ := hg.bad e (by rw [bindS_at HF.out]; exact bindS_no hZ)
        subst hk
        have hk' : ((e : Int) == 0) = false := by simpa using hne
        have HSeg : Hid (segS B = .error e) := by
          unfold Hid
          rw [seg_whole HF.out hb0]
          exact bindS_no hZ
        have HK0 := hid hne
        have hv := HV1.out
        clear hZ hg hne HCW HCP
        have c0 := hv.cell 0
        have f0 := hv.frozen 0
        have c1 := hv.cell 1
        have f1 := hv.frozen 1
        have c2 := hv.cell 2
        have f2 := hv.frozen 2
        have c3 := hv.cell 3
        have f3 := hv.frozen 3
        have c4 := hv.cell 4
        have f4 := hv.frozen 4
        have c5 := hv.cell 5
        have f5 := hv.frozen 5
        have c6 := hv.cell 6
        have f6 := hv.frozen 6
        have c7 := hv.cell 7
        have f7 := hv.frozen 7
        have c8 := hv.cell 8
        have f8 := hv.frozen 8
        have c9 := hv.cell 9
        have f9 := hv.frozen 9
        have c10 := hv.cell 10
        have f10 := hv.frozen 10
        simp only [List.getElem?_toArray, List.getElem?_cons_zero, List.getElem?_cons_succ] at c0 c1 c2 c3 c4 c5 c6 c7 c8 c9 c10
        have zz := set11_box hv (.int .i64 0) (.int .i64 0) (.int .i64 0) (.int .u32 0) (.int .i64 0) (.slice none 0 0) (.int .i64 0) (.slice none 0 0) (.slice none 0 0) (.slice none 0 0) (.slice none 0 0)
        have r0' := zz.cell 0
        have r1' := zz.cell 1
        have r2' := zz.cell 2
        have r3' := zz.cell 3
        have r4' := zz.cell 4
        have r5' := zz.cell 5
        have r6' := zz.cell 6
        have r7' := zz.cell 7
        have r8' := zz.cell 8
        have r9' := zz.cell 9
        have r10' := zz.cell 10
        simp only [List.getElem?_toArray, List.getElem?_cons_zero, List.getElem?_cons_succ] at r0' r1' r2' r3' r4' r5' r6' r7' r8' r9' r10'
        have HZ := hid (And.intro r0' (And.intro r1' (And.intro r2' (And.intro r3' (And.intro r4' (And.intro r5' (And.intro r6' (And.intro r7' (And.intro r8' (And.intro r9' r10'))))))))))
        clear zz r0' r1' r2' r3' r4' r5' r6' r7' r8' r9' r10'
        clear hv
        go_wp2
        obtain ⟨r0', r1', r2', r3', r4', r5', r6', r7', r8', r9', r10'⟩ := HZ.out
        have hfin := But.sets11 w1 w.heap.size (.int .i64 0) (.int .i64 0) (.int .i64 0) (.int .u32 0) (.int .i64 0) (.slice none 0 0) (.int .i64 0) (.slice none 0 0) (.slice none 0 0) (.slice none 0 0) (.slice none 0 0)
        have hbf : Below w.heap.size w _ := (HBE1.out).trans (hfin.below (by omega) (fun k hk e => by omega))
        refine bodyPost_ret (v := .tuple #[.agg #[.int .i64 0, .int .i64 0, .int .i64 0, .int .u32 0, .int .i64 0, .slice none 0 0, .int .i64 0, .slice none 0 0, .slice none 0 0, .slice none 0 0, .slice none 0 0], .int .i64 (e : Int)]) (by simp [results, Try.results25, go_sem, r0', r1', r2', r3', r4', r5', r6', r7', r8', r9', r10']) rfl ⟨zGT, (e : Int), rfl, hbf, in_zGT _ _, fun y hy => ?_, fun y z R hy => ?_, fun e he => ?_⟩
        · rw [HSeg.out] at hy; cases hy
        · rw [HSeg.out] at hy; cases hy
        · rw [HSeg.out] at he; cases he; exact ⟨rfl, HK0.out, rfl⟩
      | ok z =>
        obtain ⟨y, R2⟩ := z
        cases R2 with
        | cons z R2 =>
          obtain rfl := hg.more _ z R2 (by rw [bindS_at HF.out]; exact bindS_at hZ)
          have HSeg : Hid (∃ y, segS B = .ok (y, z :: R2)) := ⟨_, (seg_whole HF.out hb0).trans (bindS_at hZ)⟩
          have hv := HV1.out
          clear hZ hg HCW HCP
          have c0 := hv.cell 0
          have f0 := hv.frozen 0
          have c1 := hv.cell 1
          have f1 := hv.frozen 1
          have c2 := hv.cell 2
          have f2 := hv.frozen 2
          have c3 := hv.cell 3
          have f3 := hv.frozen 3
          have c4 := hv.cell 4
          have f4 := hv.frozen 4
          have c5 := hv.cell 5
          have f5 := hv.frozen 5
          have c6 := hv.cell 6
          have f6 := hv.frozen 6
          have c7 := hv.cell 7
          have f7 := hv.frozen 7
          have c8 := hv.cell 8
          have f8 := hv.frozen 8
          have c9 := hv.cell 9
          have f9 := hv.frozen 9
          have c10 := hv.cell 10
          have f10 := hv.frozen 10
          simp only [List.getElem?_toArray, List.getElem?_cons_zero, List.getElem?_cons_succ] at c0 c1 c2 c3 c4 c5 c6 c7 c8 c9 c10
          have zz := set11_box hv (.int .i64 0) (.int .i64 0) (.int .i64 0) (.int .u32 0) (.int .i64 0) (.slice none 0 0) (.int .i64 0) (.slice none 0 0) (.slice none 0 0) (.slice none 0 0) (.slice none 0 0)
          have r0' := zz.cell 0
          have r1' := zz.cell 1
          have r2' := zz.cell 2
          have r3' := zz.cell 3
          have r4' := zz.cell 4
          have r5' := zz.cell 5
          have r6' := zz.cell 6
          have r7' := zz.cell 7
          have r8' := zz.cell 8
          have r9' := zz.cell 9
          have r10' := zz.cell 10
          simp only [List.getElem?_toArray, List.getElem?_cons_zero, List.getElem?_cons_succ] at r0' r1' r2' r3' r4' r5' r6' r7' r8' r9' r10'
          have HZ := hid (And.intro r0' (And.intro r1' (And.intro r2' (And.intro r3' (And.intro r4' (And.intro r5' (And.intro r6' (And.intro r7' (And.intro r8' (And.intro r9' r10'))))))))))
          clear zz r0' r1' r2' r3' r4' r5' r6' r7' r8' r9' r10'
          clear hv
          go_wp2
          obtain ⟨y0, HSe⟩ := HSeg.out
          have HSeg := hid HSe
          obtain ⟨r0', r1', r2', r3', r4', r5', r6', r7', r8', r9', r10'⟩ := HZ.out
          have hfin := But.sets11 w1 w.heap.size (.int .i64 0) (.int .i64 0) (.int .i64 0) (.int .u32 0) (.int .i64 0) (.slice none 0 0) (.int .i64 0) (.slice none 0 0) (.slice none 0 0) (.slice none 0 0) (.slice none 0 0)
          have hbf : Below w.heap.size w _ := (HBE1.out).trans (hfin.below (by omega) (fun k hk e => by omega))
          refine bodyPost_ret (v := .tuple #[.agg #[.int .i64 0, .int .i64 0, .int .i64 0, .int .u32 0, .int .i64 0, .slice none 0 0, .int .i64 0, .slice none 0 0, .slice none 0 0, .slice none 0 0, .slice none 0 0], .int .i64 44]) (by simp [results, Try.results25, go_sem, r0', r1', r2', r3', r4', r5', r6', r7', r8', r9', r10']) rfl ⟨zGT, 44, rfl, hbf, in_zGT _ _, fun y hy => ?_, fun y z R hy => ?_, fun e he => ?_⟩
          · rw [HSeg.out] at hy; cases hy
          · exact ⟨rfl, rfl⟩
          · rw [HSeg.out] at he; cases he
        | nil =>
          obtain ⟨rfl, ⟨a, b, d, V', hG, hva⟩, hfew⟩ := hg.good _ (by rw [bindS_at HF.out]; exact bindS_at hZ)
          have HSeg := hid ((seg_whole HF.out hb0).trans (bindS_at hZ))
          have hrb := hG.box.lt
          have hN1 := hfew.N
          have hK1 := hfew.K
          have hV1 := hfew.V
          have hV2 := hva.1
          have hll := HNl.out.2
          obtain ⟨m, ys, qs, qss, ps, hy1, hm1, hqs, hql, hqss, hqsl, hps, hpl, hlf⟩ := bag_whole hZ HbR.out hva
          have hNl : ((dFront (ii, tt, bb)).add (dWhole y)).N.length ≤ 1000000 := by omega
          have hKl : ((dFront (ii, tt, bb)).add (dWhole y)).K.length ≤ 1000000 := by omega
          have hVl : V'.length ≤ 1000000 := by omega
          generalize ((dFront (ii, tt, bb)).add (dWhole y)).N = N at hG hlf hNl
          generalize ((dFront (ii, tt, bb)).add (dWhole y)).K = K at hG hlf hKl
          generalize (B.length : Int) = pa at hG
          have hr1 : w.heap.size + 1 < w3.heap.size := hrb0
          obtain ⟨rb, hrbe⟩ : ∃ rb, rb = w3.heap.size := ⟨_, rfl⟩
          rw [← hrbe] at hG hrb hr1 ⊢
          unfold frontG at hlf
          obtain ⟨hn0, hlfa⟩ := numsG_at hlf
          obtain ⟨hn1, hlfb⟩ := numsG_at hlfa
          obtain ⟨hn2, hlfc⟩ := numsG_at hlfb
          obtain ⟨hn3, hlfd⟩ := numsG_at hlfc
          clear hlf hlfa hlfb hlfc
          have HN0 := hid (refNum3 hG (GW.start hG) (by omega) hn0)
          have HN1 := hid (fun W hb => refNum3 (w := W) (j := 0) (k := 0) hG hb (by omega) hn1)
          have HN2 := hid (fun W hb => refNum3 (w := W) (j := 0) (k := 0) hG hb (by omega) hn2)
          have HN3 := hid (fun W hb => refNum3 (w := W) (j := 0) (k := 0) hG hb (by omega) hn3)
          have HCl := hid (fun W hb => refCells3 (w := W) (j := 0) (k := 0) hG hb hNl hKl hVl hlfd (hqs.left fun _ _ h => h.1) (by omega))
          have HNn : Hid (∀ W i j k (m : Int) (g : Bg), GW rb w1 W (.slice p n c) pa a b d i j k → lft N K V' i j k = numsG m g → _) := fun W i j k m g hb h => refNum3 (w := W) (i := i) (j := j) (k := k) hG hb (by omega) (numsG_at h).1
          have H := hid hG
          obtain ⟨iR, KdR⟩ := kindRs
          have HKR := hid KdR
          have HQ := hid (And.intro hqs (And.intro hqss (And.intro hps hm1)))
          clear hg hG hva hfew hlfd hn0 hn1 hn2 hn3 hqs hqss hps hm1 hN1 hK1 hV1 hV2 hll hZ KdR HCW HCP HV3 hrb0 hrbe 
          go_wp2_with fail
          refine HN0.out.mono ?_
          rintro x w2 ⟨rfl, hb2, hbut2⟩
          have HN1a := hid (HN1.out _ hb2)
          have hs2 := hbut2.size
          have HBu2 := hid hbut2
          clear hb2 hbut2 HN0 HN1
          go_wp2_with fail
          refine HN1a.out.mono ?_
          rintro x w5 ⟨rfl, hb5, hbut5⟩
          have HN2a := hid (HN2.out _ hb5)
          have hs5 := hbut5.size
          have HBu5 := hid (HBu2.out.trans hbut5)
          clear hb5 hbut5 HN1a HN2 HBu2
          go_wp2_with fail
          refine HN2a.out.mono ?_
          rintro x w4 ⟨rfl, hb4, hbut4⟩
          have hs4 := hbut4.size
          have HBu4 := hid (HBu5.out.trans hbut4)
          have hal4 : Below w4.heap.size w4 (w4.alloc (.cells #[.int .i64 (ii : Int), .int .i64 (tt : Int), .int .i64 (bb : Int), .int .u32 0, .int .i64 0, .slice none 0 0, .int .i64 0, .slice none 0 0, .slice none 0 0, .slice none 0 0, .slice none 0 0] 38)) := (Below.refl _ _).alloc (Nat.le_refl _) _
          have hz4 : (w4.alloc (.cells #[.int .i64 (ii : Int), .int .i64 (tt : Int), .int .i64 (bb : Int), .int .u32 0, .int .i64 0, .slice none 0 0, .int .i64 0, .slice none 0 0, .slice none 0 0, .slice none 0 0, .slice none 0 0] 38)).heap.size = w4.heap.size + 1 := by simp
          have HN3a := hid (HN3.out _ (hb4.kept hal4))
          have hS4 := Box.new w4 #[.int .i64 (ii : Int), .int .i64 (tt : Int), .int .i64 (bb : Int), .int .u32 0, .int .i64 0, .slice none 0 0, .int .i64 0, .slice none 0 0, .slice none 0 0, .slice none 0 0, .slice none 0 0] 38
          have e2 := hS4.cell 2
          simp at e2
          have HS4 := hid hS4
          have HAl4 := hid hal4
          have hbe : ((bb : Int) == 0) = true := by simp; omega
          have HB0 := hid hb0
          clear hb4 hbut4 HN2a HN3 HBu5 hal4 hS4 hb0 hbg
          go_wp2_with fail
          refine HN3a.out.mono ?_
          rintro x w5 ⟨rfl, hgw, hbut5⟩
          obtain ⟨q, hq⟩ : ∃ q, q = w4.heap.size := ⟨_, rfl⟩
          rw [← hq] at HS4 ⊢
          have hqr : q ≠ rb := by omega
          have hq1 : w1.heap.size ≤ q := by omega
          have hq3 : w4.heap.size ≤ q := by omega
          have hk : But (fun x => x = rb) w4 w5 := (But.ofBelow HAl4.out).trans hbut5
          have hqb := HS4.out.but hbut5 hqr
          clear hq hz4 HN3a HS4 HAl4 hbut5 e2
          have HY1 := hid hy1
          clear hy1
          have d4 := hqb.cell 4
          have g4 := hqb.frozen 4
          simp at d4
          have hbq : But (fun y => y = q) w5 (w5.setCell ⟨q, 4, none⟩ (.int .i64 (m : Int))) := (But.one w5 q).setAt 4 _
          have HGW := hid (hgw.newer hq1 hqr hbq)
          have HK2 := hid (hk.newer hq3 hbq)
          have HQ2 : Hid (Box (w5.setCell ⟨q, 4, none⟩ (.int .i64 (m : Int))) q #[.int .i64 (ii : Int), .int .i64 (tt : Int), .int .i64 (bb : Int), .int .u32 0, .int .i64 (m : Int), .slice none 0 0, .int .i64 0, .slice none 0 0, .slice none 0 0, .slice none 0 0, .slice none 0 0] 38) := by
            have h9 := hqb.set 4 (.int .i64 (m : Int))
            unfold Hid
            simpa using h9
          have HBq := hid hbq
          clear hqb hgw hk hbq
          go_wp2_with fail
          generalize w5.setCell ⟨q, 4, none⟩ (.int .i64 (m : Int)) = w6 at HGW HK2 HQ2 HBq ⊢
          clear d4 g4
          refine (HCl.out _ HGW.out).mono ?_
          rintro x w7 ⟨l, rfl, hT⟩
          obtain ⟨i7, j7, k7, hgw, hlf⟩ := hT.gw
          have hq6 := HQ2.out.lt
          have hqb := HQ2.out.but hT.but hqr
          have hk := HK2.out.trans hT.but
          have HLs0 : Hid (LT.In elCell w7 (fun b => rb < b ∧ b ≠ q) l) := hT.in_.mono fun b hb _ => ⟨hb.1, by have := hb.2; omega⟩
          have HLa := hid (hT.alike HQ.out.1)
          have HLf := hid hlf
          clear hT hlf HCl HGW HK2 HQ2 HBq hq6
          have d5 := hqb.cell 5
          have g5 := hqb.frozen 5
          simp at d5
          have hbq : But (fun y => y = q) w7 (w7.setCell ⟨q, 5, none⟩ (.slice l.p l.n l.c)) := (But.one w7 q).setAt 5 _
          have HGW := hid (hgw.newer hq1 hqr hbq)
          have HK2 := hid (hk.newer hq3 hbq)
          have HQ2 : Hid (Box (w7.setCell ⟨q, 5, none⟩ (.slice l.p l.n l.c)) q #[.int .i64 (ii : Int), .int .i64 (tt : Int), .int .i64 (bb : Int), .int .u32 0, .int .i64 (m : Int), .slice l.p l.n l.c, .int .i64 0, .slice none 0 0, .slice none 0 0, .slice none 0 0, .slice none 0 0] 38) := by
            have h9 := hqb.set 5 (.slice l.p l.n l.c)
            unfold Hid
            simpa using h9
          have HBq := hid hbq
          clear hqb hgw hk hbq
          go_wp2_with fail
          generalize w7.setCell ⟨q, 5, none⟩ (.slice l.p l.n l.c) = w8 at HGW HK2 HQ2 HBq ⊢
          clear d5 g5
          have HLs := hid (HLs0.out.two (But.r HBq.out))
          clear HBq HLs0
          refine (HNn.out _ _ _ _ _ _ HGW.out HLf.out).mono ?_
          rintro x wA ⟨rfl, hgw, hbutA⟩
          have hqb := HQ2.out.but hbutA hqr
          have hk := HK2.out.trans hbutA
          have HLsA := hid (HLs.out.two (But.l hbutA))
          
          have hlf := (numsG_at HLf.out).2
          clear hbutA HGW HK2 HQ2 HLs HLf HNn 
          have HLen : Hid (qss.length ≤ 1000) := by unfold Hid; omega
          obtain ⟨nn, hnn⟩ : ∃ nn, nn = qss.length := ⟨_, rfl⟩
          rw [← hnn] at HLen ⊢
          have hqA := hqb.lt
          have HI0 : Hid (TkL (elRecs.wth (fun b => b ≠ q)) LIs bagLs rb w1 w4 wA (.slice p n c) pa a b d N K V' qss (numsG (ps.length : Int) (bagRs ps gNil)) (.slice none 0 0) 0 (fun _ => ⟨none, 0, 0, fun _ => zeroR⟩) _ _ _) := ⟨⟨World.ownsRow_nil wA _ _ _, fun _ h => absurd h (by omega)⟩, fun _ h => (by cases h), fun _ _ h => absurd h (by omega), hgw, hlf, hk⟩
          have HQ0 := hid hqb
          clear hgw hlf hk hqb
          go_wp2_with fail
          go_loopw [14] (fun yv wr => ∃ (u i j k : Nat) (v : Value) (it : Nat → LT RT), u ≤ nn ∧ yv = .int .i64 (u : Int) ∧ Box wr q #[.int .i64 (ii : Int), .int .i64 (tt : Int), .int .i64 (bb : Int), .int .u32 0, .int .i64 (m : Int), .slice l.p l.n l.c, .int .i64 0, .slice none 0 0, .slice none 0 0, v, .slice none 0 0] 38 ∧ (∀ o, v.ownBlock = some o → wA.heap.size ≤ o) ∧ But (Two rb q) wA wr ∧ TkL (elRecs.wth (fun b => b ≠ q)) LIs bagLs rb w1 w4 wr (.slice p n c) pa a b d N K V' qss (numsG (ps.length : Int) (bagRs ps gNil)) v u it i j k) (fun yv _ => nn - (intOf yv).toNat)
          case atStart => exact ⟨0, _, _, _, _, _, Nat.zero_le _, rfl, HQ0.out, fun _ h => (by cases h), But.refl _ _, HI0.out⟩
          case round =>
            obtain ⟨u, i6, j6, k6, v, it6, hu, rfl, hqb, hqo, hTw, hI⟩ := hrel
            clear HQ0 HI0
            obtain ⟨pv, cv, rfl⟩ := ownsRow_slice hI.own.own
            have hqs := hqb.lt
            have HI := hid hI
            by_cases hum : u < nn
            · have hum' : (u : Int) < (nn : Int) := by have := HLen.out; omega
              have hur : u < qss.length := by omega
              have hnb : nn ≤ 1000 := HLen.out
              have HXt : Hid (qss[u]? = some qss[u]) := List.getElem?_eq_getElem hur
              have hlf := hI.left
              rw [List.drop_eq_getElem_cons hur] at hlf
              have hokx := HQ.out.2.1.left (P := fun q : List BRec => q.length ≤ 256 ∧ ∀ r ∈ q, BRec.Ok r) (fun _ _ h => okL_ok h) _ (List.getElem_mem hur)
              generalize qss[u] = x at HXt hlf hokx
              have HCa := hid (refRecords3 H.out hI.gw.drew hNl hKl hVl (bagLs_cons hlf) hokx.2 (by have := hokx.1; omega))
              clear hokx
              have d9 := hqb.cell 9
              simp at d9
              have HS := hid (And.intro hqb (And.intro hqo hTw))
              clear hqb hqo hTw hI hlf
              go_wp2_with fail
              refine wp_region_calmE 30 (fun wx => wx.cell? ⟨q, 9, none⟩ = some (.slice pv u cv)) [(0, true), (1, false), (2, true)] (.one 3 true [] (.one 4 true [] (.one 5 false [(6, true)] (.one 7 false [] .done)))) (by kernel_rfl) (by kernel_rfl) d9 ?_
              refine wpPre_e rfl rfl (fun K1 hK1 => ?_)
              apply Exists.intro
              refine And.intro (fun wx hx => ?_) ?_
              · go_simp
                try rfl
              go_simp
              refine hK1 _ ?_
              clear hK1 K1
              refine wpPre_e rfl rfl (fun K1 hK1 => ?_)
              apply Exists.intro
              refine And.intro (fun wx hx => ?_) ?_
              · have e0 := hx.resolve_left (by decide)
                go_simp
                try rfl
              go_simp
              refine hK1 _ ?_
              clear hK1 K1
              refine wpPre_e rfl rfl (fun K1 hK1 => ?_)
              apply Exists.intro
              refine And.intro (fun wx hx => ?_) ?_
              · go_simp
                try rfl
              go_simp
              refine hK1 _ ?_
              clear hK1 K1
              refine wpPre_nil ?_
              refine wpTr_e rfl (fun K1 hK1 => ?_)
              refine step_call rfl 72 #[.tmp 105] _ rfl Try.f72 Try.func72 (by kernel_rfl) rfl #[.pointer (some ⟨rb, 3, none⟩)] rfl _ HCa.out (fun e w7 h7 => ?_)
              obtain ⟨lx, rfl, hT7⟩ := h7
              obtain ⟨i7, j7, k7, hb7, hlf7⟩ := hT7.gw
              have hbut7 := hT7.but
              have hbut7' : But (fun q => q = rb) wr w7 := (But.refl _ _).drew.trans hbut7
              have his : LIs x lx := ⟨hT7.n, hT7.is_⟩
              have hdz : wr.drew.heap.size = wr.heap.size := rfl
              have hinx : LT.In elRec w7 (fun b => (rb < b ∧ (b < w1.heap.size ∨ wr.heap.size ≤ b)) ∧ b ≠ q) lx := hT7.in_.mono fun b hb _ => ⟨hb, by have := hb.2; omega⟩
              have hqb7 := HS.out.1.but hbut7' hqr
              have e5 := hqb7.cell 9
              simp at e5
              refine ⟨_, rfl, ?_⟩
              go_simp
              refine hK1 _ _ (fun _ => e5) ?_
              clear hK1 K1 hbut7 HCa
              refine wpPre_nil ?_
              have hal7 : Below w7.heap.size w7 (w7.alloc (.cells #[.slice lx.p lx.n lx.c] 36)) := (Below.refl _ _).alloc (Nat.le_refl _) _
              have hqb8 := hqb7.below hal7
              have e6 := hqb8.cell 9
              simp at e6
              have hov7 : (w7.alloc (.cells #[.slice lx.p lx.n lx.c] 36)).ownsRow (rb + 1) 36 1 (.slice pv u cv) u ((List.range u).flatMap fun j => (elRecs.wth (fun b => b ≠ q)).cells (it6 j)) := ownsRow_keep (ownsRow_keep HI.out.own.own (fun g hg hl => hbut7'.block g hl (by have := (HI.out.own.own.lt g hg).1; omega))) (fun g hg hl => hal7.block g hl)
              have HNw := hid (new_many0 w7 [.slice lx.p lx.n lx.c] 36)
              have hq8 := hqb8.lt
              have hqs7 := hqb7.lt
              have hrb7 := hb7.box.lt
              have hsz7 := hbut7'.size
              refine wpTr_e rfl (fun K1 hK1 => ?_)
              go_simp
              refine hK1 _ _ (fun _ => e6) ?_
              clear hK1 K1
              refine wpPre_nil ?_
              refine wpTr_e rfl (fun K1 hK1 => ?_)
              refine step_app rfl (.tmp 104) (.tmp 107) 35 36 iR _ 1 24 HKR.out rfl (rb + 1) _ u _ rfl hov7 ⟨w7.heap.size, 0, none⟩ 1 1 [.slice lx.p lx.n lx.c] rfl rfl HNw.out ((elRecs).one lx) (by omega) (by omega) (by simp; omega) ?_
              intro v3 w8 ho3 hg3 hn3
              have hqb9 := hqb8.kept (hg3.block q hq8 fun e => by have := HS.out.2.1 q e.symm; omega)
              have hsA := HS.out.2.2.size
              have ho9 := near_ge HS.out.2.1 hn3 (by have := hal7.size; omega)
              have HT8 := hid (HI.out.step HBu4.out HXt.out (by omega) his hinx hb7 hlf7 hbut7' ho3 hg3 hn3)
              obtain ⟨p3, c3, rfl⟩ := ownsRow_slice ho3
              have y5 := hqb9.cell 9
              have g5 := hqb9.frozen 9
              simp at y5
              go_simp
              refine hK1 _ _ (fun h => by cases h) ?_
              clear hK1 K1
              refine wpPre_e rfl rfl (fun K1 hK1 => ?_)
              apply Exists.intro
              refine And.intro (fun wx hx => ?_) ?_
              · go_simp
                try rfl
              go_simp
              refine hK1 _ ?_
              clear hK1 K1
              refine wpPre_nil ?_
              refine wpTr_e rfl (fun K1 hK1 => ?_)
              go_simp
              refine hK1 _ _ (fun h => by cases h) ?_
              clear hK1 K1
              refine wpPre_nil ?_
              refine wpTr_done ?_
              have hbq : But (fun y => y = q) w8 (w8.setCell ⟨q, 9, none⟩ (.slice p3 (u + 1) c3)) := (But.one w8 q).setAt 9 _
              have HQ9 : Hid (Box (w8.setCell ⟨q, 9, none⟩ (.slice p3 (u + 1) c3)) q #[.int .i64 (ii : Int), .int .i64 (tt : Int), .int .i64 (bb : Int), .int .u32 0, .int .i64 (m : Int), .slice l.p l.n l.c, .int .i64 0, .slice none 0 0, .slice none 0 0, .slice p3 (u + 1) c3, .slice none 0 0] 38) := by
                have h9 := hqb9.set 9 (.slice p3 (u + 1) c3)
                unfold Hid
                simpa using h9
              have HTw9 := hid (two_round HS.out.2.2 hbut7' hg3 HS.out.2.1 hbq)
              have HT9 := hid (HT8.out.oneW HBu4.out (fun b hb => hb) hq3 (by omega) (fun o ho => by have := ho9 o ho; omega) hbq)
              have HO9 := hid ho9
              clear hbq hqb9 hqb8 hqb7 hov7 hg3 ho3 hn3 HS hb7 hbut7' hal7 HNw e5 e6 y5 g5 d9 HT8 ho9 HI HXt his hinx hlf7 hT7
              generalize w8.setCell ⟨q, 9, none⟩ (.slice p3 (u + 1) c3) = w9 at HQ9 HT9 HTw9 ⊢
              go_wp2
              go_roundw
              case rel => exact ⟨u + 1, _, _, _, _, _, by omega, by go_num, HQ9.out, HO9.out, HTw9.out, HT9.out⟩
              case measure => simp [intOf]; omega
            · obtain rfl : u = nn := by omega
              have hum' : ¬ (u : Int) < (u : Int) := by omega
              obtain ⟨lg, hvl, hln, hli, hlin⟩ := hI.list (fun o ho => by have := hqo o ho; omega) (by have := HLen.out; omega)
              rw [hvl] at hqb
              have HIslogs : Hid (lg.n = qss.length ∧ ∀ s r, qss[s]? = some r → LIs r (lg.item s)) := ⟨hln.trans hnn, fun s r hs => by rw [hli]; exact hI.is_ s r (by have := (List.getElem?_eq_some_iff.1 hs).1; omega) hs⟩
              have hgw := hI.gw
              have hk := hI.but
              have hlf := hI.left
              rw [hnn, List.drop_length] at hlf
              have HTw := hid hTw
              have HLinlogs := hid hlin
              clear hqo hTw hI HI hvl hln hli hlin
              have HP := hid (refRecords3 H.out hgw hNl hKl hVl hlf (HQ.out.2.2.1.left fun _ _ h => h.1) (by omega))
              have HK := hid hk
              have HQb := hid hqb
              clear hgw hlf hk hqb
              go_wp2_with fail
              refine HP.out.mono ?_
              rintro x wP ⟨lp, rfl, hT⟩
              have hqlt := HQb.out.lt
              have hqb := HQb.out.but hT.but hqr
              have hk := HK.out.trans hT.but
              have d10 := hqb.cell 10
              have g10 := hqb.frozen 10
              simp at d10
              have hbq : But (fun y => y = q) wP (wP.setCell ⟨q, 10, none⟩ (.slice lp.p lp.n lp.c)) := (But.one wP q).setAt 10 _
              have hqc : Box (wP.setCell ⟨q, 10, none⟩ (.slice lp.p lp.n lp.c)) q #[.int .i64 (ii : Int), .int .i64 (tt : Int), .int .i64 (bb : Int), .int .u32 0, .int .i64 (m : Int), .slice l.p l.n l.c, .int .i64 0, .slice none 0 0, .slice none 0 0, .slice lg.p lg.n lg.c, .slice lp.p lp.n lp.c] 38 := by
                have h9 := hqb.set 10 (.slice lp.p lp.n lp.c)
                simpa using h9
              have hv := ((HV1.out.but HBu4.out (by omega)).but hk (by omega)).but hbq (by omega)
              have HT := hid hT
              have HBq := hid hbq
              have HKe := hid hk
              have HSi := hid (And.intro hbq.size (And.intro hk.size hqlt))
              have m0 := hqc.cell 0
              have m1 := hqc.cell 1
              have m2 := hqc.cell 2
              have m3 := hqc.cell 3
              have m4 := hqc.cell 4
              have m5 := hqc.cell 5
              have m6 := hqc.cell 6
              have m7 := hqc.cell 7
              have m8 := hqc.cell 8
              have m9 := hqc.cell 9
              have m10 := hqc.cell 10
              simp only [List.getElem?_toArray, List.getElem?_cons_zero, List.getElem?_cons_succ] at m0 m1 m2 m3 m4 m5 m6 m7 m8 m9 m10
              have c0 := hv.cell 0
              have f0 := hv.frozen 0
              have c1 := hv.cell 1
              have f1 := hv.frozen 1
              have c2 := hv.cell 2
              have f2 := hv.frozen 2
              have c3 := hv.cell 3
              have f3 := hv.frozen 3
              have c4 := hv.cell 4
              have f4 := hv.frozen 4
              have c5 := hv.cell 5
              have f5 := hv.frozen 5
              have c6 := hv.cell 6
              have f6 := hv.frozen 6
              have c7 := hv.cell 7
              have f7 := hv.frozen 7
              have c8 := hv.cell 8
              have f8 := hv.frozen 8
              have c9 := hv.cell 9
              have f9 := hv.frozen 9
              have c10 := hv.cell 10
              have f10 := hv.frozen 10
              simp only [List.getElem?_toArray, List.getElem?_cons_zero, List.getElem?_cons_succ] at c0 c1 c2 c3 c4 c5 c6 c7 c8 c9 c10
              have zz := set11_box hv (.int .i64 (ii : Int)) (.int .i64 (tt : Int)) (.int .i64 (bb : Int)) (.int .u32 0) (.int .i64 (m : Int)) (.slice l.p l.n l.c) (.int .i64 0) (.slice none 0 0) (.slice none 0 0) (.slice lg.p lg.n lg.c) (.slice lp.p lp.n lp.c)
              have r0' := zz.cell 0
              have r1' := zz.cell 1
              have r2' := zz.cell 2
              have r3' := zz.cell 3
              have r4' := zz.cell 4
              have r5' := zz.cell 5
              have r6' := zz.cell 6
              have r7' := zz.cell 7
              have r8' := zz.cell 8
              have r9' := zz.cell 9
              have r10' := zz.cell 10
              simp only [List.getElem?_toArray, List.getElem?_cons_zero, List.getElem?_cons_succ] at r0' r1' r2' r3' r4' r5' r6' r7' r8' r9' r10'
              have HZ := hid (And.intro r0' (And.intro r1' (And.intro r2' (And.intro r3' (And.intro r4' (And.intro r5' (And.intro r6' (And.intro r7' (And.intro r8' (And.intro r9' r10'))))))))))
              clear zz r0' r1' r2' r3' r4' r5' r6' r7' r8' r9' r10'
              clear hv hqc hqb hk hbq hT HP HK HQb hqlt
              go_wp2
              obtain ⟨r0', r1', r2', r3', r4', r5', r6', r7', r8', r9', r10'⟩ := HZ.out
              obtain ⟨hsi1, hsi2, hqlt⟩ := HSi.out
              have hfin := But.sets11 (wP.setCell ⟨q, 10, none⟩ (.slice lp.p lp.n lp.c)) w.heap.size (.int .i64 (ii : Int)) (.int .i64 (tt : Int)) (.int .i64 (bb : Int)) (.int .u32 0) (.int .i64 (m : Int)) (.slice l.p l.n l.c) (.int .i64 0) (.slice none 0 0) (.slice none 0 0) (.slice lg.p lg.n lg.c) (.slice lp.p lp.n lp.c)
              have hb14 : Below w.heap.size w1 wP := (HBu4.out.trans HKe.out).below (by omega) (fun k hk e => by omega)
              have hbq2 : Below w.heap.size wP _ := HBq.out.below (by omega) (fun k hk e => by omega)
              have hbf : Below w.heap.size w _ := ((HBE1.out.trans hb14).trans hbq2).trans (hfin.below (by omega) (fun k hk e => by omega))
              refine bodyPost_ret (v := .tuple #[GT.val ⟨ii, tt, bb, 0, ⟨(m : Int), l.p, l.n, l.c, l.item⟩, noD, lg, lp⟩, .int .i64 0]) (by simp [results, Try.results25, go_sem, GT.val, noD, noL, r0', r1', r2', r3', r4', r5', r6', r7', r8', r9', r10']) rfl ⟨⟨ii, tt, bb, 0, ⟨(m : Int), l.p, l.n, l.c, l.item⟩, noD, lg, lp⟩, 0, rfl, hbf, ?_, fun y hy => ?_, fun y z R hy => ?_, fun e he => ?_⟩
              · have hlc := LT.In.but (HLsA.out.two ((HTw.out.trans (But.l HT.out.but)).trans (But.r HBq.out))) hfin (fun b hb _ e => by omega)
                have hll := LT.In.but (HLinlogs.out.two ((But.l HT.out.but).trans (But.r HBq.out))) hfin (fun b hb _ e => by omega)
                have hlp := LT.In.but (LT.In.two (rb := rb) (q := q) (HT.out.in_.mono fun b hb _ => ⟨hb.1, by have := hb.2; omega⟩) (But.r HBq.out)) hfin (fun b hb _ e => by omega)
                exact ⟨HFr.out.1, HFr.out.2.1, HFr.out.2.2, Nat.zero_lt_succ _, ⟨ST.ofLT (hlc.mono fun b hb _ => by omega) HQ.out.2.2.2, hlc.nil⟩, in_noD _ _, hll.mono fun b hb _ => by omega, hlp.mono fun b hb _ => by omega⟩
              · rw [HSeg.out] at hy
                cases hy
                refine ⟨rfl, rfl, rfl, HB0.out, rfl, ?_, ⟨rfl, ⟨rfl, fun i u h => by simp at h⟩, ⟨rfl, fun i u h => by simp at h⟩⟩, HQ.out.2.1.isl (fun _ _ _ h1 h2 => okL_alike h1 h2) HIslogs.out.1 HIslogs.out.2, HQ.out.2.2.1.isl (fun _ _ u h1 h2 => h1.2 u h2) HT.out.n HT.out.is_⟩
                show ST.Alike _ _
                rw [HY1.out]
                exact ⟨rfl, HLa.out.1, fun j hj => HLa.out.2 j _ (getD_get hj)⟩
              · rw [HSeg.out] at hy; cases hy
              · rw [HSeg.out] at he; cases he
    · have hbg : (0 : Int) < (bb : Int) := by omega
      go_wp2_with fail
      refine (HCP.out w3 HBF.out).mono ?_
      rintro x w1 ⟨k, rfl, hg⟩
      have hs1 := hg.bel.size
      have HV1 := hid (HV3.out.below hg.bel)
      have HBE1 : Hid (Below w.heap.size w w1) := HBF.out.trans (hg.bel.mono (by omega))
      cases hZ : patchS_ R with
      | error e =>
        obtain ⟨hk, hne⟩ := hg.bad e (by rw [bindS_at HF.out]; exact bindS_no hZ)
        subst hk
        have hk' : ((e : Int) == 0) = false := by simpa using hne
        have HSeg : Hid (segS B = .error e) := by
          unfold Hid
          rw [seg_patch HF.out hb0]
          exact bindS_no hZ
        have HK0 := hid hne
        have hv := HV1.out
        clear hZ hg hne HCW HCP
        have c0 := hv.cell 0
        have f0 := hv.frozen 0
        have c1 := hv.cell 1
        have f1 := hv.frozen 1
        have c2 := hv.cell 2
        have f2 := hv.frozen 2
        have c3 := hv.cell 3
        have f3 := hv.frozen 3
        have c4 := hv.cell 4
        have f4 := hv.frozen 4
        have c5 := hv.cell 5
        have f5 := hv.frozen 5
        have c6 := hv.cell 6
        have f6 := hv.frozen 6
        have c7 := hv.cell 7
        have f7 := hv.frozen 7
        have c8 := hv.cell 8
        have f8 := hv.frozen 8
        have c9 := hv.cell 9
        have f9 := hv.frozen 9
        have c10 := hv.cell 10
        have f10 := hv.frozen 10
        simp only [List.getElem?_toArray, List.getElem?_cons_zero, List.getElem?_cons_succ] at c0 c1 c2 c3 c4 c5 c6 c7 c8 c9 c10
        have zz := set11_box hv (.int .i64 0) (.int .i64 0) (.int .i64 0) (.int .u32 0) (.int .i64 0) (.slice none 0 0) (.int .i64 0) (.slice none 0 0) (.slice none 0 0) (.slice none 0 0) (.slice none 0 0)
        have r0' := zz.cell 0
        have r1' := zz.cell 1
        have r2' := zz.cell 2
        have r3' := zz.cell 3
        have r4' := zz.cell 4
        have r5' := zz.cell 5
        have r6' := zz.cell 6
        have r7' := zz.cell 7
        have r8' := zz.cell 8
        have r9' := zz.cell 9
        have r10' := zz.cell 10
        simp only [List.getElem?_toArray, List.getElem?_cons_zero, List.getElem?_cons_succ] at r0' r1' r2' r3' r4' r5' r6' r7' r8' r9' r10'
        have HZ := hid (And.intro r0' (And.intro r1' (And.intro r2' (And.intro r3' (And.intro r4' (And.intro r5' (And.intro r6' (And.intro r7' (And.intro r8' (And.intro r9' r10'))))))))))
        clear zz r0' r1' r2' r3' r4' r5' r6' r7' r8' r9' r10'
        clear hv
        go_wp2
        obtain ⟨r0', r1', r2', r3', r4', r5', r6', r7', r8', r9', r10'⟩ := HZ.out
        have hfin := But.sets11 w1 w.heap.size (.int .i64 0) (.int .i64 0) (.int .i64 0) (.int .u32 0) (.int .i64 0) (.slice none 0 0) (.int .i64 0) (.slice none 0 0) (.slice none 0 0) (.slice none 0 0) (.slice none 0 0)
        have hbf : Below w.heap.size w _ := (HBE1.out).trans (hfin.below (by omega) (fun k hk e => by omega))
        refine bodyPost_ret (v := .tuple #[.agg #[.int .i64 0, .int .i64 0, .int .i64 0, .int .u32 0, .int .i64 0, .slice none 0 0, .int .i64 0, .slice none 0 0, .slice none 0 0, .slice none 0 0, .slice none 0 0], .int .i64 (e : Int)]) (by simp [results, Try.results25, go_sem, r0', r1', r2', r3', r4', r5', r6', r7', r8', r9', r10']) rfl ⟨zGT, (e : Int), rfl, hbf, in_zGT _ _, fun y hy => ?_, fun y z R hy => ?_, fun e he => ?_⟩
        · rw [HSeg.out] at hy; cases hy
        · rw [HSeg.out] at hy; cases hy
        · rw [HSeg.out] at he; cases he; exact ⟨rfl, HK0.out, rfl⟩
      | ok z =>
        obtain ⟨y, R2⟩ := z
        cases R2 with
        | cons z R2 =>
          obtain rfl := hg.more _ z R2 (by rw [bindS_at HF.out]; exact bindS_at hZ)
          have HSeg : Hid (∃ y, segS B = .ok (y, z :: R2)) := ⟨_, (seg_patch HF.out hb0).trans (bindS_at hZ)⟩
          have hv := HV1.out
          clear hZ hg HCW HCP
          have c0 := hv.cell 0
          have f0 := hv.frozen 0
          have c1 := hv.cell 1
          have f1 := hv.frozen 1
          have c2 := hv.cell 2
          have f2 := hv.frozen 2
          have c3 := hv.cell 3
          have f3 := hv.frozen 3
          have c4 := hv.cell 4
          have f4 := hv.frozen 4
          have c5 := hv.cell 5
          have f5 := hv.frozen 5
          have c6 := hv.cell 6
          have f6 := hv.frozen 6
          have c7 := hv.cell 7
          have f7 := hv.frozen 7
          have c8 := hv.cell 8
          have f8 := hv.frozen 8
          have c9 := hv.cell 9
          have f9 := hv.frozen 9
          have c10 := hv.cell 10
          have f10 := hv.frozen 10
          simp only [List.getElem?_toArray, List.getElem?_cons_zero, List.getElem?_cons_succ] at c0 c1 c2 c3 c4 c5 c6 c7 c8 c9 c10
          have zz := set11_box hv (.int .i64 0) (.int .i64 0) (.int .i64 0) (.int .u32 0) (.int .i64 0) (.slice none 0 0) (.int .i64 0) (.slice none 0 0) (.slice none 0 0) (.slice none 0 0) (.slice none 0 0)
          have r0' := zz.cell 0
          have r1' := zz.cell 1
          have r2' := zz.cell 2
          have r3' := zz.cell 3
          have r4' := zz.cell 4
          have r5' := zz.cell 5
          have r6' := zz.cell 6
          have r7' := zz.cell 7
          have r8' := zz.cell 8
          have r9' := zz.cell 9
          have r10' := zz.cell 10
          simp only [List.getElem?_toArray, List.getElem?_cons_zero, List.getElem?_cons_succ] at r0' r1' r2' r3' r4' r5' r6' r7' r8' r9' r10'
          have HZ := hid (And.intro r0' (And.intro r1' (And.intro r2' (And.intro r3' (And.intro r4' (And.intro r5' (And.intro r6' (And.intro r7' (And.intro r8' (And.intro r9' r10'))))))))))
          clear zz r0' r1' r2' r3' r4' r5' r6' r7' r8' r9' r10'
          clear hv
          go_wp2
          obtain ⟨y0, HSe⟩ := HSeg.out
          have HSeg := hid HSe
          obtain ⟨r0', r1', r2', r3', r4', r5', r6', r7', r8', r9', r10'⟩ := HZ.out
          have hfin := But.sets11 w1 w.heap.size (.int .i64 0) (.int .i64 0) (.int .i64 0) (.int .u32 0) (.int .i64 0) (.slice none 0 0) (.int .i64 0) (.slice none 0 0) (.slice none 0 0) (.slice none 0 0) (.slice none 0 0)
          have hbf : Below w.heap.size w _ := (HBE1.out).trans (hfin.below (by omega) (fun k hk e => by omega))
          refine bodyPost_ret (v := .tuple #[.agg #[.int .i64 0, .int .i64 0, .int .i64 0, .int .u32 0, .int .i64 0, .slice none 0 0, .int .i64 0, .slice none 0 0, .slice none 0 0, .slice none 0 0, .slice none 0 0], .int .i64 44]) (by simp [results, Try.results25, go_sem, r0', r1', r2', r3', r4', r5', r6', r7', r8', r9', r10']) rfl ⟨zGT, 44, rfl, hbf, in_zGT _ _, fun y hy => ?_, fun y z R hy => ?_, fun e he => ?_⟩
          · rw [HSeg.out] at hy; cases hy
          · exact ⟨rfl, rfl⟩
          · rw [HSeg.out] at he; cases he
        | nil =>
          obtain ⟨rfl, ⟨a, b, d, V', hG, hva⟩, hfew⟩ := hg.good _ (by rw [bindS_at HF.out]; exact bindS_at hZ)
          have HSeg := hid ((seg_patch HF.out hb0).trans (bindS_at hZ))
          have hrb := hG.box.lt
          have hN1 := hfew.N
          have hK1 := hfew.K
          have hV1 := hfew.V
          have hV2 := hva.1
          have hll := HNl.out.2
          obtain ⟨qs, qss, ps, hu1, hm1, hqs, hql, hkl, hks, hqss, hqsl, hps, hpl, hlf⟩ := bag_patch hZ HbR.out hva
          have hNl : ((dFront (ii, tt, bb)).add (dPatch y)).N.length ≤ 1000000 := by omega
          have hKl : ((dFront (ii, tt, bb)).add (dPatch y)).K.length ≤ 1000000 := by omega
          have hVl : V'.length ≤ 1000000 := by omega
          generalize ((dFront (ii, tt, bb)).add (dPatch y)).N = N at hG hlf hNl
          generalize ((dFront (ii, tt, bb)).add (dPatch y)).K = K at hG hlf hKl
          generalize (B.length : Int) = pa at hG
          have hr1 : w.heap.size + 1 < w3.heap.size := hrb0
          obtain ⟨rb, hrbe⟩ : ∃ rb, rb = w3.heap.size := ⟨_, rfl⟩
          rw [← hrbe] at hG hrb hr1 ⊢
          unfold frontG at hlf
          obtain ⟨hn0, hlfa⟩ := numsG_at hlf
          obtain ⟨hn1, hlfb⟩ := numsG_at hlfa
          obtain ⟨hn2, hlfc⟩ := numsG_at hlfb
          obtain ⟨hn3, hlfd⟩ := numsG_at hlfc
          clear hlf hlfa hlfb hlfc
          have HN0 := hid (refNum3 hG (GW.start hG) (by omega) hn0)
          have HN1 := hid (fun W hb => refNum3 (w := W) (j := 0) (k := 0) hG hb (by omega) hn1)
          have HN2 := hid (fun W hb => refNum3 (w := W) (j := 0) (k := 0) hG hb (by omega) hn2)
          have HN3 := hid (fun W hb => refNum3 (w := W) (j := 0) (k := 0) hG hb (by omega) hn3)
          obtain ⟨hn4, hlfe⟩ := numsG_at hlfd
          clear hlfd
          have hlfd := hlfe
          clear hlfe
          have HN4 := hid (fun W hb => refNum3 (w := W) (j := 0) (k := 0) hG hb (by omega) hn4)
          have HKs := hid hks
          have HU := hid hu1
          have huw : ((y.1 : Int)) < 4294967296 := by omega
          obtain ⟨kc, Kk⟩ := kindSt
          have HKk := hid Kk
          clear hn4 hks hu1 Kk
          have HCl := hid (fun W hb => refCells3 (w := W) (j := 0) (k := 0) hG hb hNl hKl hVl hlfd (hqs.left fun _ _ h => h.1) (by omega))
          have HNn : Hid (∀ W i j k (m : Int) (g : Bg), GW rb w1 W (.slice p n c) pa a b d i j k → lft N K V' i j k = numsG m g → _) := fun W i j k m g hb h => refNum3 (w := W) (i := i) (j := j) (k := k) hG hb (by omega) (numsG_at h).1
          have H := hid hG
          obtain ⟨iR, KdR⟩ := kindRs
          have HKR := hid KdR
          have HQ := hid (And.intro hqs (And.intro hqss (And.intro hps hm1)))
          clear hg hG hva hfew hlfd hn0 hn1 hn2 hn3 hqs hqss hps hm1 hN1 hK1 hV1 hV2 hll hZ KdR HCW HCP HV3 hrb0 hrbe 
          go_wp2_with fail
          refine HN0.out.mono ?_
          rintro x w2 ⟨rfl, hb2, hbut2⟩
          have HN1a := hid (HN1.out _ hb2)
          have hs2 := hbut2.size
          have HBu2 := hid hbut2
          clear hb2 hbut2 HN0 HN1
          go_wp2_with fail
          refine HN1a.out.mono ?_
          rintro x w5 ⟨rfl, hb5, hbut5⟩
          have HN2a := hid (HN2.out _ hb5)
          have hs5 := hbut5.size
          have HBu5 := hid (HBu2.out.trans hbut5)
          clear hb5 hbut5 HN1a HN2 HBu2
          go_wp2_with fail
          refine HN2a.out.mono ?_
          rintro x w4 ⟨rfl, hb4, hbut4⟩
          have hs4 := hbut4.size
          have HBu4 := hid (HBu5.out.trans hbut4)
          have hal4 : Below w4.heap.size w4 (w4.alloc (.cells #[.int .i64 (ii : Int), .int .i64 (tt : Int), .int .i64 (bb : Int), .int .u32 0, .int .i64 0, .slice none 0 0, .int .i64 0, .slice none 0 0, .slice none 0 0, .slice none 0 0, .slice none 0 0] 38)) := (Below.refl _ _).alloc (Nat.le_refl _) _
          have hz4 : (w4.alloc (.cells #[.int .i64 (ii : Int), .int .i64 (tt : Int), .int .i64 (bb : Int), .int .u32 0, .int .i64 0, .slice none 0 0, .int .i64 0, .slice none 0 0, .slice none 0 0, .slice none 0 0, .slice none 0 0] 38)).heap.size = w4.heap.size + 1 := by simp
          have HN3a := hid (HN3.out _ (hb4.kept hal4))
          have hS4 := Box.new w4 #[.int .i64 (ii : Int), .int .i64 (tt : Int), .int .i64 (bb : Int), .int .u32 0, .int .i64 0, .slice none 0 0, .int .i64 0, .slice none 0 0, .slice none 0 0, .slice none 0 0, .slice none 0 0] 38
          have e2 := hS4.cell 2
          simp at e2
          have HS4 := hid hS4
          have HAl4 := hid hal4
          have hbe : ((bb : Int) == 0) = false := by simp; omega
          have HB0 := hid hb0
          clear hb4 hbut4 HN2a HN3 HBu5 hal4 hS4 hb0 hbg
          go_wp2_with fail
          refine HN3a.out.mono ?_
          rintro x w5 ⟨rfl, hgw, hbut5⟩
          obtain ⟨q, hq⟩ : ∃ q, q = w4.heap.size := ⟨_, rfl⟩
          rw [← hq] at HS4 ⊢
          have hqr : q ≠ rb := by omega
          have hq1 : w1.heap.size ≤ q := by omega
          have hq3 : w4.heap.size ≤ q := by omega
          have hk : But (fun x => x = rb) w4 w5 := (But.ofBelow HAl4.out).trans hbut5
          have hqb := HS4.out.but hbut5 hqr
          clear hq hz4 HN3a HS4 HAl4 hbut5 e2
          have d3 := hqb.cell 3
          have g3 := hqb.frozen 3
          simp at d3
          have hbq : But (fun y => y = q) w5 (w5.setCell ⟨q, 3, none⟩ (.int .u32 (y.1 : Int))) := (But.one w5 q).setAt 3 _
          have HGW := hid (hgw.newer hq1 hqr hbq)
          have HK2 := hid (hk.newer hq3 hbq)
          have HQ2 : Hid (Box (w5.setCell ⟨q, 3, none⟩ (.int .u32 (y.1 : Int))) q #[.int .i64 (ii : Int), .int .i64 (tt : Int), .int .i64 (bb : Int), .int .u32 (y.1 : Int), .int .i64 0, .slice none 0 0, .int .i64 0, .slice none 0 0, .slice none 0 0, .slice none 0 0, .slice none 0 0] 38) := by
            have h9 := hqb.set 3 (.int .u32 (y.1 : Int))
            unfold Hid
            simpa using h9
          have HBq := hid hbq
          clear hqb hgw hk hbq
          go_wp2_with fail
          generalize w5.setCell ⟨q, 3, none⟩ (.int .u32 (y.1 : Int)) = w6 at HGW HK2 HQ2 HBq ⊢
          clear d3 g3
          refine (HN4.out _ HGW.out).mono ?_
          rintro x w9 ⟨rfl, hgw, hbut9⟩
          have hqb := HQ2.out.but hbut9 hqr
          have hk := HK2.out.trans hbut9
          clear hbut9 HGW HK2 HQ2 HBq HN4
          have d6 := hqb.cell 6
          have g6 := hqb.frozen 6
          simp at d6
          have hbq : But (fun y => y = q) w9 (w9.setCell ⟨q, 6, none⟩ (.int .i64 (y.2.1.1 : Int))) := (But.one w9 q).setAt 6 _
          have HGW := hid (hgw.newer hq1 hqr hbq)
          have HK2 := hid (hk.newer hq3 hbq)
          have HQ2 : Hid (Box (w9.setCell ⟨q, 6, none⟩ (.int .i64 (y.2.1.1 : Int))) q #[.int .i64 (ii : Int), .int .i64 (tt : Int), .int .i64 (bb : Int), .int .u32 (y.1 : Int), .int .i64 0, .slice none 0 0, .int .i64 (y.2.1.1 : Int), .slice none 0 0, .slice none 0 0, .slice none 0 0, .slice none 0 0] 38) := by
            have h9 := hqb.set 6 (.int .i64 (y.2.1.1 : Int))
            unfold Hid
            simpa using h9
          have HBq := hid hbq
          clear hqb hgw hk hbq
          go_wp2_with fail
          generalize w9.setCell ⟨q, 6, none⟩ (.int .i64 (y.2.1.1 : Int)) = w10 at HGW HK2 HQ2 HBq ⊢
          clear d6 g6
          refine (HCl.out _ HGW.out).mono ?_
          rintro x w7 ⟨l, rfl, hT⟩
          obtain ⟨i7, j7, k7, hgw, hlf⟩ := hT.gw
          have hq6 := HQ2.out.lt
          have hqb := HQ2.out.but hT.but hqr
          have hk := HK2.out.trans hT.but
          have HLs0 : Hid (LT.In elCell w7 (fun b => rb < b ∧ b ≠ q) l) := hT.in_.mono fun b hb _ => ⟨hb.1, by have := hb.2; omega⟩
          have HLa := hid (hT.alike HQ.out.1)
          have HLf := hid hlf
          clear hT hlf HCl HGW HK2 HQ2 HBq hq6
          have d7 := hqb.cell 7
          have g7 := hqb.frozen 7
          simp at d7
          have hbq : But (fun y => y = q) w7 (w7.setCell ⟨q, 7, none⟩ (.slice l.p l.n l.c)) := (But.one w7 q).setAt 7 _
          have HGW := hid (hgw.newer hq1 hqr hbq)
          have HK2 := hid (hk.newer hq3 hbq)
          have HQ2 : Hid (Box (w7.setCell ⟨q, 7, none⟩ (.slice l.p l.n l.c)) q #[.int .i64 (ii : Int), .int .i64 (tt : Int), .int .i64 (bb : Int), .int .u32 (y.1 : Int), .int .i64 0, .slice none 0 0, .int .i64 (y.2.1.1 : Int), .slice l.p l.n l.c, .slice none 0 0, .slice none 0 0, .slice none 0 0] 38) := by
            have h9 := hqb.set 7 (.slice l.p l.n l.c)
            unfold Hid
            simpa using h9
          have HBq := hid hbq
          clear hqb hgw hk hbq
          go_wp2_with fail
          generalize w7.setCell ⟨q, 7, none⟩ (.slice l.p l.n l.c) = w8 at HGW HK2 HQ2 HBq ⊢
          clear d7 g7
          have HLs := hid (HLs0.out.two (But.r HBq.out))
          clear HBq HLs0
          refine (HNn.out _ _ _ _ _ _ HGW.out HLf.out).mono ?_
          rintro x wG ⟨rfl, hgw, hbutG⟩
          have hqb := HQ2.out.but hbutG hqr
          have hk := HK2.out.trans hbutG
          have HLsG := hid (HLs.out.two (But.l hbutG))
          have hlf := (numsG_at HLf.out).2
          clear hbutG HGW HK2 HQ2 HLs HLf
          have HLen : Hid (y.2.1.2.2.length ≤ 1000) := by unfold Hid; omega
          obtain ⟨nn, hnn⟩ : ∃ nn, nn = y.2.1.2.2.length := ⟨_, rfl⟩
          rw [← hnn] at HLen ⊢
          have hqA := hqb.lt
          have HI0 : Hid (TkL (elStr.wth (fun b => b ≠ q)) (fun x y => y = x) bagKs rb w1 w4 wG (.slice p n c) pa a b d N K V' y.2.1.2.2 (tailG qss ps) (.slice none 0 0) 0 (fun _ => ⟨#[]⟩) _ _ _) := ⟨⟨World.ownsRow_nil wG _ _ _, fun _ h => absurd h (by omega)⟩, fun _ h => (by cases h), fun _ _ h => absurd h (by omega), hgw, hlf, hk⟩
          have HQ0 := hid hqb
          clear hgw hlf hk hqb
          go_wp2_with fail
          go_loopw [12] (fun yv wr => ∃ (u i j k : Nat) (v : Value) (it : Nat → ByteArray), u ≤ nn ∧ yv = .int .i64 (u : Int) ∧ Box wr q #[.int .i64 (ii : Int), .int .i64 (tt : Int), .int .i64 (bb : Int), .int .u32 (y.1 : Int), .int .i64 0, .slice none 0 0, .int .i64 (y.2.1.1 : Int), .slice l.p l.n l.c, v, .slice none 0 0, .slice none 0 0] 38 ∧ (∀ o, v.ownBlock = some o → wG.heap.size ≤ o) ∧ But (Two rb q) wG wr ∧ TkL (elStr.wth (fun b => b ≠ q)) (fun x y => y = x) bagKs rb w1 w4 wr (.slice p n c) pa a b d N K V' y.2.1.2.2 (tailG qss ps) v u it i j k) (fun yv _ => nn - (intOf yv).toNat)
          case atStart => exact ⟨0, _, _, _, _, _, Nat.zero_le _, rfl, HQ0.out, fun _ h => (by cases h), But.refl _ _, HI0.out⟩
          case round =>
            obtain ⟨u, i6, j6, k6, v, it6, hu, rfl, hqb, hqo, hTw, hI⟩ := hrel
            clear HQ0 HI0
            obtain ⟨pv, cv, rfl⟩ := ownsRow_slice hI.own.own
            have hqs := hqb.lt
            have HI := hid hI
            by_cases hum : u < nn
            · have hum' : (u : Int) < (nn : Int) := by have := HLen.out; omega
              have hur : u < y.2.1.2.2.length := by omega
              have hnb : nn ≤ 1000 := HLen.out
              have HXt : Hid (y.2.1.2.2[u]? = some y.2.1.2.2[u]) := List.getElem?_eq_getElem hur
              have hlf := hI.left
              rw [List.drop_eq_getElem_cons hur] at hlf
              have hsm := HKs.out _ (List.getElem_mem hur)
              generalize y.2.1.2.2[u] = x at HXt hlf hsm
              obtain ⟨g1, g2⟩ := bagKs_cons hlf
              have HCa := hid (refKey3 H.out hI.gw.drew (by omega) g1)
              have HLf := hid g2
              have HSm := hid hsm
              clear hsm g1 g2
              have d8 := hqb.cell 8
              simp at d8
              have HS := hid (And.intro hqb (And.intro hqo hTw))
              clear hqb hqo hTw hI hlf
              go_wp2_with fail
              refine wp_region_calmE 30 (fun wx => wx.cell? ⟨q, 8, none⟩ = some (.slice pv u cv)) [(0, true), (1, true), (2, false), (3, true)] (.one 4 true [] (.one 5 true [] (.one 6 false [(7, true), (8, true)] (.one 9 false [] .done)))) (by kernel_rfl) (by kernel_rfl) d8 ?_
              refine wpPre_e rfl rfl (fun K1 hK1 => ?_)
              apply Exists.intro
              refine And.intro (fun wx hx => ?_) ?_
              · go_simp
                try rfl
              go_simp
              refine hK1 _ ?_
              clear hK1 K1
              refine wpPre_e rfl rfl (fun K1 hK1 => ?_)
              apply Exists.intro
              refine And.intro (fun wx hx => ?_) ?_
              · go_simp
                try rfl
              go_simp
              refine hK1 _ ?_
              clear hK1 K1
              refine wpPre_e rfl rfl (fun K1 hK1 => ?_)
              apply Exists.intro
              refine And.intro (fun wx hx => ?_) ?_
              · have e0 := hx.resolve_left (by decide)
                go_simp
                try rfl
              go_simp
              refine hK1 _ ?_
              clear hK1 K1
              refine wpPre_e rfl rfl (fun K1 hK1 => ?_)
              apply Exists.intro
              refine And.intro (fun wx hx => ?_) ?_
              · go_simp
                try rfl
              go_simp
              refine hK1 _ ?_
              clear hK1 K1
              refine wpPre_nil ?_
              refine wpTr_e rfl (fun K1 hK1 => ?_)
              refine step_call rfl 71 #[.tmp 90] _ rfl Try.f71 Try.func71 (by kernel_rfl) rfl #[.pointer (some ⟨rb, 3, none⟩)] rfl _ HCa.out (fun e w7 h7 => ?_)
              obtain ⟨rfl, hb7, hbut7⟩ := h7
              have hbut7' : But (fun q => q = rb) wr w7 := (But.refl _ _).drew.trans hbut7
              have his : x = x := rfl
              have hlf7 := HLf.out
              have hinx : x.size ≤ 140737488355328 := by have := HSm.out; omega
              have hqb7 := HS.out.1.but hbut7' hqr
              have e5 := hqb7.cell 8
              simp at e5
              refine ⟨_, rfl, ?_⟩
              go_simp
              refine hK1 _ _ (fun _ => e5) ?_
              clear hK1 K1 hbut7 HCa
              refine wpPre_nil ?_
              have hal7 : Below w7.heap.size w7 (w7.alloc (.cells #[.string x] 9)) := (Below.refl _ _).alloc (Nat.le_refl _) _
              have hqb8 := hqb7.below hal7
              have e6 := hqb8.cell 8
              simp at e6
              have hov7 : (w7.alloc (.cells #[.string x] 9)).ownsRow (rb + 1) 9 1 (.slice pv u cv) u ((List.range u).flatMap fun j => (elStr.wth (fun b => b ≠ q)).cells (it6 j)) := ownsRow_keep (ownsRow_keep HI.out.own.own (fun g hg hl => hbut7'.block g hl (by have := (HI.out.own.own.lt g hg).1; omega))) (fun g hg hl => hal7.block g hl)
              have HNw := hid (new_many0 w7 [.string x] 9)
              have hq8 := hqb8.lt
              have hqs7 := hqb7.lt
              have hrb7 := hb7.box.lt
              have hsz7 := hbut7'.size
              refine wpTr_e rfl (fun K1 hK1 => ?_)
              go_simp
              refine hK1 _ _ (fun _ => e6) ?_
              clear hK1 K1
              refine wpPre_nil ?_
              refine wpTr_e rfl (fun K1 hK1 => ?_)
              refine step_app rfl (.tmp 89) (.tmp 92) 32 9 kc _ 1 16 HKk.out rfl (rb + 1) _ u _ rfl hov7 ⟨w7.heap.size, 0, none⟩ 1 1 [.string x] rfl rfl HNw.out ((elStr).one x) (by omega) (by omega) (by simp; omega) ?_
              intro v3 w8 ho3 hg3 hn3
              have hqb9 := hqb8.kept (hg3.block q hq8 fun e => by have := HS.out.2.1 q e.symm; omega)
              have hsA := HS.out.2.2.size
              have ho9 := near_ge HS.out.2.1 hn3 (by have := hal7.size; omega)
              have HT8 := hid (HI.out.step HBu4.out HXt.out (by omega) rfl hinx hb7 hlf7 hbut7' ho3 hg3 hn3)
              obtain ⟨p3, c3, rfl⟩ := ownsRow_slice ho3
              have y5 := hqb9.cell 8
              have g5 := hqb9.frozen 8
              simp at y5
              go_simp
              refine hK1 _ _ (fun h => by cases h) ?_
              clear hK1 K1
              refine wpPre_e rfl rfl (fun K1 hK1 => ?_)
              apply Exists.intro
              refine And.intro (fun wx hx => ?_) ?_
              · go_simp
                try rfl
              go_simp
              refine hK1 _ ?_
              clear hK1 K1
              refine wpPre_e rfl rfl (fun K1 hK1 => ?_)
              apply Exists.intro
              refine And.intro (fun wx hx => ?_) ?_
              · go_simp
                try rfl
              go_simp
              refine hK1 _ ?_
              clear hK1 K1
              refine wpPre_nil ?_
              refine wpTr_e rfl (fun K1 hK1 => ?_)
              go_simp
              refine hK1 _ _ (fun h => by cases h) ?_
              clear hK1 K1
              refine wpPre_nil ?_
              refine wpTr_done ?_
              have hbq : But (fun y => y = q) w8 (w8.setCell ⟨q, 8, none⟩ (.slice p3 (u + 1) c3)) := (But.one w8 q).setAt 8 _
              have HQ9 : Hid (Box (w8.setCell ⟨q, 8, none⟩ (.slice p3 (u + 1) c3)) q #[.int .i64 (ii : Int), .int .i64 (tt : Int), .int .i64 (bb : Int), .int .u32 (y.1 : Int), .int .i64 0, .slice none 0 0, .int .i64 (y.2.1.1 : Int), .slice l.p l.n l.c, .slice p3 (u + 1) c3, .slice none 0 0, .slice none 0 0] 38) := by
                have h9 := hqb9.set 8 (.slice p3 (u + 1) c3)
                unfold Hid
                simpa using h9
              have HTw9 := hid (two_round HS.out.2.2 hbut7' hg3 HS.out.2.1 hbq)
              have HT9 := hid (HT8.out.oneW HBu4.out (fun b hb => hb) hq3 (by omega) (fun o ho => by have := ho9 o ho; omega) hbq)
              have HO9 := hid ho9
              clear hbq hqb9 hqb8 hqb7 hov7 hg3 ho3 hn3 HS hb7 hbut7' hal7 HNw e5 e6 y5 g5 d8 HT8 ho9 HI HXt his hinx hlf7 HLf HSm
              generalize w8.setCell ⟨q, 8, none⟩ (.slice p3 (u + 1) c3) = w9 at HQ9 HT9 HTw9 ⊢
              go_wp2
              go_roundw
              case rel => exact ⟨u + 1, _, _, _, _, _, by omega, by go_num, HQ9.out, HO9.out, HTw9.out, HT9.out⟩
              case measure => simp [intOf]; omega
            · obtain rfl : u = nn := by omega
              have hum' : ¬ (u : Int) < (u : Int) := by omega
              obtain ⟨lk, hvl, hln, hli, hlin⟩ := hI.list (fun o ho => by have := hqo o ho; omega) (by have := HLen.out; omega)
              rw [hvl] at hqb
              have HIsgone : Hid (lk.n = y.2.1.2.2.length ∧ ∀ s r, y.2.1.2.2[s]? = some r → (fun x y => y = x) r (lk.item s)) := ⟨hln.trans hnn, fun s r hs => by rw [hli]; exact hI.is_ s r (by have := (List.getElem?_eq_some_iff.1 hs).1; omega) hs⟩
              have hgw := hI.gw
              have hk := hI.but
              have hlf := hI.left
              rw [hnn, List.drop_length] at hlf
              have HTw := hid hTw
              have HLingone := hid hlin
              clear hqo hTw hI HI hvl hln hli hlin
              obtain ⟨wg, rfl⟩ : ∃ wg, wg = wr := ⟨wr, rfl⟩
              have HGW := hid hgw
              have HK2 := hid hk
              have HQ2 := hid hqb
              have HLf := hid hlf
              have HLs := hid (HLsG.out.two HTw.out)
              have HGs := HLingone
              clear hgw hk hqb hlf HTw HLsG HLingone
              go_wp2_with fail
              clear hnn hum hu HLen hum'
              refine (HNn.out _ _ _ _ _ _ HGW.out HLf.out).mono ?_
              rintro x wA ⟨rfl, hgw, hbutA⟩
              have hqb := HQ2.out.but hbutA hqr
              have hk := HK2.out.trans hbutA
              have HLsA := hid (HLs.out.two (But.l hbutA))
              have HGsA := hid (HGs.out.two (But.l hbutA))
              have hlf := (numsG_at HLf.out).2
              clear hbutA HGW HK2 HQ2 HLs HLf HNn HGs
              have HLen : Hid (qss.length ≤ 1000) := by unfold Hid; omega
              obtain ⟨nn, hnn⟩ : ∃ nn, nn = qss.length := ⟨_, rfl⟩
              rw [← hnn] at HLen ⊢
              have hqA := hqb.lt
              have HI0 : Hid (TkL (elRecs.wth (fun b => b ≠ q)) LIs bagLs rb w1 w4 wA (.slice p n c) pa a b d N K V' qss (numsG (ps.length : Int) (bagRs ps gNil)) (.slice none 0 0) 0 (fun _ => ⟨none, 0, 0, fun _ => zeroR⟩) _ _ _) := ⟨⟨World.ownsRow_nil wA _ _ _, fun _ h => absurd h (by omega)⟩, fun _ h => (by cases h), fun _ _ h => absurd h (by omega), hgw, hlf, hk⟩
              have HQ0 := hid hqb
              clear hgw hlf hk hqb
              go_wp2_with fail
              go_loopw [14] (fun yv wr => ∃ (u i j k : Nat) (v : Value) (it : Nat → LT RT), u ≤ nn ∧ yv = .int .i64 (u : Int) ∧ Box wr q #[.int .i64 (ii : Int), .int .i64 (tt : Int), .int .i64 (bb : Int), .int .u32 (y.1 : Int), .int .i64 0, .slice none 0 0, .int .i64 (y.2.1.1 : Int), .slice l.p l.n l.c, .slice lk.p lk.n lk.c, v, .slice none 0 0] 38 ∧ (∀ o, v.ownBlock = some o → wA.heap.size ≤ o) ∧ But (Two rb q) wA wr ∧ TkL (elRecs.wth (fun b => b ≠ q)) LIs bagLs rb w1 w4 wr (.slice p n c) pa a b d N K V' qss (numsG (ps.length : Int) (bagRs ps gNil)) v u it i j k) (fun yv _ => nn - (intOf yv).toNat)
              case atStart => exact ⟨0, _, _, _, _, _, Nat.zero_le _, rfl, HQ0.out, fun _ h => (by cases h), But.refl _ _, HI0.out⟩
              case round =>
                obtain ⟨u, i6, j6, k6, v, it6, hu, rfl, hqb, hqo, hTw, hI⟩ := hrel
                clear HQ0 HI0
                obtain ⟨pv, cv, rfl⟩ := ownsRow_slice hI.own.own
                have hqs := hqb.lt
                have HI := hid hI
                by_cases hum : u < nn
                · have hum' : (u : Int) < (nn : Int) := by have := HLen.out; omega
                  have hur : u < qss.length := by omega
                  have hnb : nn ≤ 1000 := HLen.out
                  have HXt : Hid (qss[u]? = some qss[u]) := List.getElem?_eq_getElem hur
                  have hlf := hI.left
                  rw [List.drop_eq_getElem_cons hur] at hlf
                  have hokx := HQ.out.2.1.left (P := fun q : List BRec => q.length ≤ 256 ∧ ∀ r ∈ q, BRec.Ok r) (fun _ _ h => okL_ok h) _ (List.getElem_mem hur)
                  generalize qss[u] = x at HXt hlf hokx
                  have HCa := hid (refRecords3 H.out hI.gw.drew hNl hKl hVl (bagLs_cons hlf) hokx.2 (by have := hokx.1; omega))
                  clear hokx
                  have d9 := hqb.cell 9
                  simp at d9
                  have HS := hid (And.intro hqb (And.intro hqo hTw))
                  clear hqb hqo hTw hI hlf
                  go_wp2_with fail
                  refine wp_region_calmE 30 (fun wx => wx.cell? ⟨q, 9, none⟩ = some (.slice pv u cv)) [(0, true), (1, false), (2, true)] (.one 3 true [] (.one 4 true [] (.one 5 false [(6, true)] (.one 7 false [] .done)))) (by kernel_rfl) (by kernel_rfl) d9 ?_
                  refine wpPre_e rfl rfl (fun K1 hK1 => ?_)
                  apply Exists.intro
                  refine And.intro (fun wx hx => ?_) ?_
                  · go_simp
                    try rfl
                  go_simp
                  refine hK1 _ ?_
                  clear hK1 K1
                  refine wpPre_e rfl rfl (fun K1 hK1 => ?_)
                  apply Exists.intro
                  refine And.intro (fun wx hx => ?_) ?_
                  · have e0 := hx.resolve_left (by decide)
                    go_simp
                    try rfl
                  go_simp
                  refine hK1 _ ?_
                  clear hK1 K1
                  refine wpPre_e rfl rfl (fun K1 hK1 => ?_)
                  apply Exists.intro
                  refine And.intro (fun wx hx => ?_) ?_
                  · go_simp
                    try rfl
                  go_simp
                  refine hK1 _ ?_
                  clear hK1 K1
                  refine wpPre_nil ?_
                  refine wpTr_e rfl (fun K1 hK1 => ?_)
                  refine step_call rfl 72 #[.tmp 105] _ rfl Try.f72 Try.func72 (by kernel_rfl) rfl #[.pointer (some ⟨rb, 3, none⟩)] rfl _ HCa.out (fun e w7 h7 => ?_)
                  obtain ⟨lx, rfl, hT7⟩ := h7
                  obtain ⟨i7, j7, k7, hb7, hlf7⟩ := hT7.gw
                  have hbut7 := hT7.but
                  have hbut7' : But (fun q => q = rb) wr w7 := (But.refl _ _).drew.trans hbut7
                  have his : LIs x lx := ⟨hT7.n, hT7.is_⟩
                  have hdz : wr.drew.heap.size = wr.heap.size := rfl
                  have hinx : LT.In elRec w7 (fun b => (rb < b ∧ (b < w1.heap.size ∨ wr.heap.size ≤ b)) ∧ b ≠ q) lx := hT7.in_.mono fun b hb _ => ⟨hb, by have := hb.2; omega⟩
                  have hqb7 := HS.out.1.but hbut7' hqr
                  have e5 := hqb7.cell 9
                  simp at e5
                  refine ⟨_, rfl, ?_⟩
                  go_simp
                  refine hK1 _ _ (fun _ => e5) ?_
                  clear hK1 K1 hbut7 HCa
                  refine wpPre_nil ?_
                  have hal7 : Below w7.heap.size w7 (w7.alloc (.cells #[.slice lx.p lx.n lx.c] 36)) := (Below.refl _ _).alloc (Nat.le_refl _) _
                  have hqb8 := hqb7.below hal7
                  have e6 := hqb8.cell 9
                  simp at e6
                  have hov7 : (w7.alloc (.cells #[.slice lx.p lx.n lx.c] 36)).ownsRow (rb + 1) 36 1 (.slice pv u cv) u ((List.range u).flatMap fun j => (elRecs.wth (fun b => b ≠ q)).cells (it6 j)) := ownsRow_keep (ownsRow_keep HI.out.own.own (fun g hg hl => hbut7'.block g hl (by have := (HI.out.own.own.lt g hg).1; omega))) (fun g hg hl => hal7.block g hl)
                  have HNw := hid (new_many0 w7 [.slice lx.p lx.n lx.c] 36)
                  have hq8 := hqb8.lt
                  have hqs7 := hqb7.lt
                  have hrb7 := hb7.box.lt
                  have hsz7 := hbut7'.size
                  refine wpTr_e rfl (fun K1 hK1 => ?_)
                  go_simp
                  refine hK1 _ _ (fun _ => e6) ?_
                  clear hK1 K1
                  refine wpPre_nil ?_
                  refine wpTr_e rfl (fun K1 hK1 => ?_)
                  refine step_app rfl (.tmp 104) (.tmp 107) 35 36 iR _ 1 24 HKR.out rfl (rb + 1) _ u _ rfl hov7 ⟨w7.heap.size, 0, none⟩ 1 1 [.slice lx.p lx.n lx.c] rfl rfl HNw.out ((elRecs).one lx) (by omega) (by omega) (by simp; omega) ?_
                  intro v3 w8 ho3 hg3 hn3
                  have hqb9 := hqb8.kept (hg3.block q hq8 fun e => by have := HS.out.2.1 q e.symm; omega)
                  have hsA := HS.out.2.2.size
                  have ho9 := near_ge HS.out.2.1 hn3 (by have := hal7.size; omega)
                  have HT8 := hid (HI.out.step HBu4.out HXt.out (by omega) his hinx hb7 hlf7 hbut7' ho3 hg3 hn3)
                  obtain ⟨p3, c3, rfl⟩ := ownsRow_slice ho3
                  have y5 := hqb9.cell 9
                  have g5 := hqb9.frozen 9
                  simp at y5
                  go_simp
                  refine hK1 _ _ (fun h => by cases h) ?_
                  clear hK1 K1
                  refine wpPre_e rfl rfl (fun K1 hK1 => ?_)
                  apply Exists.intro
                  refine And.intro (fun wx hx => ?_) ?_
                  · go_simp
                    try rfl
                  go_simp
                  refine hK1 _ ?_
                  clear hK1 K1
                  refine wpPre_nil ?_
                  refine wpTr_e rfl (fun K1 hK1 => ?_)
                  go_simp
                  refine hK1 _ _ (fun h => by cases h) ?_
                  clear hK1 K1
                  refine wpPre_nil ?_
                  refine wpTr_done ?_
                  have hbq : But (fun y => y = q) w8 (w8.setCell ⟨q, 9, none⟩ (.slice p3 (u + 1) c3)) := (But.one w8 q).setAt 9 _
                  have HQ9 : Hid (Box (w8.setCell ⟨q, 9, none⟩ (.slice p3 (u + 1) c3)) q #[.int .i64 (ii : Int), .int .i64 (tt : Int), .int .i64 (bb : Int), .int .u32 (y.1 : Int), .int .i64 0, .slice none 0 0, .int .i64 (y.2.1.1 : Int), .slice l.p l.n l.c, .slice lk.p lk.n lk.c, .slice p3 (u + 1) c3, .slice none 0 0] 38) := by
                    have h9 := hqb9.set 9 (.slice p3 (u + 1) c3)
                    unfold Hid
                    simpa using h9
                  have HTw9 := hid (two_round HS.out.2.2 hbut7' hg3 HS.out.2.1 hbq)
                  have HT9 := hid (HT8.out.oneW HBu4.out (fun b hb => hb) hq3 (by omega) (fun o ho => by have := ho9 o ho; omega) hbq)
                  have HO9 := hid ho9
                  clear hbq hqb9 hqb8 hqb7 hov7 hg3 ho3 hn3 HS hb7 hbut7' hal7 HNw e5 e6 y5 g5 d9 HT8 ho9 HI HXt his hinx hlf7 hT7
                  generalize w8.setCell ⟨q, 9, none⟩ (.slice p3 (u + 1) c3) = w9 at HQ9 HT9 HTw9 ⊢
                  go_wp2
                  go_roundw
                  case rel => exact ⟨u + 1, _, _, _, _, _, by omega, by go_num, HQ9.out, HO9.out, HTw9.out, HT9.out⟩
                  case measure => simp [intOf]; omega
                · obtain rfl : u = nn := by omega
                  have hum' : ¬ (u : Int) < (u : Int) := by omega
                  obtain ⟨lg, hvl, hln, hli, hlin⟩ := hI.list (fun o ho => by have := hqo o ho; omega) (by have := HLen.out; omega)
                  rw [hvl] at hqb
                  have HIslogs : Hid (lg.n = qss.length ∧ ∀ s r, qss[s]? = some r → LIs r (lg.item s)) := ⟨hln.trans hnn, fun s r hs => by rw [hli]; exact hI.is_ s r (by have := (List.getElem?_eq_some_iff.1 hs).1; omega) hs⟩
                  have hgw := hI.gw
                  have hk := hI.but
                  have hlf := hI.left
                  rw [hnn, List.drop_length] at hlf
                  have HTw := hid hTw
                  have HLinlogs := hid hlin
                  clear hqo hTw hI HI hvl hln hli hlin
                  have HP := hid (refRecords3 H.out hgw hNl hKl hVl hlf (HQ.out.2.2.1.left fun _ _ h => h.1) (by omega))
                  have HK := hid hk
                  have HQb := hid hqb
                  clear hgw hlf hk hqb
                  go_wp2_with fail
                  refine HP.out.mono ?_
                  rintro x wP ⟨lp, rfl, hT⟩
                  have hqlt := HQb.out.lt
                  have hqb := HQb.out.but hT.but hqr
                  have hk := HK.out.trans hT.but
                  have d10 := hqb.cell 10
                  have g10 := hqb.frozen 10
                  simp at d10
                  have hbq : But (fun y => y = q) wP (wP.setCell ⟨q, 10, none⟩ (.slice lp.p lp.n lp.c)) := (But.one wP q).setAt 10 _
                  have hqc : Box (wP.setCell ⟨q, 10, none⟩ (.slice lp.p lp.n lp.c)) q #[.int .i64 (ii : Int), .int .i64 (tt : Int), .int .i64 (bb : Int), .int .u32 (y.1 : Int), .int .i64 0, .slice none 0 0, .int .i64 (y.2.1.1 : Int), .slice l.p l.n l.c, .slice lk.p lk.n lk.c, .slice lg.p lg.n lg.c, .slice lp.p lp.n lp.c] 38 := by
                    have h9 := hqb.set 10 (.slice lp.p lp.n lp.c)
                    simpa using h9
                  have hv := ((HV1.out.but HBu4.out (by omega)).but hk (by omega)).but hbq (by omega)
                  have HT := hid hT
                  have HBq := hid hbq
                  have HKe := hid hk
                  have HSi := hid (And.intro hbq.size (And.intro hk.size hqlt))
                  have m0 := hqc.cell 0
                  have m1 := hqc.cell 1
                  have m2 := hqc.cell 2
                  have m3 := hqc.cell 3
                  have m4 := hqc.cell 4
                  have m5 := hqc.cell 5
                  have m6 := hqc.cell 6
                  have m7 := hqc.cell 7
                  have m8 := hqc.cell 8
                  have m9 := hqc.cell 9
                  have m10 := hqc.cell 10
                  simp only [List.getElem?_toArray, List.getElem?_cons_zero, List.getElem?_cons_succ] at m0 m1 m2 m3 m4 m5 m6 m7 m8 m9 m10
                  have c0 := hv.cell 0
                  have f0 := hv.frozen 0
                  have c1 := hv.cell 1
                  have f1 := hv.frozen 1
                  have c2 := hv.cell 2
                  have f2 := hv.frozen 2
                  have c3 := hv.cell 3
                  have f3 := hv.frozen 3
                  have c4 := hv.cell 4
                  have f4 := hv.frozen 4
                  have c5 := hv.cell 5
                  have f5 := hv.frozen 5
                  have c6 := hv.cell 6
                  have f6 := hv.frozen 6
                  have c7 := hv.cell 7
                  have f7 := hv.frozen 7
                  have c8 := hv.cell 8
                  have f8 := hv.frozen 8
                  have c9 := hv.cell 9
                  have f9 := hv.frozen 9
                  have c10 := hv.cell 10
                  have f10 := hv.frozen 10
                  simp only [List.getElem?_toArray, List.getElem?_cons_zero, List.getElem?_cons_succ] at c0 c1 c2 c3 c4 c5 c6 c7 c8 c9 c10
                  have zz := set11_box hv (.int .i64 (ii : Int)) (.int .i64 (tt : Int)) (.int .i64 (bb : Int)) (.int .u32 (y.1 : Int)) (.int .i64 0) (.slice none 0 0) (.int .i64 (y.2.1.1 : Int)) (.slice l.p l.n l.c) (.slice lk.p lk.n lk.c) (.slice lg.p lg.n lg.c) (.slice lp.p lp.n lp.c)
                  have r0' := zz.cell 0
                  have r1' := zz.cell 1
                  have r2' := zz.cell 2
                  have r3' := zz.cell 3
                  have r4' := zz.cell 4
                  have r5' := zz.cell 5
                  have r6' := zz.cell 6
                  have r7' := zz.cell 7
                  have r8' := zz.cell 8
                  have r9' := zz.cell 9
                  have r10' := zz.cell 10
                  simp only [List.getElem?_toArray, List.getElem?_cons_zero, List.getElem?_cons_succ] at r0' r1' r2' r3' r4' r5' r6' r7' r8' r9' r10'
                  have HZ := hid (And.intro r0' (And.intro r1' (And.intro r2' (And.intro r3' (And.intro r4' (And.intro r5' (And.intro r6' (And.intro r7' (And.intro r8' (And.intro r9' r10'))))))))))
                  clear zz r0' r1' r2' r3' r4' r5' r6' r7' r8' r9' r10'
                  clear hv hqc hqb hk hbq hT HP HK HQb hqlt
                  go_wp2
                  obtain ⟨r0', r1', r2', r3', r4', r5', r6', r7', r8', r9', r10'⟩ := HZ.out
                  obtain ⟨hsi1, hsi2, hqlt⟩ := HSi.out
                  have hfin := But.sets11 (wP.setCell ⟨q, 10, none⟩ (.slice lp.p lp.n lp.c)) w.heap.size (.int .i64 (ii : Int)) (.int .i64 (tt : Int)) (.int .i64 (bb : Int)) (.int .u32 (y.1 : Int)) (.int .i64 0) (.slice none 0 0) (.int .i64 (y.2.1.1 : Int)) (.slice l.p l.n l.c) (.slice lk.p lk.n lk.c) (.slice lg.p lg.n lg.c) (.slice lp.p lp.n lp.c)
                  have hb14 : Below w.heap.size w1 wP := (HBu4.out.trans HKe.out).below (by omega) (fun k hk e => by omega)
                  have hbq2 : Below w.heap.size wP _ := HBq.out.below (by omega) (fun k hk e => by omega)
                  have hbf : Below w.heap.size w _ := ((HBE1.out.trans hb14).trans hbq2).trans (hfin.below (by omega) (fun k hk e => by omega))
                  refine bodyPost_ret (v := .tuple #[GT.val ⟨ii, tt, bb, y.1, noS, ⟨y.2.1.1, l, lk⟩, lg, lp⟩, .int .i64 0]) (by simp [results, Try.results25, go_sem, GT.val, noS, r0', r1', r2', r3', r4', r5', r6', r7', r8', r9', r10']) rfl ⟨⟨ii, tt, bb, y.1, noS, ⟨y.2.1.1, l, lk⟩, lg, lp⟩, 0, rfl, hbf, ?_, fun y hy => ?_, fun y z R hy => ?_, fun e he => ?_⟩
                  · have hlc := LT.In.but (HLsA.out.two ((HTw.out.trans (But.l HT.out.but)).trans (But.r HBq.out))) hfin (fun b hb _ e => by omega)
                    have hll := LT.In.but (HLinlogs.out.two ((But.l HT.out.but).trans (But.r HBq.out))) hfin (fun b hb _ e => by omega)
                    have hlp := LT.In.but (LT.In.two (rb := rb) (q := q) (HT.out.in_.mono fun b hb _ => ⟨hb.1, by have := hb.2; omega⟩) (But.r HBq.out)) hfin (fun b hb _ e => by omega)
                    have hlk := LT.In.but (HGsA.out.two ((HTw.out.trans (But.l HT.out.but)).trans (But.r HBq.out))) hfin (fun b hb _ e => by omega)
                    exact ⟨HFr.out.1, HFr.out.2.1, HFr.out.2.2, HU.out, in_noS _ _, ⟨HQ.out.2.2.2, hlc.mono fun b hb _ => by omega, hlk.mono fun b hb _ => by omega⟩, hll.mono fun b hb _ => by omega, hlp.mono fun b hb _ => by omega⟩
                  · rw [HSeg.out] at hy
                    cases hy
                    exact ⟨rfl, rfl, rfl, rfl, rfl, ⟨rfl, rfl, fun j hj => absurd hj (Nat.not_lt_zero j)⟩, ⟨rfl, HLa.out, HIsgone.out.1, fun i u h => HIsgone.out.2 i u h⟩, HQ.out.2.1.isl (fun _ _ _ h1 h2 => okL_alike h1 h2) HIslogs.out.1 HIslogs.out.2, HQ.out.2.2.1.isl (fun _ _ u h1 h2 => h1.2 u h2) HT.out.n HT.out.is_⟩
                  · rw [HSeg.out] at hy; cases hy
                  · rw [HSeg.out] at he; cases he
end Go.Proofs.Ytikfpoabaaiegaa
