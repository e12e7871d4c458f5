import Derived.Test.YtikfpoabaaiegaaBgF
import Derived.Test.YtikfpoabaaiegaaBgH
import Derived.Test.YtikfpoabaaiegaaPack37
import Derived.Test.YtikfpoabaaiegaaPack38
import Derived.Test.YtikfpoabaaiegaaPack36
namespace Go.Proofs.Ytikfpoabaaiegaa
open Go.RowKit
set_option maxRecDepth 8000
set_option maxHeartbeats 4000000 in
theorem refPutSeg_bad (g : GI) (w : World) (S : Nat → Prop) (hin : GI.In w S g) (hk : chkSeg g ≠ 0) : Calls Try.prog 14 #[g.val] w fun x w' => PutE (chkSeg g) w x w' := by
  have ha : Below w.heap.size w (w.alloc (.cells #[.int .i64 g.id, .int .i64 g.task, .int .i64 g.base, .int .u32 (g.sum : Int), .int .i64 g.st.num, .slice g.st.p g.st.n g.st.c, .int .i64 g.dnum, .slice g.set.p g.set.n g.set.c, .slice g.gone.p g.gone.n g.gone.c, .slice g.logs.p g.logs.n g.logs.c, .slice g.pend.p g.pend.n g.pend.c] 38)) := (Below.refl _ _).alloc (Nat.le_refl _) _
  have hbx := Box.new w #[.int .i64 g.id, .int .i64 g.task, .int .i64 g.base, .int .u32 (g.sum : Int), .int .i64 g.st.num, .slice g.st.p g.st.n g.st.c, .int .i64 g.dnum, .slice g.set.p g.set.n g.set.c, .slice g.gone.p g.gone.n g.gone.c, .slice g.logs.p g.logs.n g.logs.c, .slice g.pend.p g.pend.n g.pend.c] 38
  have c0 := hbx.cell 0
  have c1 := hbx.cell 1
  have c2 := hbx.cell 2
  have c3 := hbx.cell 3
  have c4 := hbx.cell 4
  have c5 := hbx.cell 5
  have c6 := hbx.cell 6
  have c7 := hbx.cell 7
  have c8 := hbx.cell 8
  have c9 := hbx.cell 9
  have c10 := hbx.cell 10
  simp only [List.getElem?_toArray, List.getElem?_cons_zero, List.getElem?_cons_succ] at c0 c1 c2 c3 c4 c5 c6 c7 c8 c9 c10
  have HC := hid (refSegment_any g (w.alloc (.cells #[.int .i64 g.id, .int .i64 g.task, .int .i64 g.base, .int .u32 (g.sum : Int), .int .i64 g.st.num, .slice g.st.p g.st.n g.st.c, .int .i64 g.dnum, .slice g.set.p g.set.n g.set.c, .slice g.gone.p g.gone.n g.gone.c, .slice g.logs.p g.logs.n g.logs.c, .slice g.pend.p g.pend.n g.pend.c] 38)) S (hin.below ha))
  unfold GI.val at HC ⊢
  have HA := hid ha
  have hk' := nat_ne hk
  clear ha hbx hin
  go_enter Try.func14, Try.ntmps14
  go_wp2_with fail
  refine HC.out.mono ?_
  rintro x w2 ⟨rfl, hb2⟩
  have HB2 := hid (HA.out.trans (hb2.mono HA.out.size))
  clear hb2 HC hk
  go_wp2
  refine bodyPost_ret (v := .tuple #[.slice none 0 0, .int .i64 (chkSeg g : Int)]) (by simp [results, Try.results14, go_sem]) rfl ?_
  exact ⟨rfl, HB2.out⟩
theorem refPutSeg (g : GI) (w : World) (S : Nat → Prop) (hin : GI.In w S g) (hS : ∀ b, S b → b < w.heap.size) : Calls Try.prog 14 #[g.val] w fun x w' => PutR (chkSeg g) (segB g.to) w x w' := by
  by_cases h : chkSeg g = 0
  · by_cases h0 : g.base = 0
    · exact (refPutSeg_full g w S hin hS h h0).mono fun _ _ hp => ⟨fun _ => hp, fun h2 => absurd h h2⟩
    · exact (refPutSeg_patch g w S hin hS h h0).mono fun _ _ hp => ⟨fun _ => hp, fun h2 => absurd h h2⟩
  · exact (refPutSeg_bad g w S hin h).mono fun _ _ hp => ⟨fun h2 => absurd h2 h, fun _ => hp⟩
end Go.Proofs.Ytikfpoabaaiegaa

namespace Go.Proofs.Ytikfpoabaaiegaa
open Go.RowKit
set_option maxRecDepth 8000
set_option maxHeartbeats 4000000 in
theorem refPutSt (s : ST) (w : World) (S : Nat → Prop) (hin : ST.In2 w S s) (hS : ∀ b, S b → b < w.heap.size) : Calls Try.prog 13 #[.agg #[.int .i64 s.num, .slice s.p s.n s.c]] w fun x w' => PutR (chkState s) (stateB s) w x w' := by
  obtain ⟨iI, KdI⟩ := kindI
  have HKI := hid KdI
  have ha : Below w.heap.size w (w.alloc (.cells #[.int .i64 s.num, .slice s.p s.n s.c] 30)) := (Below.refl _ _).alloc (Nat.le_refl _) _
  have hbx := Box.new w #[.int .i64 s.num, .slice s.p s.n s.c] 30
  have c0 := (hbx).cell 0
  have c1 := (hbx).cell 1
  simp only [List.getElem?_toArray, List.getElem?_cons_zero, List.getElem?_cons_succ] at c0 c1
  have HC := hid (refCheckState_any s (w.alloc (.cells #[.int .i64 s.num, .slice s.p s.n s.c] 30)) S (hin.i.below ha))
  unfold ST.val at HC
  have HA := hid ha
  have HX := hid hbx
  have HIn := hid hin
  have HS := hid hS
  clear ha hbx hin hS KdI
  go_enter Try.func13, Try.ntmps13
  go_wp2_with fail
  refine HC.out.mono ?_
  rintro x w2 ⟨rfl, hb2⟩
  have HB2 := hid (HA.out.trans (hb2.mono HA.out.size))
  have hx2 := HX.out.below hb2
  have hlt2 := hx2.lt
  have HX2 := hid hx2
  clear hb2 hx2 HC HX c0 c1
  by_cases hk : chkState s = 0
  · have hk' := eq_bool hk
    have HK := hid hk
    have HVS := hid (vs_of hk)
    obtain ⟨aN, bK, cV, h1⟩ : BGx w2 w2.heap.size (w2.alloc (.cells #[.slice none 0 0, .slice none 0 0, .slice none 0 0, .int .i64 0, .int .i64 0, .int .i64 0] 104)) [] [] [] := ⟨_, _, _, BG.start w2⟩
    obtain ⟨q, hq⟩ : ∃ q, q = w.heap.size := ⟨_, rfl⟩
    obtain ⟨rb, hrb⟩ : ∃ rb, rb = w2.heap.size := ⟨_, rfl⟩
    rw [← hq] at HX2 hlt2
    rw [← hrb] at h1 hlt2
    have hws := h1.box.lt
    have HIn2 : Hid (LT.In elCell w2 S ⟨s.p, s.n, s.c, s.cell⟩) := (ST.toLT HIn.out.i HIn.out.nil).kept HB2.out.size (fun b hb _ => HB2.out.block b (HS.out b hb))
    have HS2 : Hid (∀ q, S q → q < rb) := fun q hq => by rw [hrb]; have := HS.out q hq; have := HB2.out.size; omega
    have HRB := hid hrb
    have HXW : Hid (∀ W, Below rb w2 W → Box W q #[.int .i64 s.num, .slice s.p s.n s.c] 30) := fun W hW => HX2.out.kept (hW.block q hlt2)
    rw [hk]
    clear hk
    go_wp2_with fail
    rw [← hrb, ← hq]
    clear hq hrb
    obtain ⟨W, hW⟩ : ∃ W, W = w2.alloc (.cells #[.slice none 0 0, .slice none 0 0, .slice none 0 0, .int .i64 0, .int .i64 0, .int .i64 0] 104) := ⟨_, rfl⟩
    rw [← hW] at h1 hws ⊢
    clear hW
    go_cut [] (fun wx => BGx w2 rb wx (([] : List Int) ++ [s.num]) ([] : List ByteArray) ([] : List VT))
    case first =>
      obtain ⟨pa, ca, rfl⟩ := ownsRow_slice h1.oN
      have hwc := h1.box.lt
      have x0 := h1.box.cell 0
      simp at x0
      have d0 := (HXW.out W h1.below).cell 0
      simp at d0
      have hal : Below W.heap.size W ((W.alloc (.cells #[.int .i64 s.num] 3)).drew) := ((Below.refl _ _).alloc (Nat.le_refl _) _).drew
      have H1 := hid (h1.kept hal)
      have z1 := (h1.kept (w2 := W.alloc (.cells #[.int .i64 s.num] 3)) ((Below.refl _ _).alloc (Nat.le_refl _) _)).box.cell 0
      simp at z1
      have HNw := hid (new_many W [.int .i64 s.num] 3)
      clear h1 hal
      go_region_law (refine step_app rfl (.tmp 17) (.tmp 20) 25 3 iI _ 1 8 HKI.out rfl (rb + 1) _ 0 (intC ([] : List Int)) rfl H1.out.oN ⟨W.heap.size, 0, none⟩ 1 1 [.int .i64 s.num] rfl rfl HNw.out (one_ints [s.num]) (by simp) (by simp) (by simp; omega) ?_
                     intro v3 w3 ho3 hg3 hn3
                     obtain ⟨p3, c3, rfl⟩ := ownsRow_slice ho3
                     have hx3 := H1.out.boxN hg3
                     have y1 := hx3.cell 0
                     have g1 := hx3.frozen 0
                     simp at y1)
      all_goals go_wp2_with fail
      all_goals go_meet
      all_goals exact ⟨_, _, _, H1.out.nums (M := [s.num]) ho3 hg3 hn3⟩
    case rest =>
      clear h1 hws
      have HAd := hid (addCells_any hcut s.p s.n s.c s.cell HIn2.out HS2.out HVS.out.n HVS.out.cell (by simp) (by simp) (by simp))
      obtain ⟨_, _, _, hg2⟩ := hcut
      have hx := HXW.out wc hg2.below
      have d1 := hx.cell 1
      simp at d1
      clear hg2 hx
      have HW : Hid (∀ W, BGx w2 rb W ([] ++ [s.num] ++ ((s.n : Int) :: celN s.cell s.n)) ([] ++ celK s.cell s.n) ([] ++ celV s.cell s.n) → Calls Try.prog 46 #[.pointer (some ⟨rb, 0, none⟩), .slice none 0 0, .string ⟨#[110, 60, 99, 107, 91, 98, 118, 93, 62]⟩] W fun e w' => ∃ v', e = .returned v' ∧ OwnBy rb w' v' (stateB s) ∧ Below rb w2 w') := fun W hW =>
        refWritten (S := S) hW (by rw [HRB.out]; exact Nat.le_refl _) (celV_in HIn2.out) HS2.out (by simp [celN]; have := HVS.out.n; omega) (by simp [celK]; have := HVS.out.n; omega) (by have := celV_len s.cell s.n (fun j hj => (HVS.out.cell j hj).2); have := HVS.out.n; simp; omega) 8 ⟨#[110, 60, 99, 107, 91, 98, 118, 93, 62]⟩ (by decide) (stateB s) ⟨[], [], []⟩ (by
          have h := wS_state s HVS.out [] 3 [] [] []
          rw [wS_nil] at h
          simpa [txL] using h) (by have := stateB_len HIn2.out HVS.out; omega)
      go_wp2_with fail
      refine HAd.out.mono ?_
      rintro x w4 ⟨rfl, hb4⟩
      have HW4 := hid (HW.out w4 hb4)
      clear hb4 HAd HW
      go_wp2_with fail
      refine HW4.out.mono ?_
      rintro x w5 ⟨v5, rfl, ho5, hb5⟩
      have hle : w.heap.size ≤ rb := by rw [HRB.out]; exact HB2.out.size
      have HF := hid (And.intro (ho5.mono hle) (HB2.out.trans (hb5.mono hle)))
      clear ho5 hb5 HW4
      go_wp2
      refine bodyPost_ret (v := .tuple #[v5, .int .i64 0]) (by simp [results, Try.results13, go_sem]) rfl ?_
      exact ⟨fun _ => ⟨_, rfl, HF.out⟩, fun h => absurd HK.out h⟩
  · have hk' := nat_ne hk
    have HK := hid hk
    clear hk
    go_wp2
    refine bodyPost_ret (v := .tuple #[.slice none 0 0, .int .i64 (chkState s : Int)]) (by simp [results, Try.results13, go_sem]) rfl ?_
    exact ⟨fun h => absurd h HK.out, fun _ => ⟨rfl, HB2.out⟩⟩
end Go.Proofs.Ytikfpoabaaiegaa

namespace Go.Proofs.Ytikfpoabaaiegaa
open Go.RowKit
set_option maxRecDepth 8000
set_option maxHeartbeats 4000000 in
theorem refPutRow (o : OI) (w : World) (S : Nat → Prop) (hin : RT.In w S o.rec_) (hS : ∀ b, S b → b < w.heap.size) : Calls Try.prog 16 #[.agg #[.int .i64 o.num, .string o.rec_.key, .int .i64 o.rec_.v.kind, .int .i64 o.rec_.v.int, .string o.rec_.v.text, .slice o.rec_.v.p o.rec_.v.n o.rec_.v.c, .slice o.rec_.p o.rec_.n o.rec_.c]] w fun x w' => PutR (chkOut o) (outB o.to) w x w' := by
  obtain ⟨iI, KdI⟩ := kindI
  have HKI := hid KdI
  have ha : Below w.heap.size w (w.alloc (.cells #[.int .i64 o.num, .string o.rec_.key, .int .i64 o.rec_.v.kind, .int .i64 o.rec_.v.int, .string o.rec_.v.text, .slice o.rec_.v.p o.rec_.v.n o.rec_.v.c, .slice o.rec_.p o.rec_.n o.rec_.c] 43)) := (Below.refl _ _).alloc (Nat.le_refl _) _
  have hbx := Box.new w #[.int .i64 o.num, .string o.rec_.key, .int .i64 o.rec_.v.kind, .int .i64 o.rec_.v.int, .string o.rec_.v.text, .slice o.rec_.v.p o.rec_.v.n o.rec_.v.c, .slice o.rec_.p o.rec_.n o.rec_.c] 43
  have c0 := (hbx).cell 0
  have c1 := (hbx).cell 1
  have c2 := (hbx).cell 2
  have c3 := (hbx).cell 3
  have c4 := (hbx).cell 4
  have c5 := (hbx).cell 5
  have c6 := (hbx).cell 6
  simp only [List.getElem?_toArray, List.getElem?_cons_zero, List.getElem?_cons_succ] at c0 c1 c2 c3 c4 c5 c6
  have HO := hid (refOut_any o.num 1073741824 (w.alloc (.cells #[.int .i64 o.num, .string o.rec_.key, .int .i64 o.rec_.v.kind, .int .i64 o.rec_.v.int, .string o.rec_.v.text, .slice o.rec_.v.p o.rec_.v.n o.rec_.v.c, .slice o.rec_.p o.rec_.n o.rec_.c] 43)))
  have HC := hid (refCheckRecord_any o.rec_ (w.alloc (.cells #[.int .i64 o.num, .string o.rec_.key, .int .i64 o.rec_.v.kind, .int .i64 o.rec_.v.int, .string o.rec_.v.text, .slice o.rec_.v.p o.rec_.v.n o.rec_.v.c, .slice o.rec_.p o.rec_.n o.rec_.c] 43)) S (hin.below ha))
  unfold RT.val at HC
  have HA := hid ha
  have HX := hid hbx
  have HIn := hid hin
  have HS := hid hS
  clear ha hbx hin hS KdI
  go_enter Try.func16, Try.ntmps16
  go_wp2_with fail
  refine HO.out.mono ?_
  rintro x w1 ⟨rfl, hw1⟩
  subst w1
  clear HO
  by_cases hr : 0 ≤ o.num ∧ o.num ≤ 1073741824
  · have hd : decide (o.num < 0 ∨ 1073741824 < o.num) = false := by simp; omega
    rw [hd]
    clear hd
    have HCo : Hid (chkOut o = chkRec o.rec_) := if_pos hr
    go_wp2_with fail
    refine HC.out.mono ?_
    rintro x w2 ⟨rfl, hb2⟩
    have HB2 := hid (HA.out.trans (hb2.mono HA.out.size))
    have hx2 := HX.out.below hb2
    have hlt2 := hx2.lt
    have HX2 := hid hx2
    clear hb2 hx2 HC HX c0 c1 c2 c3 c4 c5 c6
    by_cases hk : chkRec o.rec_ = 0
    · have hk' := eq_bool hk
      have HK := hid hk
      have HVR := hid (vr_of hk)
      obtain ⟨aN, bK, cV, h1⟩ : BGx w2 w2.heap.size (w2.alloc (.cells #[.slice none 0 0, .slice none 0 0, .slice none 0 0, .int .i64 0, .int .i64 0, .int .i64 0] 104)) [] [] [] := ⟨_, _, _, BG.start w2⟩
      obtain ⟨q, hq⟩ : ∃ q, q = w.heap.size := ⟨_, rfl⟩
      obtain ⟨rb, hrb⟩ : ∃ rb, rb = w2.heap.size := ⟨_, rfl⟩
      rw [← hq] at HX2 hlt2
      rw [← hrb] at h1 hlt2
      have hws := h1.box.lt
      have HIn2 : Hid (RT.In w2 S o.rec_) := HIn.out.kept HB2.out.size (fun b hb _ => HB2.out.block b (HS.out b hb))
      have HS2 : Hid (∀ q, S q → q < rb) := fun q hq => by rw [hrb]; have := HS.out q hq; have := HB2.out.size; omega
      have HRB := hid hrb
      have HXW : Hid (∀ W, Below rb w2 W → Box W q #[.int .i64 o.num, .string o.rec_.key, .int .i64 o.rec_.v.kind, .int .i64 o.rec_.v.int, .string o.rec_.v.text, .slice o.rec_.v.p o.rec_.v.n o.rec_.v.c, .slice o.rec_.p o.rec_.n o.rec_.c] 43) := fun W hW => HX2.out.kept (hW.block q hlt2)
      rw [hk]
      clear hk
      go_wp2_with fail
      rw [← hrb, ← hq]
      clear hq hrb
      obtain ⟨W, hW⟩ : ∃ W, W = w2.alloc (.cells #[.slice none 0 0, .slice none 0 0, .slice none 0 0, .int .i64 0, .int .i64 0, .int .i64 0] 104) := ⟨_, rfl⟩
      rw [← hW] at h1 hws ⊢
      clear hW
      go_cut [] (fun wx => BGx w2 rb wx (([] : List Int) ++ [o.num]) ([] : List ByteArray) ([] : List VT))
      case first =>
        obtain ⟨pa, ca, rfl⟩ := ownsRow_slice h1.oN
        have hwc := h1.box.lt
        have x0 := h1.box.cell 0
        simp at x0
        have d0 := (HXW.out W h1.below).cell 0
        simp at d0
        have hal : Below W.heap.size W ((W.alloc (.cells #[.int .i64 o.num] 3)).drew) := ((Below.refl _ _).alloc (Nat.le_refl _) _).drew
        have H1 := hid (h1.kept hal)
        have z1 := (h1.kept (w2 := W.alloc (.cells #[.int .i64 o.num] 3)) ((Below.refl _ _).alloc (Nat.le_refl _) _)).box.cell 0
        simp at z1
        have HNw := hid (new_many W [.int .i64 o.num] 3)
        clear h1 hal
        go_region_law (refine step_app rfl (.tmp 21) (.tmp 24) 25 3 iI _ 1 8 HKI.out rfl (rb + 1) _ 0 (intC ([] : List Int)) rfl H1.out.oN ⟨W.heap.size, 0, none⟩ 1 1 [.int .i64 o.num] rfl rfl HNw.out (one_ints [o.num]) (by simp) (by simp) (by simp; omega) ?_
                       intro v3 w3 ho3 hg3 hn3
                       obtain ⟨p3, c3, rfl⟩ := ownsRow_slice ho3
                       have hx3 := H1.out.boxN hg3
                       have y1 := hx3.cell 0
                       have g1 := hx3.frozen 0
                       simp at y1)
        all_goals go_wp2_with fail
        all_goals go_meet
        all_goals exact ⟨_, _, _, H1.out.nums (M := [o.num]) ho3 hg3 hn3⟩
      case rest =>
        clear h1 hws
        have HAd := hid (addRecord_any hcut o.rec_ HIn2.out HS2.out HVR.out.n (by simp) (by simp) (by simp))
        obtain ⟨_, _, _, hg2⟩ := hcut
        have hx := HXW.out wc hg2.below
        have d1 := hx.cell 1
        have d2 := hx.cell 2
        have d3 := hx.cell 3
        have d4 := hx.cell 4
        have d5 := hx.cell 5
        have d6 := hx.cell 6
        simp at d1 d2 d3 d4 d5 d6
        clear hg2 hx
        have HW : Hid (∀ W, BGx w2 rb W ([] ++ [o.num] ++ recN o.rec_) ([] ++ [o.rec_.key]) ([] ++ [o.rec_.v]) → Calls Try.prog 46 #[.pointer (some ⟨rb, 0, none⟩), .slice none 0 0, .string ⟨#[79, 110, 107, 118, 91, 97, 104, 93]⟩] W fun e w' => ∃ v', e = .returned v' ∧ OwnBy rb w' v' (outB o.to) ∧ Below rb w2 w') := fun W hW =>
          refWritten (S := S) hW (by rw [HRB.out]; exact Nat.le_refl _) (fun x hx => by simp at hx; rw [hx]; exact HIn2.out.v) HS2.out (by simp [recN]; have := HVR.out.n; omega) (by simp) (by simp) 8 ⟨#[79, 110, 107, 118, 91, 97, 104, 93]⟩ (by decide) (outB o.to) ⟨[], [], []⟩ (by
            have h := wS_row o.num.toNat (by omega) o.rec_ HVR.out
            rw [show ((o.num.toNat : Nat) : Int) = o.num by omega] at h
            simpa [txL, OI.to] using h) (by
            have := recB_len HIn2.out HVR.out
            have := grpB_len 9 o.num.toNat (by have := hr.2; omega)
            simp [outB, OI.to]
            omega)
        unfold RT.val at HAd
        go_wp2_with fail
        refine HAd.out.mono ?_
        rintro x w4 ⟨rfl, hb4⟩
        have HW4 := hid (HW.out w4 hb4)
        clear hb4 HAd HW
        go_wp2_with fail
        refine HW4.out.mono ?_
        rintro x w5 ⟨v5, rfl, ho5, hb5⟩
        have hle : w.heap.size ≤ rb := by rw [HRB.out]; exact HB2.out.size
        have HF := hid (And.intro (ho5.mono hle) (HB2.out.trans (hb5.mono hle)))
        clear ho5 hb5 HW4
        go_wp2
        refine bodyPost_ret (v := .tuple #[v5, .int .i64 0]) (by simp [results, Try.results16, go_sem]) rfl ?_
        exact ⟨fun _ => ⟨_, rfl, HF.out⟩, fun h => absurd (HCo.out.trans HK.out) h⟩
    · have hk' := nat_ne hk
      have HK := hid hk
      clear hk
      go_wp2
      refine bodyPost_ret (v := .tuple #[.slice none 0 0, .int .i64 (chkRec o.rec_ : Int)]) (by simp [results, Try.results16, go_sem]) rfl ?_
      rw [HCo.out]
      exact ⟨fun h => absurd h HK.out, fun _ => ⟨rfl, HB2.out⟩⟩
  · have hd : decide (o.num < 0 ∨ 1073741824 < o.num) = true := by simp; omega
    rw [hd]
    clear hd
    have HCo : Hid (chkOut o = 43) := if_neg hr
    clear hr
    go_wp2
    refine bodyPost_ret (v := .tuple #[.slice none 0 0, .int .i64 43]) (by simp [results, Try.results16, go_sem]) rfl ?_
    rw [HCo.out]
    exact ⟨fun h => absurd h (by decide), fun _ => ⟨rfl, HA.out⟩⟩
end Go.Proofs.Ytikfpoabaaiegaa

namespace Go.Proofs.Ytikfpoabaaiegaa
open Go.RowKit
set_option maxRecDepth 8000
def manN (f : Nat → Int × Nat) (n : Nat) : List Int := (List.range n).flatMap fun j => [(f j).1, ((f j).2 : Int)]
theorem manN_succ (f : Nat → Int × Nat) (n : Nat) : manN f (n + 1) = manN f n ++ [(f n).1, ((f n).2 : Int)] := by simp [manN, List.range_succ]
theorem manN_len (f : Nat → Int × Nat) : ∀ n, (manN f n).length = 2 * n := by
  intro n
  induction n with
  | zero => rfl
  | succ n ih => rw [manN_succ, List.length_append, ih]; simp; omega
theorem wordOf_nat {n : Nat} (h : n < 4294967296) : wordOf (n : Int) = some (wordB n) := by unfold wordOf; rw [if_pos ⟨by omega, by omega⟩]; rfl
theorem wS_file (F : Nat) (x : Int × Nat) (h0 : 0 ≤ x.1) (h1 : x.1 ≤ 65536) (h2 : x.2 < 4294967296) (N : List Int) (K : List ByteArray) (V : List VT) : wS (F + 2) [122, 119] ⟨x.1 :: (x.2 : Int) :: N, K, V⟩ = some (fileB (x.1.toNat, x.2), ⟨N, K, V⟩) := by
  rw [show F + 2 = F + 1 + 1 from rfl, wS_piece (by decide) (show pieceS 122 ⟨x.1 :: (x.2 : Int) :: N, K, V⟩ = some (grpB x.1.toNat, ⟨(x.2 : Int) :: N, K, V⟩) by simp [pieceS, numB_ok h0 (show x.1 < 34359738368 by omega)])]
  rw [wS_piece (by decide) (show pieceS 119 ⟨(x.2 : Int) :: N, K, V⟩ = some (wordB x.2, ⟨N, K, V⟩) by simp [pieceS, wordOf_nat h2]), wS_nil]
  simp [fileB]
theorem wS_man (m : MI) (hi0 : 0 ≤ m.id) (hi1 : m.id ≤ 9999) (hs : m.sum < 4294967296) (hn : m.rows.n ≤ 12) (hr : ∀ j, j < m.rows.n → 0 ≤ (m.rows.item j).1 ∧ (m.rows.item j).1 ≤ 65536 ∧ (m.rows.item j).2 < 4294967296) :
    wS 8 [77, 105, 119, 91, 114, 122, 119, 93] ⟨[m.id, (m.sum : Int), (m.rows.n : Int)] ++ manN m.rows.item m.rows.n, [], []⟩ = some (manB m.to, ⟨[], [], []⟩) := by
  have h0 := repS_range (α := Int × Nat) (wS 4 [122, 119]) (fun x => fileB (x.1.toNat, x.2)) (fun x => [x.1, (x.2 : Int)]) (fun _ => []) (fun _ => []) m.rows.item [] [] [] m.rows.n (fun j hj N K V => wS_file 2 _ (hr j hj).1 (hr j hj).2.1 (hr j hj).2.2 N K V)
  rw [flatN_none, flatN_none] at h0
  show wS (7 + 1) _ ⟨m.id :: (m.sum : Int) :: (m.rows.n : Int) :: manN m.rows.item m.rows.n, [], []⟩ = _
  rw [wS_piece (by decide) (show pieceS 77 ⟨m.id :: (m.sum : Int) :: (m.rows.n : Int) :: manN m.rows.item m.rows.n, [], []⟩ = some ([77], ⟨m.id :: (m.sum : Int) :: (m.rows.n : Int) :: manN m.rows.item m.rows.n, [], []⟩) by simp [pieceS])]
  rw [show (7 : Nat) = 6 + 1 from rfl, wS_piece (by decide) (show pieceS 105 ⟨m.id :: (m.sum : Int) :: (m.rows.n : Int) :: manN m.rows.item m.rows.n, [], []⟩ = some (grpB m.id.toNat, ⟨(m.sum : Int) :: (m.rows.n : Int) :: manN m.rows.item m.rows.n, [], []⟩) by simp [pieceS, numB_ok hi0 (show m.id < 34359738368 by omega)])]
  rw [show (6 : Nat) = 5 + 1 from rfl, wS_piece (by decide) (show pieceS 119 ⟨(m.sum : Int) :: (m.rows.n : Int) :: manN m.rows.item m.rows.n, [], []⟩ = some (wordB m.sum, ⟨(m.rows.n : Int) :: manN m.rows.item m.rows.n, [], []⟩) by simp [pieceS, wordOf_nat hs])]
  rw [show (5 : Nat) = 4 + 1 from rfl, wS_list (m := 4) (item := [122, 119]) (rest := []) (.inl rfl) rfl (by decide) rfl rfl (numB_nat (by omega)) (by simpa [manN] using h0), wS_nil]
  simp [manB, MI.to, listB]
set_option maxHeartbeats 4000000 in
theorem refPutMan (m : MI) (w : World) (S : Nat → Prop) (hin : LT.In elRowI w S m.rows) (hsum : m.sum < 4294967296) (hS : ∀ b, S b → b < w.heap.size) : Calls Try.prog 15 #[.agg #[.int .i64 m.id, .int .u32 (m.sum : Int), .slice m.rows.p m.rows.n m.rows.c]] w fun x w' => PutR (chkMan m) (manB m.to) w x w' := by
  obtain ⟨iI, KdI⟩ := kindI
  have HKI := hid KdI
  have ha : Below w.heap.size w (w.alloc (.cells #[.int .i64 m.id, .int .u32 (m.sum : Int), .slice m.rows.p m.rows.n m.rows.c] 41)) := (Below.refl _ _).alloc (Nat.le_refl _) _
  have hbx := Box.new w #[.int .i64 m.id, .int .u32 (m.sum : Int), .slice m.rows.p m.rows.n m.rows.c] 41
  have c0 := (hbx).cell 0
  have c1 := (hbx).cell 1
  have c2 := (hbx).cell 2
  simp only [List.getElem?_toArray, List.getElem?_cons_zero, List.getElem?_cons_succ] at c0 c1 c2
  have HO := hid (refOut_any m.id 9999 (w.alloc (.cells #[.int .i64 m.id, .int .u32 (m.sum : Int), .slice m.rows.p m.rows.n m.rows.c] 41)))
  have HA := hid ha
  have HX := hid hbx
  have HIn := hid hin
  have HS := hid hS
  clear ha hbx hin hS KdI
  go_enter Try.func15, Try.ntmps15
  go_wp2_with fail
  refine HO.out.mono ?_
  rintro x w1 ⟨rfl, hw1⟩
  subst w1
  clear HO
  by_cases hr : 0 ≤ m.id ∧ m.id ≤ 9999
  · have hd : decide (m.id < 0 ∨ 9999 < m.id) = false := by simp; omega
    rw [hd]
    clear hd
    by_cases hn : 12 < m.rows.n
    · have hn' : (12 : Int) < (m.rows.n : Int) := by omega
      have HCo : Hid (chkMan m = 43) := by unfold Hid chkMan; rw [if_pos hr, if_pos hn]
      go_wp2
      refine bodyPost_ret (v := .tuple #[.slice none 0 0, .int .i64 43]) (by simp [results, Try.results15, go_sem]) rfl ?_
      rw [HCo.out]
      exact ⟨fun h => absurd h (by decide), fun _ => ⟨rfl, HA.out⟩⟩
    have hn' : ¬ (12 : Int) < (m.rows.n : Int) := by omega
    have HCo : Hid (chkMan m = firstC (fun j => chkSize (m.rows.item j)) m.rows.n) := by unfold Hid chkMan; rw [if_pos hr, if_neg hn]
    obtain ⟨w2, hw2⟩ : ∃ w2, w2 = w.alloc (.cells #[.int .i64 m.id, .int .u32 (m.sum : Int), .slice m.rows.p m.rows.n m.rows.c] 41) := ⟨_, rfl⟩
    rw [← hw2] at HA HX
    have HB2 : Hid (Below w.heap.size w w2) := HA
    have hlt2 := HX.out.lt
    obtain ⟨aN, bK, cV, h1⟩ : BGx w2 w2.heap.size (w2.alloc (.cells #[.slice none 0 0, .slice none 0 0, .slice none 0 0, .int .i64 0, .int .i64 0, .int .i64 0] 104)) [] [] [] := ⟨_, _, _, BG.start w2⟩
    obtain ⟨q, hq⟩ : ∃ q, q = w.heap.size := ⟨_, rfl⟩
    obtain ⟨rb, hrb⟩ : ∃ rb, rb = w2.heap.size := ⟨_, rfl⟩
    rw [← hq] at HX hlt2
    rw [← hrb] at h1 hlt2
    have hws := h1.box.lt
    have HIn2 : Hid (LT.In elRowI w2 S m.rows) := HIn.out.kept HB2.out.size (fun b hb _ => HB2.out.block b (HS.out b hb))
    have HS2 : Hid (∀ q, S q → q < rb) := fun q hq => by rw [hrb]; have := HS.out q hq; have := HB2.out.size; omega
    have HRB := hid hrb
    have HXW : Hid (∀ W, Below rb w2 W → Box W q #[.int .i64 m.id, .int .u32 (m.sum : Int), .slice m.rows.p m.rows.n m.rows.c] 41) := fun W hW => HX.out.kept (hW.block q hlt2)
    have HR2 : Hid (rb = w.heap.size + 1) := by unfold Hid; rw [hrb, hw2]; simp
    go_wp2_with fail
    rw [← HR2.out, ← hw2, ← hq]
    clear hq hrb hw2 c0 c1 c2
    obtain ⟨W, hW⟩ : ∃ W, W = w2.alloc (.cells #[.slice none 0 0, .slice none 0 0, .slice none 0 0, .int .i64 0, .int .i64 0, .int .i64 0] 104) := ⟨_, rfl⟩
    rw [← hW] at h1 hws ⊢
    clear hW
    go_cut [] (fun wx => BGx w2 rb wx (([] : List Int) ++ [m.id, (m.sum : Int), (m.rows.n : Int)]) ([] : List ByteArray) ([] : List VT))
    case first =>
      have hwr : IntKind.i64.wrap (m.sum : Int) = (m.sum : Int) := by rw [IntKind.wrap_i64]; omega
      have hx := HXW.out W h1.below
      have d0 := hx.cell 0
      have d1 := hx.cell 1
      have d2 := hx.cell 2
      simp at d0 d1 d2
      clear hx
      obtain ⟨pa, ca, rfl⟩ := ownsRow_slice h1.oN
      have x0 := h1.box.cell 0
      simp at x0
      refine wp_region_calm 30 (fun wx => Below W.heap.size W wx) [(0, true), (1, true), (2, true), (3, true), (4, false), (5, true), (6, false), (7, true), (8, false), (9, true), (10, true), (11, false), (12, true), (15, true), (16, true)] [(13, true), (14, false), (17, false)] (by kernel_rfl) (by kernel_rfl) (Below.refl _ _).drew ?_
      refine wpPre_e rfl rfl (fun K1 hK1 => ?_)
      apply Exists.intro
      refine And.intro (fun wx hx => ?_) ?_
      · go_simp
        try rfl
      go_simp
      refine hK1 _ ?_
      clear hK1 K1
      refine wpPre_e rfl rfl (fun K1 hK1 => ?_)
      apply Exists.intro
      refine And.intro (fun wx hx => ?_) ?_
      · go_simp
        try rfl
      go_simp
      refine hK1 _ ?_
      clear hK1 K1
      refine wpPre_e rfl rfl (fun K1 hK1 => ?_)
      apply Exists.intro
      refine And.intro (fun wx hx => ?_) ?_
      · go_simp
        try rfl
      go_simp
      refine hK1 _ ?_
      clear hK1 K1
      refine wpPre_e rfl rfl (fun K1 hK1 => ?_)
      apply Exists.intro
      refine And.intro (fun wx hx => ?_) ?_
      · go_simp
        try rfl
      go_simp
      refine hK1 _ ?_
      clear hK1 K1
      refine wpPre_e rfl rfl (fun K1 hK1 => ?_)
      apply Exists.intro
      refine And.intro (fun wx hx => ?_) ?_
      · have e0 := below_fact hx rfl x0; have e1 := below_fact hx rfl d0; have e2 := below_fact hx rfl d1; have e3 := below_fact hx rfl d2
        go_simp
        try rfl
      go_simp
      refine hK1 _ ?_
      clear hK1 K1
      refine wpPre_e rfl rfl (fun K1 hK1 => ?_)
      apply Exists.intro
      refine And.intro (fun wx hx => ?_) ?_
      · go_simp
        try rfl
      go_simp
      refine hK1 _ ?_
      clear hK1 K1
      refine wpPre_e rfl rfl (fun K1 hK1 => ?_)
      apply Exists.intro
      refine And.intro (fun wx hx => ?_) ?_
      · have e0 := below_fact hx rfl x0; have e1 := below_fact hx rfl d0; have e2 := below_fact hx rfl d1; have e3 := below_fact hx rfl d2
        go_simp
        try rfl
      go_simp
      refine hK1 _ ?_
      clear hK1 K1
      refine wpPre_e rfl rfl (fun K1 hK1 => ?_)
      apply Exists.intro
      refine And.intro (fun wx hx => ?_) ?_
      · go_simp
        try rfl
      go_simp
      refine hK1 _ ?_
      clear hK1 K1
      refine wpPre_e rfl rfl (fun K1 hK1 => ?_)
      apply Exists.intro
      refine And.intro (fun wx hx => ?_) ?_
      · have e0 := below_fact hx rfl x0; have e1 := below_fact hx rfl d0; have e2 := below_fact hx rfl d1; have e3 := below_fact hx rfl d2
        go_simp
        try rfl
      go_simp
      refine hK1 _ ?_
      clear hK1 K1
      refine wpPre_e rfl rfl (fun K1 hK1 => ?_)
      apply Exists.intro
      refine And.intro (fun wx hx => ?_) ?_
      · go_simp
        try rfl
      go_simp
      refine hK1 _ ?_
      clear hK1 K1
      refine wpPre_e rfl rfl (fun K1 hK1 => ?_)
      apply Exists.intro
      refine And.intro (fun wx hx => ?_) ?_
      · go_simp
        try rfl
      go_simp
      refine hK1 _ ?_
      clear hK1 K1
      refine wpPre_e rfl rfl (fun K1 hK1 => ?_)
      apply Exists.intro
      refine And.intro (fun wx hx => ?_) ?_
      · have e0 := below_fact hx rfl x0; have e1 := below_fact hx rfl d0; have e2 := below_fact hx rfl d1; have e3 := below_fact hx rfl d2
        go_simp
        try rfl
      go_simp
      refine hK1 _ ?_
      clear hK1 K1
      refine wpPre_e rfl rfl (fun K1 hK1 => ?_)
      apply Exists.intro
      refine And.intro (fun wx hx => ?_) ?_
      · go_simp
        try rfl
      go_simp
      refine hK1 _ ?_
      clear hK1 K1
      refine wpPre_e rfl rfl (fun K1 hK1 => ?_)
      apply Exists.intro
      refine And.intro (fun wx hx => ?_) ?_
      · go_simp
        try rfl
      go_simp
      refine hK1 _ ?_
      clear hK1 K1
      refine wpPre_e rfl rfl (fun K1 hK1 => ?_)
      apply Exists.intro
      refine And.intro (fun wx hx => ?_) ?_
      · go_simp
        try rfl
      go_simp
      refine hK1 _ ?_
      clear hK1 K1
      refine wpPre_nil ?_
      have hal : Below W.heap.size W ((W.alloc (.cells #[.int .i64 m.id, .int .i64 (m.sum : Int), .int .i64 (m.rows.n : Int)] 3)).drew) := ((Below.refl _ _).alloc (Nat.le_refl _) _).drew
      have H1 := hid (h1.kept hal)
      have HNw := hid (new_many W [.int .i64 m.id, .int .i64 (m.sum : Int), .int .i64 (m.rows.n : Int)] 3)
      refine wpSeq_e rfl (fun K1 hK1 => ?_)
      go_simp
      refine hK1 _ _ (fun _ => hal) ?_
      clear hK1 K1 hal
      refine wpSeq_e rfl (fun K1 hK1 => ?_)
      refine step_app rfl (.tmp 21) (.tmp 30) 25 3 iI _ 1 8 HKI.out rfl (rb + 1) _ 0 (intC ([] : List Int)) rfl H1.out.oN ⟨W.heap.size, 0, none⟩ 3 3 [.int .i64 m.id, .int .i64 (m.sum : Int), .int .i64 (m.rows.n : Int)] rfl rfl HNw.out (one_ints [m.id, (m.sum : Int), (m.rows.n : Int)]) (by first | omega | (simp; done)) (by first | omega | (simp; done)) (by have := h1.box.lt; simp; omega) ?_
      intro v3 w3 ho3 hg3 hn3
      obtain ⟨p3, c3, rfl⟩ := ownsRow_slice ho3
      have hx3 := H1.out.boxN hg3
      have y1 := hx3.cell 0
      have g1 := hx3.frozen 0
      simp at y1
      clear hx3
      go_simp
      refine hK1 _ _ (fun h => by cases h) ?_
      clear hK1 K1
      refine wpSeq_e rfl (fun K1 hK1 => ?_)
      go_simp
      refine hK1 _ _ (fun h => by cases h) ?_
      clear hK1 K1
      refine wpSeq_nil ?_
      go_wp2_with fail
      go_meet
      exact ⟨_, _, _, H1.out.nums (M := [m.id, (m.sum : Int), (m.rows.n : Int)]) ho3 hg3 hn3⟩
    case rest =>
      clear h1 hws
      have HB0 := hid hcut
      clear hcut
      go_wp2_with fail
      go_loopw [5] (fun x wr => ∃ j : Nat, j ≤ m.rows.n ∧ x = .int .i64 (j : Int) ∧ BGx w2 rb wr ([] ++ [m.id, (m.sum : Int), (m.rows.n : Int)] ++ manN m.rows.item j) [] [] ∧ firstC (fun j => chkSize (m.rows.item j)) j = 0) (fun x _ => m.rows.n - (intOf x).toNat)
      case atStart => exact ⟨0, Nat.zero_le _, rfl, by simpa [manN] using HB0.out, rfl⟩
      case round =>
        obtain ⟨j, hj, rfl, hb, hz⟩ := hrel
        clear HB0
        have HZ := hid hz
        clear hz
        have HBj := hid hb
        obtain ⟨a5, b5, c5, h5⟩ := hb
        have hbw := h5.below
        have hws := h5.box.lt
        have hx := HXW.out wr hbw
        have d2 := hx.cell 2
        simp at d2
        clear hx
        by_cases hlt : j < m.rows.n
        · have hlt' : (j : Int) < (m.rows.n : Int) := by omega
          obtain ⟨b1, o1, hp, hSb, hl1, ha⟩ := HIn2.out.at_ (show 0 < m.rows.n by omega)
          have hca : ∀ r u, (elRowI.cells (m.rows.item j))[r]? = some u → wr.cell? ⟨b1, o1 + j * 2 + r, none⟩ = some u := fun r u hu => (World.cell?_of_block (a := ⟨b1, o1 + j * 2 + r, none⟩) (hbw.block b1 (HS2.out b1 hSb))).trans (ha j hlt r u hu)
          have hc1 := hca 0 _ rfl
          have hc2 := hca 1 _ rfl
          simp only [Nat.add_zero] at hc1
          have hbr := HS2.out b1 hSb
          have hit : Hid ((-9223372036854775808 ≤ (m.rows.item j).1 ∧ (m.rows.item j).1 ≤ 9223372036854775807) ∧ (m.rows.item j).2 < 4294967296) := HIn2.out.each j hlt
          have HO := hid (refOut_any (m.rows.item j).1 65536 wr)
          have hNl : ([] ++ [m.id, (m.sum : Int), (m.rows.n : Int)] ++ manN m.rows.item j).length ≤ 100 := by rw [List.length_append, manN_len]; simp; omega
          obtain ⟨N1, hN1⟩ : ∃ N1, N1 = [] ++ [m.id, (m.sum : Int), (m.rows.n : Int)] ++ manN m.rows.item j := ⟨_, rfl⟩
          rw [← hN1] at h5 hNl
          have HN1 : Hid ([] ++ [m.id, (m.sum : Int), (m.rows.n : Int)] ++ manN m.rows.item (j + 1) = N1 ++ [(m.rows.item j).1, ((m.rows.item j).2 : Int)]) := by unfold Hid; rw [hN1, manN_succ, ← List.append_assoc]
          have HCj : Hid (∀ z, chkSize (m.rows.item j) = z → chkSize (m.rows.item j) = z) := fun z h => h
          have hsz : Hid (chkSize (m.rows.item j) = if 0 ≤ (m.rows.item j).1 ∧ (m.rows.item j).1 ≤ 65536 then 0 else 43) := rfl
          clear ha hca hN1 HBj HCj
          rw [hp] at d2
          obtain ⟨sz, hszv⟩ : ∃ sz, sz = (m.rows.item j).1 := ⟨_, rfl⟩
          obtain ⟨ck, hck⟩ : ∃ ck, ck = (m.rows.item j).2 := ⟨_, rfl⟩
          rw [← hszv] at hc1 hit HO HN1 hsz
          rw [← hck] at hc2 hit HN1
          have HSv := hid hszv
          have HP := hid hp
          clear hszv hck hp
          go_wp2_with fail
          refine HO.out.mono ?_
          rintro x w6 ⟨rfl, hw6⟩
          subst w6
          clear HO
          by_cases hr2 : 0 ≤ sz ∧ sz ≤ 65536
          · have hd : decide (sz < 0 ∨ 65536 < sz) = false := by simp; omega
            rw [hd]
            clear hd
            have HZ2 : Hid (firstC (fun j => chkSize (m.rows.item j)) (j + 1) = 0) := by
              unfold Hid
              rw [firstC_succ HZ.out, hsz.out, if_pos hr2]
            clear hr2 hsz
            obtain ⟨pa, ca, rfl⟩ := ownsRow_slice h5.oN
            have x0 := h5.box.cell 0
            simp at x0
            have hwr : IntKind.i64.wrap (ck : Int) = (ck : Int) := by have := hit.out.2; rw [IntKind.wrap_i64]; omega
            have h1 := h5
            clear h5
            go_wp2_with fail
            refine wp_region_calm 30 (fun wx => Below wr.heap.size wr wx) [(0, true), (1, true), (2, true), (3, true), (4, false), (5, true), (6, false), (7, true), (8, true), (9, true), (10, false), (11, true), (12, false), (13, true), (14, true), (15, true), (16, false), (17, true), (20, true), (21, true)] [(18, true), (19, false), (22, false)] (by kernel_rfl) (by kernel_rfl) (Below.refl _ _).drew ?_
            refine wpPre_e rfl rfl (fun K1 hK1 => ?_)
            apply Exists.intro
            refine And.intro (fun wx hx => ?_) ?_
            · go_simp
              try rfl
            go_simp
            refine hK1 _ ?_
            clear hK1 K1
            refine wpPre_e rfl rfl (fun K1 hK1 => ?_)
            apply Exists.intro
            refine And.intro (fun wx hx => ?_) ?_
            · go_simp
              try rfl
            go_simp
            refine hK1 _ ?_
            clear hK1 K1
            refine wpPre_e rfl rfl (fun K1 hK1 => ?_)
            apply Exists.intro
            refine And.intro (fun wx hx => ?_) ?_
            · go_simp
              try rfl
            go_simp
            refine hK1 _ ?_
            clear hK1 K1
            refine wpPre_e rfl rfl (fun K1 hK1 => ?_)
            apply Exists.intro
            refine And.intro (fun wx hx => ?_) ?_
            · go_simp
              try rfl
            go_simp
            refine hK1 _ ?_
            clear hK1 K1
            refine wpPre_e rfl rfl (fun K1 hK1 => ?_)
            apply Exists.intro
            refine And.intro (fun wx hx => ?_) ?_
            · have e0 := below_fact hx rfl x0; have e1 := below_fact hx rfl d2; have e2 := below_fact hx rfl hc1; have e3 := below_fact hx rfl hc2
              go_simp
              try rfl
            go_simp
            refine hK1 _ ?_
            clear hK1 K1
            refine wpPre_e rfl rfl (fun K1 hK1 => ?_)
            apply Exists.intro
            refine And.intro (fun wx hx => ?_) ?_
            · go_simp
              try rfl
            go_simp
            refine hK1 _ ?_
            clear hK1 K1
            refine wpPre_e rfl rfl (fun K1 hK1 => ?_)
            apply Exists.intro
            refine And.intro (fun wx hx => ?_) ?_
            · have e0 := below_fact hx rfl x0; have e1 := below_fact hx rfl d2; have e2 := below_fact hx rfl hc1; have e3 := below_fact hx rfl hc2
              go_simp
              try rfl
            go_simp
            refine hK1 _ ?_
            clear hK1 K1
            refine wpPre_e rfl rfl (fun K1 hK1 => ?_)
            apply Exists.intro
            refine And.intro (fun wx hx => ?_) ?_
            · go_simp
              try rfl
            go_simp
            refine hK1 _ ?_
            clear hK1 K1
            refine wpPre_e rfl rfl (fun K1 hK1 => ?_)
            apply Exists.intro
            refine And.intro (fun wx hx => ?_) ?_
            · go_simp
              try rfl
            go_simp
            refine hK1 _ ?_
            clear hK1 K1
            refine wpPre_e rfl rfl (fun K1 hK1 => ?_)
            apply Exists.intro
            refine And.intro (fun wx hx => ?_) ?_
            · go_simp
              try rfl
            go_simp
            refine hK1 _ ?_
            clear hK1 K1
            refine wpPre_e rfl rfl (fun K1 hK1 => ?_)
            apply Exists.intro
            refine And.intro (fun wx hx => ?_) ?_
            · have e0 := below_fact hx rfl x0; have e1 := below_fact hx rfl d2; have e2 := below_fact hx rfl hc1; have e3 := below_fact hx rfl hc2
              go_simp
              try rfl
            go_simp
            refine hK1 _ ?_
            clear hK1 K1
            refine wpPre_e rfl rfl (fun K1 hK1 => ?_)
            apply Exists.intro
            refine And.intro (fun wx hx => ?_) ?_
            · go_simp
              try rfl
            go_simp
            refine hK1 _ ?_
            clear hK1 K1
            refine wpPre_e rfl rfl (fun K1 hK1 => ?_)
            apply Exists.intro
            refine And.intro (fun wx hx => ?_) ?_
            · have e0 := below_fact hx rfl x0; have e1 := below_fact hx rfl d2; have e2 := below_fact hx rfl hc1; have e3 := below_fact hx rfl hc2
              go_simp
              try rfl
            go_simp
            refine hK1 _ ?_
            clear hK1 K1
            refine wpPre_e rfl rfl (fun K1 hK1 => ?_)
            apply Exists.intro
            refine And.intro (fun wx hx => ?_) ?_
            · go_simp
              try rfl
            go_simp
            refine hK1 _ ?_
            clear hK1 K1
            refine wpPre_e rfl rfl (fun K1 hK1 => ?_)
            apply Exists.intro
            refine And.intro (fun wx hx => ?_) ?_
            · go_simp
              try rfl
            go_simp
            refine hK1 _ ?_
            clear hK1 K1
            refine wpPre_e rfl rfl (fun K1 hK1 => ?_)
            apply Exists.intro
            refine And.intro (fun wx hx => ?_) ?_
            · go_simp
              try rfl
            go_simp
            refine hK1 _ ?_
            clear hK1 K1
            refine wpPre_e rfl rfl (fun K1 hK1 => ?_)
            apply Exists.intro
            refine And.intro (fun wx hx => ?_) ?_
            · have e0 := below_fact hx rfl x0; have e1 := below_fact hx rfl d2; have e2 := below_fact hx rfl hc1; have e3 := below_fact hx rfl hc2
              go_simp
              try rfl
            go_simp
            refine hK1 _ ?_
            clear hK1 K1
            refine wpPre_e rfl rfl (fun K1 hK1 => ?_)
            apply Exists.intro
            refine And.intro (fun wx hx => ?_) ?_
            · go_simp
              try rfl
            go_simp
            refine hK1 _ ?_
            clear hK1 K1
            refine wpPre_e rfl rfl (fun K1 hK1 => ?_)
            apply Exists.intro
            refine And.intro (fun wx hx => ?_) ?_
            · go_simp
              try rfl
            go_simp
            refine hK1 _ ?_
            clear hK1 K1
            refine wpPre_e rfl rfl (fun K1 hK1 => ?_)
            apply Exists.intro
            refine And.intro (fun wx hx => ?_) ?_
            · go_simp
              try rfl
            go_simp
            refine hK1 _ ?_
            clear hK1 K1
            refine wpPre_nil ?_
            have hal : Below wr.heap.size wr ((wr.alloc (.cells #[.int .i64 sz, .int .i64 (ck : Int)] 3)).drew) := ((Below.refl _ _).alloc (Nat.le_refl _) _).drew
            have H1 := hid (h1.kept hal)
            have HNw := hid (new_many wr [.int .i64 sz, .int .i64 (ck : Int)] 3)
            refine wpSeq_e rfl (fun K1 hK1 => ?_)
            go_simp
            refine hK1 _ _ (fun _ => hal) ?_
            clear hK1 K1 hal
            refine wpSeq_e rfl (fun K1 hK1 => ?_)
            refine step_app rfl (.tmp 52) (.tmp 66) 25 3 iI _ 1 8 HKI.out rfl (rb + 1) _ N1.length (intC N1) rfl H1.out.oN ⟨wr.heap.size, 0, none⟩ 2 2 [.int .i64 sz, .int .i64 (ck : Int)] rfl rfl HNw.out (one_ints [sz, (ck : Int)]) (by first | omega | (simp; done)) (by first | omega | (simp; done)) (by have := h1.box.lt; simp; omega) ?_
            intro v3 w3 ho3 hg3 hn3
            obtain ⟨p3, c3, rfl⟩ := ownsRow_slice ho3
            have hx3 := H1.out.boxN hg3
            have y1 := hx3.cell 0
            have g1 := hx3.frozen 0
            simp at y1
            clear hx3
            go_simp
            refine hK1 _ _ (fun h => by cases h) ?_
            clear hK1 K1
            refine wpSeq_e rfl (fun K1 hK1 => ?_)
            go_simp
            refine hK1 _ _ (fun h => by cases h) ?_
            clear hK1 K1
            refine wpSeq_nil ?_
            have HF := hid (H1.out.nums (M := [sz, (ck : Int)]) ho3 hg3 hn3)
            clear y1 g1 ho3 hg3 hn3 H1 h1 x0
            go_wp2
            go_roundw
            case rel => exact ⟨j + 1, by omega, by go_num, by rw [HN1.out]; exact ⟨_, _, _, HF.out⟩, HZ2.out⟩
            case measure => simp [intOf]; omega
          · have hd : decide (sz < 0 ∨ 65536 < sz) = true := by simp; omega
            rw [hd]
            clear hd
            have HR : Hid (chkMan m = 43) := by
              unfold Hid
              have e43 : chkSize (m.rows.item j) = 43 := by rw [hsz.out, if_neg hr2]
              rw [HCo.out, firstC_hit (g := fun j => chkSize (m.rows.item j)) HZ.out hlt (by rw [e43]; decide), e43]
            have HF : Hid (Below w.heap.size w wr) := HB2.out.trans (hbw.mono (by rw [HR2.out]; omega))
            clear hr2 hsz hbw h5
            go_wp2
            refine bodyPost_ret (v := .tuple #[.slice none 0 0, .int .i64 43]) (by simp [results, Try.results15, go_sem]) rfl ?_
            rw [HR.out]
            exact ⟨fun h => absurd h (by decide), fun _ => ⟨rfl, HF.out⟩⟩
        · obtain rfl : j = m.rows.n := by omega
          have hlt' : ¬ (m.rows.n : Int) < (m.rows.n : Int) := by omega
          have HK : Hid (chkMan m = 0) := HCo.out.trans HZ.out
          have hrr : ∀ j, j < m.rows.n → 0 ≤ (m.rows.item j).1 ∧ (m.rows.item j).1 ≤ 65536 ∧ (m.rows.item j).2 < 4294967296 := by
            intro j hj
            have h8 := firstC_all _ HZ.out j hj
            unfold chkSize at h8
            split at h8
            · rename_i h9; exact ⟨h9.1, h9.2, ((show ((-9223372036854775808 ≤ (m.rows.item j).1 ∧ (m.rows.item j).1 ≤ 9223372036854775807) ∧ (m.rows.item j).2 < 4294967296) from HIn2.out.each j hj)).2⟩
            · cases h8
          have hml : (manB m.to).length ≤ 1000 := by
            have h9 := files_len (l := m.to.rows) (fun j hj => ⟨by have := hrr j hj; simp [MI.to]; omega, (hrr j hj).2.2⟩) (by simp [MI.to]; omega)
            have := grpB_len 9 m.to.id (by simp [MI.to]; omega)
            unfold manB
            simp [wordB]
            omega
          have HW := hid (refWritten (S := S) HBj.out (by rw [HRB.out]; exact Nat.le_refl _) (fun x hx => by cases hx) HS2.out (by rw [List.length_append, manN_len]; simp; omega) (by simp) (by simp) 8 ⟨#[77, 105, 119, 91, 114, 122, 119, 93]⟩ (by decide) (manB m.to) ⟨[], [], []⟩ (by
            have h := wS_man m hr.1 hr.2 hsum (by omega) hrr
            simpa [txL] using h) (by omega))
          clear hrr hml HBj hbw h5
          go_wp2_with fail
          refine HW.out.mono ?_
          rintro x w7 ⟨v5, rfl, ho5, hb5⟩
          have hle : w.heap.size ≤ rb := by rw [HR2.out]; omega
          have HF := hid (And.intro (ho5.mono hle) (HB2.out.trans (hb5.mono hle)))
          clear ho5 hb5 HW
          go_wp2
          refine bodyPost_ret (v := .tuple #[v5, .int .i64 0]) (by simp [results, Try.results15, go_sem]) rfl ?_
          exact ⟨fun _ => ⟨_, rfl, HF.out⟩, fun h => absurd HK.out h⟩
  · have hd : decide (m.id < 0 ∨ 9999 < m.id) = true := by simp; omega
    rw [hd]
    clear hd
    have HCo : Hid (chkMan m = 43) := if_neg hr
    clear hr
    go_wp2
    refine bodyPost_ret (v := .tuple #[.slice none 0 0, .int .i64 43]) (by simp [results, Try.results15, go_sem]) rfl ?_
    rw [HCo.out]
    exact ⟨fun h => absurd h (by decide), fun _ => ⟨rfl, HA.out⟩⟩
end Go.Proofs.Ytikfpoabaaiegaa

namespace Go.Proofs.Ytikfpoabaaiegaa
open Go.RowKit
set_option maxRecDepth 8000

set_option maxHeartbeats 4000000 in
theorem putF_2 (t : HI) (w : World) (S : Nat → Prop) (hin : HI.In w S t) (hS : ∀ b, S b → b < w.heap.size) (hk : t.kind = 2) : Calls Try.prog 6 #[.agg t.cells] w fun x w' => PutR (chkState t.s) (stateB t.s) w x w' := by
  have ha : Below w.heap.size w (w.alloc (.cells t.cells 45)) := (Below.refl _ _).alloc (Nat.le_refl _) _
  have hbx := Box.new w t.cells 45
  have c0 := (hbx.cell 0).trans (show t.cells[0]? = some (.int .i64 t.kind) from rfl)
  have c7 := (hbx.cell 7).trans (show t.cells[7]? = some (.int .i64 t.s.num) from rfl)
  have c8 := (hbx.cell 8).trans (show t.cells[8]? = some (.slice t.s.p t.s.n t.s.c) from rfl)
  have k2 : (t.kind == 2) = true := by rw [hk]; rfl
  have HIn := hid (hin.below ha)
  have HS := hid (fun b (hb : S b) => show b < (w.alloc (.cells t.cells 45)).heap.size by have := hS b hb; have := ha.size; omega)
  have HC := hid (refPutSt t.s (w.alloc (.cells t.cells 45)) S HIn.out.s HS.out)
  have HA := hid ha
  unfold ST.val at HC
  clear hbx ha hS hin HIn HS hk
  obtain ⟨cT, hcT⟩ : ∃ cT, cT = t.cells := ⟨_, rfl⟩
  rw [← hcT] at HC HA ⊢
  rw [← hcT] at c0 c7 c8
  clear hcT
  obtain ⟨k, hkk⟩ : ∃ k, k = chkState t.s := ⟨_, rfl⟩
  obtain ⟨B, hBB⟩ : ∃ B, B = stateB t.s := ⟨_, rfl⟩
  rw [← hkk, ← hBB] at HC ⊢
  clear hkk hBB
  go_enter Try.func6, Try.ntmps6
  go_wp2_with fail
  refine HC.out.mono ?_
  rintro x w1 hp
  have HF : Hid (∃ v, x = .returned (.tuple #[v, .int .i64 (k : Int)]) ∧ Below w.heap.size w w1 ∧ (k = 0 → OwnBy w.heap.size w1 v B) ∧ (k ≠ 0 → v = .slice none 0 0)) := by
    by_cases h0 : k = 0
    · obtain ⟨v, e, ho, hb⟩ := hp.1 h0
      exact ⟨v, by rw [e, h0]; rfl, HA.out.trans (hb.mono HA.out.size), fun _ => ho.mono HA.out.size, fun h => absurd h0 h⟩
    · obtain ⟨e, hb⟩ := hp.2 h0
      exact ⟨_, e, HA.out.trans (hb.mono HA.out.size), fun h => absurd h h0, fun _ => rfl⟩
  obtain ⟨v, hx, hb1, ho1, hn1⟩ := HF.out
  subst hx
  have HG := hid (And.intro hb1 (And.intro ho1 hn1))
  clear hb1 ho1 hn1 hp HC HF
  go_wp2
  refine bodyPost_ret (v := .tuple #[v, .int .i64 (k : Int)]) (by simp [results, Try.results6, go_sem]) rfl ?_
  refine ⟨fun h0 => ⟨v, by rw [h0]; rfl, HG.out.2.1 h0, HG.out.1⟩, fun h0 => ⟨by rw [HG.out.2.2 h0], HG.out.1⟩⟩
set_option maxHeartbeats 4000000 in
theorem putF_3 (t : HI) (w : World) (S : Nat → Prop) (hin : HI.In w S t) (hS : ∀ b, S b → b < w.heap.size) (hk : t.kind = 3) : Calls Try.prog 6 #[.agg t.cells] w fun x w' => PutR (chkSeg t.g) (segB t.g.to) w x w' := by
  have ha : Below w.heap.size w (w.alloc (.cells t.cells 45)) := (Below.refl _ _).alloc (Nat.le_refl _) _
  have hbx := Box.new w t.cells 45
  have c0 := (hbx.cell 0).trans (show t.cells[0]? = some (.int .i64 t.kind) from rfl)
  have c9 := (hbx.cell 9).trans (show t.cells[9]? = some (.int .i64 t.g.id) from rfl)
  have c10 := (hbx.cell 10).trans (show t.cells[10]? = some (.int .i64 t.g.task) from rfl)
  have c11 := (hbx.cell 11).trans (show t.cells[11]? = some (.int .i64 t.g.base) from rfl)
  have c12 := (hbx.cell 12).trans (show t.cells[12]? = some (.int .u32 (t.g.sum : Int)) from rfl)
  have c13 := (hbx.cell 13).trans (show t.cells[13]? = some (.int .i64 t.g.st.num) from rfl)
  have c14 := (hbx.cell 14).trans (show t.cells[14]? = some (.slice t.g.st.p t.g.st.n t.g.st.c) from rfl)
  have c15 := (hbx.cell 15).trans (show t.cells[15]? = some (.int .i64 t.g.dnum) from rfl)
  have c16 := (hbx.cell 16).trans (show t.cells[16]? = some (.slice t.g.set.p t.g.set.n t.g.set.c) from rfl)
  have c17 := (hbx.cell 17).trans (show t.cells[17]? = some (.slice t.g.gone.p t.g.gone.n t.g.gone.c) from rfl)
  have c18 := (hbx.cell 18).trans (show t.cells[18]? = some (.slice t.g.logs.p t.g.logs.n t.g.logs.c) from rfl)
  have c19 := (hbx.cell 19).trans (show t.cells[19]? = some (.slice t.g.pend.p t.g.pend.n t.g.pend.c) from rfl)
  have k2 : (t.kind == 2) = false := by rw [hk]; rfl
  have k3 : (t.kind == 3) = true := by rw [hk]; rfl
  have HIn := hid (hin.below ha)
  have HS := hid (fun b (hb : S b) => show b < (w.alloc (.cells t.cells 45)).heap.size by have := hS b hb; have := ha.size; omega)
  have HC := hid (refPutSeg t.g (w.alloc (.cells t.cells 45)) S HIn.out.g HS.out)
  have HA := hid ha
  unfold GI.val at HC
  clear hbx ha hS hin HIn HS hk
  obtain ⟨cT, hcT⟩ : ∃ cT, cT = t.cells := ⟨_, rfl⟩
  rw [← hcT] at HC HA ⊢
  rw [← hcT] at c0 c9 c10 c11 c12 c13 c14 c15 c16 c17 c18 c19
  clear hcT
  obtain ⟨k, hkk⟩ : ∃ k, k = chkSeg t.g := ⟨_, rfl⟩
  obtain ⟨B, hBB⟩ : ∃ B, B = segB t.g.to := ⟨_, rfl⟩
  rw [← hkk, ← hBB] at HC ⊢
  clear hkk hBB
  go_enter Try.func6, Try.ntmps6
  go_wp2_with fail
  refine HC.out.mono ?_
  rintro x w1 hp
  have HF : Hid (∃ v, x = .returned (.tuple #[v, .int .i64 (k : Int)]) ∧ Below w.heap.size w w1 ∧ (k = 0 → OwnBy w.heap.size w1 v B) ∧ (k ≠ 0 → v = .slice none 0 0)) := by
    by_cases h0 : k = 0
    · obtain ⟨v, e, ho, hb⟩ := hp.1 h0
      exact ⟨v, by rw [e, h0]; rfl, HA.out.trans (hb.mono HA.out.size), fun _ => ho.mono HA.out.size, fun h => absurd h0 h⟩
    · obtain ⟨e, hb⟩ := hp.2 h0
      exact ⟨_, e, HA.out.trans (hb.mono HA.out.size), fun h => absurd h h0, fun _ => rfl⟩
  obtain ⟨v, hx, hb1, ho1, hn1⟩ := HF.out
  subst hx
  have HG := hid (And.intro hb1 (And.intro ho1 hn1))
  clear hb1 ho1 hn1 hp HC HF
  go_wp2
  refine bodyPost_ret (v := .tuple #[v, .int .i64 (k : Int)]) (by simp [results, Try.results6, go_sem]) rfl ?_
  refine ⟨fun h0 => ⟨v, by rw [h0]; rfl, HG.out.2.1 h0, HG.out.1⟩, fun h0 => ⟨by rw [HG.out.2.2 h0], HG.out.1⟩⟩
set_option maxHeartbeats 4000000 in
theorem putF_4 (t : HI) (w : World) (S : Nat → Prop) (hin : HI.In w S t) (hS : ∀ b, S b → b < w.heap.size) (hk : t.kind = 4) : Calls Try.prog 6 #[.agg t.cells] w fun x w' => PutR (chkMan t.m) (manB t.m.to) w x w' := by
  have ha : Below w.heap.size w (w.alloc (.cells t.cells 45)) := (Below.refl _ _).alloc (Nat.le_refl _) _
  have hbx := Box.new w t.cells 45
  have c0 := (hbx.cell 0).trans (show t.cells[0]? = some (.int .i64 t.kind) from rfl)
  have c20 := (hbx.cell 20).trans (show t.cells[20]? = some (.int .i64 t.m.id) from rfl)
  have c21 := (hbx.cell 21).trans (show t.cells[21]? = some (.int .u32 (t.m.sum : Int)) from rfl)
  have c22 := (hbx.cell 22).trans (show t.cells[22]? = some (.slice t.m.rows.p t.m.rows.n t.m.rows.c) from rfl)
  have k2 : (t.kind == 2) = false := by rw [hk]; rfl
  have k3 : (t.kind == 3) = false := by rw [hk]; rfl
  have k4 : (t.kind == 4) = true := by rw [hk]; rfl
  have HIn := hid (hin.below ha)
  have HS := hid (fun b (hb : S b) => show b < (w.alloc (.cells t.cells 45)).heap.size by have := hS b hb; have := ha.size; omega)
  have HC := hid (refPutMan t.m (w.alloc (.cells t.cells 45)) S HIn.out.m HIn.out.msum HS.out)
  have HA := hid ha
  unfold MI.val at HC
  clear hbx ha hS hin HIn HS hk
  obtain ⟨cT, hcT⟩ : ∃ cT, cT = t.cells := ⟨_, rfl⟩
  rw [← hcT] at HC HA ⊢
  rw [← hcT] at c0 c20 c21 c22
  clear hcT
  obtain ⟨k, hkk⟩ : ∃ k, k = chkMan t.m := ⟨_, rfl⟩
  obtain ⟨B, hBB⟩ : ∃ B, B = manB t.m.to := ⟨_, rfl⟩
  rw [← hkk, ← hBB] at HC ⊢
  clear hkk hBB
  go_enter Try.func6, Try.ntmps6
  go_wp2_with fail
  refine HC.out.mono ?_
  rintro x w1 hp
  have HF : Hid (∃ v, x = .returned (.tuple #[v, .int .i64 (k : Int)]) ∧ Below w.heap.size w w1 ∧ (k = 0 → OwnBy w.heap.size w1 v B) ∧ (k ≠ 0 → v = .slice none 0 0)) := by
    by_cases h0 : k = 0
    · obtain ⟨v, e, ho, hb⟩ := hp.1 h0
      exact ⟨v, by rw [e, h0]; rfl, HA.out.trans (hb.mono HA.out.size), fun _ => ho.mono HA.out.size, fun h => absurd h0 h⟩
    · obtain ⟨e, hb⟩ := hp.2 h0
      exact ⟨_, e, HA.out.trans (hb.mono HA.out.size), fun h => absurd h h0, fun _ => rfl⟩
  obtain ⟨v, hx, hb1, ho1, hn1⟩ := HF.out
  subst hx
  have HG := hid (And.intro hb1 (And.intro ho1 hn1))
  clear hb1 ho1 hn1 hp HC HF
  go_wp2
  refine bodyPost_ret (v := .tuple #[v, .int .i64 (k : Int)]) (by simp [results, Try.results6, go_sem]) rfl ?_
  refine ⟨fun h0 => ⟨v, by rw [h0]; rfl, HG.out.2.1 h0, HG.out.1⟩, fun h0 => ⟨by rw [HG.out.2.2 h0], HG.out.1⟩⟩
set_option maxHeartbeats 4000000 in
theorem putF_5 (t : HI) (w : World) (S : Nat → Prop) (hin : HI.In w S t) (hS : ∀ b, S b → b < w.heap.size) (hk : t.kind = 5) : Calls Try.prog 6 #[.agg t.cells] w fun x w' => PutR (chkOut t.o) (outB t.o.to) w x w' := by
  have ha : Below w.heap.size w (w.alloc (.cells t.cells 45)) := (Below.refl _ _).alloc (Nat.le_refl _) _
  have hbx := Box.new w t.cells 45
  have c0 := (hbx.cell 0).trans (show t.cells[0]? = some (.int .i64 t.kind) from rfl)
  have c23 := (hbx.cell 23).trans (show t.cells[23]? = some (.int .i64 t.o.num) from rfl)
  have c24 := (hbx.cell 24).trans (show t.cells[24]? = some (.string t.o.rec_.key) from rfl)
  have c25 := (hbx.cell 25).trans (show t.cells[25]? = some (.int .i64 t.o.rec_.v.kind) from rfl)
  have c26 := (hbx.cell 26).trans (show t.cells[26]? = some (.int .i64 t.o.rec_.v.int) from rfl)
  have c27 := (hbx.cell 27).trans (show t.cells[27]? = some (.string t.o.rec_.v.text) from rfl)
  have c28 := (hbx.cell 28).trans (show t.cells[28]? = some (.slice t.o.rec_.v.p t.o.rec_.v.n t.o.rec_.v.c) from rfl)
  have c29 := (hbx.cell 29).trans (show t.cells[29]? = some (.slice t.o.rec_.p t.o.rec_.n t.o.rec_.c) from rfl)
  have k2 : (t.kind == 2) = false := by rw [hk]; rfl
  have k3 : (t.kind == 3) = false := by rw [hk]; rfl
  have k4 : (t.kind == 4) = false := by rw [hk]; rfl
  have k5 : (t.kind == 5) = true := by rw [hk]; rfl
  have HIn := hid (hin.below ha)
  have HS := hid (fun b (hb : S b) => show b < (w.alloc (.cells t.cells 45)).heap.size by have := hS b hb; have := ha.size; omega)
  have HC := hid (refPutRow t.o (w.alloc (.cells t.cells 45)) S HIn.out.o HS.out)
  have HA := hid ha
  unfold OI.val at HC
  clear hbx ha hS hin HIn HS hk
  obtain ⟨cT, hcT⟩ : ∃ cT, cT = t.cells := ⟨_, rfl⟩
  rw [← hcT] at HC HA ⊢
  rw [← hcT] at c0 c23 c24 c25 c26 c27 c28 c29
  clear hcT
  obtain ⟨k, hkk⟩ : ∃ k, k = chkOut t.o := ⟨_, rfl⟩
  obtain ⟨B, hBB⟩ : ∃ B, B = outB t.o.to := ⟨_, rfl⟩
  rw [← hkk, ← hBB] at HC ⊢
  clear hkk hBB
  go_enter Try.func6, Try.ntmps6
  go_wp2_with fail
  refine HC.out.mono ?_
  rintro x w1 hp
  have HF : Hid (∃ v, x = .returned (.tuple #[v, .int .i64 (k : Int)]) ∧ Below w.heap.size w w1 ∧ (k = 0 → OwnBy w.heap.size w1 v B) ∧ (k ≠ 0 → v = .slice none 0 0)) := by
    by_cases h0 : k = 0
    · obtain ⟨v, e, ho, hb⟩ := hp.1 h0
      exact ⟨v, by rw [e, h0]; rfl, HA.out.trans (hb.mono HA.out.size), fun _ => ho.mono HA.out.size, fun h => absurd h0 h⟩
    · obtain ⟨e, hb⟩ := hp.2 h0
      exact ⟨_, e, HA.out.trans (hb.mono HA.out.size), fun h => absurd h h0, fun _ => rfl⟩
  obtain ⟨v, hx, hb1, ho1, hn1⟩ := HF.out
  subst hx
  have HG := hid (And.intro hb1 (And.intro ho1 hn1))
  clear hb1 ho1 hn1 hp HC HF
  go_wp2
  refine bodyPost_ret (v := .tuple #[v, .int .i64 (k : Int)]) (by simp [results, Try.results6, go_sem]) rfl ?_
  refine ⟨fun h0 => ⟨v, by rw [h0]; rfl, HG.out.2.1 h0, HG.out.1⟩, fun h0 => ⟨by rw [HG.out.2.2 h0], HG.out.1⟩⟩
set_option maxHeartbeats 4000000 in
theorem putF_1 (t : HI) (w : World) (S : Nat → Prop) (hin : HI.In w S t) (hS : ∀ b, S b → b < w.heap.size) (h2 : t.kind ≠ 2) (h3 : t.kind ≠ 3) (h4 : t.kind ≠ 4) (h5 : t.kind ≠ 5) : Calls Try.prog 6 #[.agg t.cells] w fun x w' => PutR (chkRec t.r) (recB t.r) w x w' := by
  have ha : Below w.heap.size w (w.alloc (.cells t.cells 45)) := (Below.refl _ _).alloc (Nat.le_refl _) _
  have hbx := Box.new w t.cells 45
  have c0 := (hbx.cell 0).trans (show t.cells[0]? = some (.int .i64 t.kind) from rfl)
  have c1 := (hbx.cell 1).trans (show t.cells[1]? = some (.string t.r.key) from rfl)
  have c2 := (hbx.cell 2).trans (show t.cells[2]? = some (.int .i64 t.r.v.kind) from rfl)
  have c3 := (hbx.cell 3).trans (show t.cells[3]? = some (.int .i64 t.r.v.int) from rfl)
  have c4 := (hbx.cell 4).trans (show t.cells[4]? = some (.string t.r.v.text) from rfl)
  have c5 := (hbx.cell 5).trans (show t.cells[5]? = some (.slice t.r.v.p t.r.v.n t.r.v.c) from rfl)
  have c6 := (hbx.cell 6).trans (show t.cells[6]? = some (.slice t.r.p t.r.n t.r.c) from rfl)
  have k2 : (t.kind == 2) = false := by simpa using h2
  have k3 : (t.kind == 3) = false := by simpa using h3
  have k4 : (t.kind == 4) = false := by simpa using h4
  have k5 : (t.kind == 5) = false := by simpa using h5
  have HIn := hid (hin.below ha)
  have HS := hid (fun b (hb : S b) => show b < (w.alloc (.cells t.cells 45)).heap.size by have := hS b hb; have := ha.size; omega)
  have HC := hid (refPutRec t.r (w.alloc (.cells t.cells 45)) S HIn.out.r HS.out)
  have HA := hid ha
  unfold RT.val at HC
  clear hbx ha hS hin HIn HS h2 h3 h4 h5
  obtain ⟨cT, hcT⟩ : ∃ cT, cT = t.cells := ⟨_, rfl⟩
  rw [← hcT] at HC HA ⊢
  rw [← hcT] at c0 c1 c2 c3 c4 c5 c6
  clear hcT
  obtain ⟨k, hkk⟩ : ∃ k, k = chkRec t.r := ⟨_, rfl⟩
  obtain ⟨B, hBB⟩ : ∃ B, B = recB t.r := ⟨_, rfl⟩
  rw [← hkk, ← hBB] at HC ⊢
  clear hkk hBB
  go_enter Try.func6, Try.ntmps6
  go_wp2_with fail
  refine HC.out.mono ?_
  rintro x w1 hp
  have HF : Hid (∃ v, x = .returned (.tuple #[v, .int .i64 (k : Int)]) ∧ Below w.heap.size w w1 ∧ (k = 0 → OwnBy w.heap.size w1 v B) ∧ (k ≠ 0 → v = .slice none 0 0)) := by
    by_cases h0 : k = 0
    · obtain ⟨v, e, ho, hb⟩ := hp.1 h0
      exact ⟨v, by rw [e, h0]; rfl, HA.out.trans (hb.mono HA.out.size), fun _ => ho.mono HA.out.size, fun h => absurd h0 h⟩
    · obtain ⟨e, hb⟩ := hp.2 h0
      exact ⟨_, e, HA.out.trans (hb.mono HA.out.size), fun h => absurd h h0, fun _ => rfl⟩
  obtain ⟨v, hx, hb1, ho1, hn1⟩ := HF.out
  subst hx
  have HG := hid (And.intro hb1 (And.intro ho1 hn1))
  clear hb1 ho1 hn1 hp HC HF
  go_wp2
  refine bodyPost_ret (v := .tuple #[v, .int .i64 (k : Int)]) (by simp [results, Try.results6, go_sem]) rfl ?_
  refine ⟨fun h0 => ⟨v, by rw [h0]; rfl, HG.out.2.1 h0, HG.out.1⟩, fun h0 => ⟨by rw [HG.out.2.2 h0], HG.out.1⟩⟩
end Go.Proofs.Ytikfpoabaaiegaa
