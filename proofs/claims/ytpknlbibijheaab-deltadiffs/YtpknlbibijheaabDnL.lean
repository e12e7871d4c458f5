import Derived.Test.YtpknlbibijheaabPack19
import Derived.Test.YtpknlbibijheaabPack33
import Derived.Test.YtpknlbibijheaabPack38
namespace Go.Proofs.Ytpknlbibijheaab
open Go.RowKit
set_option maxRecDepth 8000
/-- two cells are the same, value by value by the order -/
def SmC (c u : VT) : Prop := u.text = c.text ∧ u.n = c.n ∧ ∀ j, j < c.n → eq0 (c.item j) (u.item j) = true
theorem rcmp_any (t u : VT) (w : World) (S R : Nat → Prop) (ht : VT.In w S t) (hu : VT.In w R u) :
    Calls Try.prog 42 #[.agg #[.int .i64 t.kind, .int .i64 t.int, .string t.text, .slice t.p t.n t.c], .agg #[.int .i64 u.kind, .int .i64 u.int, .string u.text, .slice u.p u.n u.c]] w fun e w' => ∃ z : Int, e = .returned (.int .i64 z) ∧ (z = 0 ↔ eq0 t u = true) ∧ Below w.heap.size w w' := by
  refine (refCompare_any t u w S R ht hu).mono ?_
  rintro e w' ⟨rfl, hb⟩
  refine ⟨_, rfl, ?_, hb⟩
  rw [order_rank (clean_val ht) (clean_val hu)]
  unfold eq0
  simp
set_option maxHeartbeats 4000000 in
theorem rsame_any (c u : VT) (w : World) (S R : Nat → Prop) (hc : VT.In w S c) (hu : VT.In w R u) :
    Calls Try.prog 23 #[.agg #[.string c.text, .slice c.p c.n c.c], .agg #[.string u.text, .slice u.p u.n u.c]] w fun e w' => YesNo (SmC c u) e w w' := by
  have hnn := hc.fit.nn
  have hun := hu.fit.nn
  by_cases h3 : c.text = u.text
  case neg =>
    have HN := hid (fun h : SmC c u => h3 h.1.symm)
    have h3b := str_ne h3
    clear hc hu
    go_enter Try.func23, Try.ntmps23
    go_wp2
    go_ret
    exact yn_no HN.out (((Below.refl _ _).alloc (Nat.le_refl _) _).alloc (by simp) _)
  by_cases h4 : c.n = u.n
  case neg =>
    have HN := hid (fun h : SmC c u => h4 h.2.1.symm)
    have h4b := int_ne h4
    rw [← h3]
    clear hc hu h3
    go_enter Try.func23, Try.ntmps23
    go_wp2
    go_ret
    exact yn_no HN.out (((Below.refl _ _).alloc (Nat.le_refl _) _).alloc (by simp) _)
  rw [← h3, ← h4]
  have H := hid hc
  have H' := hid hu
  have HN := hid (And.intro h3 h4)
  have HT := hid (TwoK.start w #[.string c.text, .slice c.p c.n c.c] #[.string c.text, .slice u.p c.n u.c] 45)
  clear hc hu h3 h4
  go_enter Try.func23, Try.ntmps23
  go_wp2_with fail
  go_loopw [5] (fun x wr => ∃ k : Nat, k ≤ c.n ∧ x = .int .i64 (k : Int) ∧ (∀ q, q < k → eq0 (c.item q) (u.item q) = true) ∧ TwoK w wr #[.string c.text, .slice c.p c.n c.c] #[.string c.text, .slice u.p c.n u.c] 45) (fun x _ => c.n - (intOf x).toNat)
  case atStart => exact ⟨0, Nat.zero_le _, rfl, fun q hq => absurd hq (by omega), HT.out⟩
  case round =>
    obtain ⟨k, hk, rfl, hal, hT1⟩ := hrel
    have HAl := hid hal
    have HT1 := hid hT1
    have x1 := hT1.ba.cell 1
    have y1 := hT1.bb.cell 1
    have xl := hT1.ba.lt
    have yl := hT1.bb.lt
    simp at x1 y1
    clear hT1 HT hal
    by_cases hlt : k < c.n
    · have hlt' : (k : Int) < (c.n : Int) := by omega
      have hlu : k < u.n := by have := HN.out.2; omega
      obtain ⟨b1, o1, hp, _, hl1, ha⟩ := H.out.at_ (show 0 < c.n by omega)
      obtain ⟨b2, o2, hp', _, hl2, ha'⟩ := H'.out.at_ (show 0 < u.n by omega)
      obtain ⟨a0, a1, a2, a3⟩ := (ha k hlt).kept (HT1.out.bel.block b1 hl1)
      obtain ⟨g0, g1, g2, g3⟩ := (ha' k hlu).kept (HT1.out.bel.block b2 hl2)
      have hl1r : b1 < wr.heap.size := by have := HT1.out.bel.size; omega
      have hl2r : b2 < wr.heap.size := by have := HT1.out.bel.size; omega
      have HV : Hid (∀ W, Below wr.heap.size wr W → Calls Try.prog 42 #[.agg #[.int .i64 (c.item k).kind, .int .i64 (c.item k).int, .string (c.item k).text, .slice (c.item k).p (c.item k).n (c.item k).c], .agg #[.int .i64 (u.item k).kind, .int .i64 (u.item k).int, .string (u.item k).text, .slice (u.item k).p (u.item k).n (u.item k).c]] W fun e w' => ∃ z : Int, e = .returned (.int .i64 z) ∧ (z = 0 ↔ eq0 (c.item k) (u.item k) = true) ∧ Below W.heap.size W w') := fun W hW => rcmp_any (c.item k) (u.item k) W S R (((H.out.sub hlt).kept HT1.out.bel.size (fun b _ hl => HT1.out.bel.block b hl)).below hW) (((H'.out.sub hlu).kept HT1.out.bel.size (fun b _ hl => HT1.out.bel.block b hl)).below hW)
      rw [hp] at x1
      rw [hp'] at y1
      clear ha ha' hp hp'
      go_wp2_with fail
      refine wp_region_calmE 30 (fun wx => Below wr.heap.size wr wx) [(0, true), (1, false), (2, true), (3, true), (4, false), (5, true), (6, false), (7, true), (8, true), (9, false)] (.one 10 false [(11, true)] .done) (by kernel_rfl) (by kernel_rfl) (Below.refl _ _).drew ?_
      refine wpPre_e rfl rfl (fun K1 hK1 => ?_)
      apply Exists.intro
      refine And.intro (fun wx hx => ?_) ?_
      · go_simp
        try rfl
      go_simp
      refine hK1 _ ?_
      clear hK1 K1
      refine wpPre_e rfl rfl (fun K1 hK1 => ?_)
      apply Exists.intro
      refine And.intro (fun wx hx => ?_) ?_
      · have e0 := below_fact hx rfl x1
        have e1 := below_fact hx rfl y1
        have e2 := below_fact hx rfl a0
        have e3 := below_fact hx rfl a1
        have e4 := below_fact hx rfl a2
        have e5 := below_fact hx rfl a3
        have e6 := below_fact hx rfl g0
        have e7 := below_fact hx rfl g1
        have e8 := below_fact hx rfl g2
        have e9 := below_fact hx rfl g3
        go_simp
        try rfl
      go_simp
      refine hK1 _ ?_
      clear hK1 K1
      refine wpPre_e rfl rfl (fun K1 hK1 => ?_)
      apply Exists.intro
      refine And.intro (fun wx hx => ?_) ?_
      · go_simp
        try rfl
      go_simp
      refine hK1 _ ?_
      clear hK1 K1
      refine wpPre_e rfl rfl (fun K1 hK1 => ?_)
      apply Exists.intro
      refine And.intro (fun wx hx => ?_) ?_
      · go_simp
        try rfl
      go_simp
      refine hK1 _ ?_
      clear hK1 K1
      refine wpPre_e rfl rfl (fun K1 hK1 => ?_)
      apply Exists.intro
      refine And.intro (fun wx hx => ?_) ?_
      · have e0 := below_fact hx rfl x1
        have e1 := below_fact hx rfl y1
        have e2 := below_fact hx rfl a0
        have e3 := below_fact hx rfl a1
        have e4 := below_fact hx rfl a2
        have e5 := below_fact hx rfl a3
        have e6 := below_fact hx rfl g0
        have e7 := below_fact hx rfl g1
        have e8 := below_fact hx rfl g2
        have e9 := below_fact hx rfl g3
        go_simp
        try rfl
      go_simp
      refine hK1 _ ?_
      clear hK1 K1
      refine wpPre_e rfl rfl (fun K1 hK1 => ?_)
      apply Exists.intro
      refine And.intro (fun wx hx => ?_) ?_
      · go_simp
        try rfl
      go_simp
      refine hK1 _ ?_
      clear hK1 K1
      refine wpPre_e rfl rfl (fun K1 hK1 => ?_)
      apply Exists.intro
      refine And.intro (fun wx hx => ?_) ?_
      · have e0 := below_fact hx rfl x1
        have e1 := below_fact hx rfl y1
        have e2 := below_fact hx rfl a0
        have e3 := below_fact hx rfl a1
        have e4 := below_fact hx rfl a2
        have e5 := below_fact hx rfl a3
        have e6 := below_fact hx rfl g0
        have e7 := below_fact hx rfl g1
        have e8 := below_fact hx rfl g2
        have e9 := below_fact hx rfl g3
        go_simp
        try rfl
      go_simp
      refine hK1 _ ?_
      clear hK1 K1
      refine wpPre_e rfl rfl (fun K1 hK1 => ?_)
      apply Exists.intro
      refine And.intro (fun wx hx => ?_) ?_
      · go_simp
        try rfl
      go_simp
      refine hK1 _ ?_
      clear hK1 K1
      refine wpPre_e rfl rfl (fun K1 hK1 => ?_)
      apply Exists.intro
      refine And.intro (fun wx hx => ?_) ?_
      · go_simp
        try rfl
      go_simp
      refine hK1 _ ?_
      clear hK1 K1
      refine wpPre_e rfl rfl (fun K1 hK1 => ?_)
      apply Exists.intro
      refine And.intro (fun wx hx => ?_) ?_
      · have e0 := below_fact hx rfl x1
        have e1 := below_fact hx rfl y1
        have e2 := below_fact hx rfl a0
        have e3 := below_fact hx rfl a1
        have e4 := below_fact hx rfl a2
        have e5 := below_fact hx rfl a3
        have e6 := below_fact hx rfl g0
        have e7 := below_fact hx rfl g1
        have e8 := below_fact hx rfl g2
        have e9 := below_fact hx rfl g3
        go_simp
        try rfl
      go_simp
      refine hK1 _ ?_
      clear hK1 K1
      refine wpPre_nil ?_
      refine wpTr_e rfl (fun K1 hK1 => ?_)
      refine step_call rfl 42 #[.tmp 31, .tmp 36] _ rfl Try.f42 Try.func42 (by kernel_rfl) rfl #[.agg #[.int .i64 (c.item k).kind, .int .i64 (c.item k).int, .string (c.item k).text, .slice (c.item k).p (c.item k).n (c.item k).c], .agg #[.int .i64 (u.item k).kind, .int .i64 (u.item k).int, .string (u.item k).text, .slice (u.item k).p (u.item k).n (u.item k).c]] rfl _ (HV.out _ (Below.refl _ _).drew) (fun e w4 h4 => ?_)
      obtain ⟨r4, rfl, hr4, hb4⟩ := h4
      refine ⟨_, rfl, ?_⟩
      have HB4 : Hid (Below wr.heap.size wr w4) := (Below.refl wr.heap.size wr).drew.trans hb4
      have HR4 := hid hr4
      clear hb4 hr4
      go_simp
      refine hK1 _ _ (fun h => by cases h) ?_
      clear hK1 K1
      refine wpPre_e rfl rfl (fun K1 hK1 => ?_)
      apply Exists.intro
      refine And.intro (fun wx hx => ?_) ?_
      · go_simp
        try rfl
      go_simp
      refine hK1 _ ?_
      clear hK1 K1
      refine wpPre_nil ?_
      refine wpTr_done ?_
      by_cases hz : r4 = 0
      · have HZ0 := hid hz
        have hz' : (r4 != 0) = false := by simp [hz]
        clear hz
        go_wp2
        go_roundw
        case rel =>
          refine ⟨k + 1, by omega, by go_num, fun q hq => ?_, HT1.out.below HB4.out⟩
          by_cases hqk : q < k
          · exact HAl.out q hqk
          · obtain rfl : q = k := by omega
            exact HR4.out.1 HZ0.out
        case measure => simp [intOf]; omega
      · have HNo : Hid (¬ SmC c u) := fun h => hz (HR4.out.2 (h.2.2 k hlt))
        have hz' : (r4 != 0) = true := by simp [hz]
        clear hz
        go_wp2
        exact bodyPost_ret (v := .bool false) (by simp [results, Try.results23, go_sem]) rfl (yn_no HNo.out (HT1.out.below HB4.out).bel)
    · obtain rfl : k = c.n := by omega
      have HY : Hid (SmC c u) := ⟨HN.out.1.symm, HN.out.2.symm, HAl.out⟩
      go_wp2
      exact bodyPost_ret (v := .bool true) (by simp [results, Try.results23, go_sem]) rfl (yn_yes HY.out HT1.out.bel)
end Go.Proofs.Ytpknlbibijheaab
