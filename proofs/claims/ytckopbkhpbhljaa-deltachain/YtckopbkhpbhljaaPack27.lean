import Derived.Test.YtckopbkhpbhljaaPack16
import Derived.Test.YtckopbkhpbhljaaKsA
import Derived.Test.YtckopbkhpbhljaaPack8
import Derived.Test.YtckopbkhpbhljaaPack12
import Derived.Deep.DeepCutAuto
namespace Go.Proofs.Ytckopbkhpbhljaa
open Go.RowKit
set_option maxRecDepth 8000

/-- two cells are the same: key and values -/
def CAlk (c u : VT) : Prop := u.text = c.text ∧ u.n = c.n ∧ ∀ j, j < c.n → VT.Alike (c.item j) (u.item j)
theorem VT.Alike.cell {c u : VT} (h : VT.Alike c u) : CAlk c u := ⟨h.text, h.n, fun _ hj => h.item hj⟩
/-- two lists of cells are the same -/
def LsAlk (l u : LT VT) : Prop := u.n = l.n ∧ ∀ j, j < l.n → CAlk (l.item j) (u.item j)
set_option maxHeartbeats 4000000 in
theorem yCell (c u : VT) (w : World) (S R : Nat → Prop) (hc : VT.In w S c) (hu : VT.In w R u) :
    Calls Try.prog 73 #[.agg #[.string c.text, .slice c.p c.n c.c], .agg #[.string u.text, .slice u.p u.n u.c]] w fun e w' => YesNo (CAlk c u) e w w' := by
  have hnn := hc.fit.nn
  have hun := hu.fit.nn
  by_cases h3 : c.text = u.text
  case neg =>
    have HN := hid (fun h : CAlk c u => h3 h.1.symm)
    have h3b := str_ne h3
    clear hc hu
    go_enter Try.func73, Try.ntmps73
    go_wp2
    go_ret
    exact yn_no HN.out (((Below.refl _ _).alloc (Nat.le_refl _) _).alloc (by simp) _)
  by_cases h4 : c.n = u.n
  case neg =>
    have HN := hid (fun h : CAlk c u => h4 h.2.1.symm)
    have h4b := int_ne h4
    rw [← h3]
    clear hc hu h3
    go_enter Try.func73, Try.ntmps73
    go_wp2
    go_ret
    exact yn_no HN.out (((Below.refl _ _).alloc (Nat.le_refl _) _).alloc (by simp) _)
  rw [← h3, ← h4]
  have H := hid hc
  have H' := hid hu
  have HN := hid (And.intro h3 h4)
  have HT := hid (TwoK.start w #[.string c.text, .slice c.p c.n c.c] #[.string c.text, .slice u.p c.n u.c] 62)
  clear hc hu h3 h4
  go_enter Try.func73, Try.ntmps73
  go_wp2_with fail
  go_loopw [5] (fun x wr => ∃ k : Nat, k ≤ c.n ∧ x = .int .i64 (k : Int) ∧ (∀ q, q < k → VT.Alike (c.item q) (u.item q)) ∧ TwoK w wr #[.string c.text, .slice c.p c.n c.c] #[.string c.text, .slice u.p c.n u.c] 62) (fun x _ => c.n - (intOf x).toNat)
  case atStart => exact ⟨0, Nat.zero_le _, rfl, fun q hq => absurd hq (by omega), HT.out⟩
  case round =>
    obtain ⟨k, hk, rfl, hal, hT1⟩ := hrel
    have HAl := hid hal
    have HT1 := hid hT1
    have x1 := hT1.ba.cell 1
    have y1 := hT1.bb.cell 1
    have xl := hT1.ba.lt
    have yl := hT1.bb.lt
    simp at x1 y1
    clear hT1 HT hal
    by_cases hlt : k < c.n
    · have hlt' : (k : Int) < (c.n : Int) := by omega
      have hlu : k < u.n := by have := HN.out.2; omega
      obtain ⟨b1, o1, hp, _, hl1, ha⟩ := H.out.at_ (show 0 < c.n by omega)
      obtain ⟨b2, o2, hp', _, hl2, ha'⟩ := H'.out.at_ (show 0 < u.n by omega)
      obtain ⟨a0, a1, a2, a3⟩ := (ha k hlt).kept (HT1.out.bel.block b1 hl1)
      obtain ⟨g0, g1, g2, g3⟩ := (ha' k hlu).kept (HT1.out.bel.block b2 hl2)
      have hl1r : b1 < wr.heap.size := by have := HT1.out.bel.size; omega
      have hl2r : b2 < wr.heap.size := by have := HT1.out.bel.size; omega
      have HV : Hid (∀ W, Below wr.heap.size wr W → Calls Try.prog 89 #[.agg #[.int .i64 (c.item k).kind, .int .i64 (c.item k).int, .string (c.item k).text, .slice (c.item k).p (c.item k).n (c.item k).c], .agg #[.int .i64 (u.item k).kind, .int .i64 (u.item k).int, .string (u.item k).text, .slice (u.item k).p (u.item k).n (u.item k).c]] W fun e w' => YesNo (VT.Alike (c.item k) (u.item k)) e W w') := fun W hW => yValue (c.item k) (u.item k) W S R (((H.out.sub hlt).kept HT1.out.bel.size (fun b _ hl => HT1.out.bel.block b hl)).below hW) (((H'.out.sub hlu).kept HT1.out.bel.size (fun b _ hl => HT1.out.bel.block b hl)).below hW)
      rw [hp] at x1
      rw [hp'] at y1
      clear ha ha' hp hp'
      go_wp2_with fail
      refine wp_region_calmE 30 (fun wx => Below wr.heap.size wr wx) [(0, true), (1, false), (2, true), (3, true), (4, false), (5, true), (6, false), (7, true), (8, true), (9, false)] (.one 10 false [(11, true)] .done) (by kernel_rfl) (by kernel_rfl) (Below.refl _ _).drew ?_
      refine wpPre_e rfl rfl (fun K1 hK1 => ?_)
      apply Exists.intro
      refine And.intro (fun wx hx => ?_) ?_
      · go_simp
        try rfl
      go_simp
      refine hK1 _ ?_
      clear hK1 K1
      refine wpPre_e rfl rfl (fun K1 hK1 => ?_)
      apply Exists.intro
      refine And.intro (fun wx hx => ?_) ?_
      · have e0 := below_fact hx rfl x1
        have e1 := below_fact hx rfl y1
        have e2 := below_fact hx rfl a0
        have e3 := below_fact hx rfl a1
        have e4 := below_fact hx rfl a2
        have e5 := below_fact hx rfl a3
        have e6 := below_fact hx rfl g0
        have e7 := below_fact hx rfl g1
        have e8 := below_fact hx rfl g2
        have e9 := below_fact hx rfl g3
        go_simp
        try rfl
      go_simp
      refine hK1 _ ?_
      clear hK1 K1
      refine wpPre_e rfl rfl (fun K1 hK1 => ?_)
      apply Exists.intro
      refine And.intro (fun wx hx => ?_) ?_
      · go_simp
        try rfl
      go_simp
      refine hK1 _ ?_
      clear hK1 K1
      refine wpPre_e rfl rfl (fun K1 hK1 => ?_)
      apply Exists.intro
      refine And.intro (fun wx hx => ?_) ?_
      · go_simp
        try rfl
      go_simp
      refine hK1 _ ?_
      clear hK1 K1
      refine wpPre_e rfl rfl (fun K1 hK1 => ?_)
      apply Exists.intro
      refine And.intro (fun wx hx => ?_) ?_
      · have e0 := below_fact hx rfl x1
        have e1 := below_fact hx rfl y1
        have e2 := below_fact hx rfl a0
        have e3 := below_fact hx rfl a1
        have e4 := below_fact hx rfl a2
        have e5 := below_fact hx rfl a3
        have e6 := below_fact hx rfl g0
        have e7 := below_fact hx rfl g1
        have e8 := below_fact hx rfl g2
        have e9 := below_fact hx rfl g3
        go_simp
        try rfl
      go_simp
      refine hK1 _ ?_
      clear hK1 K1
      refine wpPre_e rfl rfl (fun K1 hK1 => ?_)
      apply Exists.intro
      refine And.intro (fun wx hx => ?_) ?_
      · go_simp
        try rfl
      go_simp
      refine hK1 _ ?_
      clear hK1 K1
      refine wpPre_e rfl rfl (fun K1 hK1 => ?_)
      apply Exists.intro
      refine And.intro (fun wx hx => ?_) ?_
      · have e0 := below_fact hx rfl x1
        have e1 := below_fact hx rfl y1
        have e2 := below_fact hx rfl a0
        have e3 := below_fact hx rfl a1
        have e4 := below_fact hx rfl a2
        have e5 := below_fact hx rfl a3
        have e6 := below_fact hx rfl g0
        have e7 := below_fact hx rfl g1
        have e8 := below_fact hx rfl g2
        have e9 := below_fact hx rfl g3
        go_simp
        try rfl
      go_simp
      refine hK1 _ ?_
      clear hK1 K1
      refine wpPre_e rfl rfl (fun K1 hK1 => ?_)
      apply Exists.intro
      refine And.intro (fun wx hx => ?_) ?_
      · go_simp
        try rfl
      go_simp
      refine hK1 _ ?_
      clear hK1 K1
      refine wpPre_e rfl rfl (fun K1 hK1 => ?_)
      apply Exists.intro
      refine And.intro (fun wx hx => ?_) ?_
      · go_simp
        try rfl
      go_simp
      refine hK1 _ ?_
      clear hK1 K1
      refine wpPre_e rfl rfl (fun K1 hK1 => ?_)
      apply Exists.intro
      refine And.intro (fun wx hx => ?_) ?_
      · have e0 := below_fact hx rfl x1
        have e1 := below_fact hx rfl y1
        have e2 := below_fact hx rfl a0
        have e3 := below_fact hx rfl a1
        have e4 := below_fact hx rfl a2
        have e5 := below_fact hx rfl a3
        have e6 := below_fact hx rfl g0
        have e7 := below_fact hx rfl g1
        have e8 := below_fact hx rfl g2
        have e9 := below_fact hx rfl g3
        go_simp
        try rfl
      go_simp
      refine hK1 _ ?_
      clear hK1 K1
      refine wpPre_nil ?_
      refine wpTr_e rfl (fun K1 hK1 => ?_)
      refine step_call rfl 89 #[.tmp 31, .tmp 36] _ rfl Try.f89 Try.func89 (by kernel_rfl) rfl #[.agg #[.int .i64 (c.item k).kind, .int .i64 (c.item k).int, .string (c.item k).text, .slice (c.item k).p (c.item k).n (c.item k).c], .agg #[.int .i64 (u.item k).kind, .int .i64 (u.item k).int, .string (u.item k).text, .slice (u.item k).p (u.item k).n (u.item k).c]] rfl _ (HV.out _ (Below.refl _ _).drew) (fun e w4 h4 => ?_)
      obtain ⟨r4, rfl, hr4, hb4⟩ := h4
      refine ⟨_, rfl, ?_⟩
      have HB4 : Hid (Below wr.heap.size wr w4) := (Below.refl wr.heap.size wr).drew.trans hb4
      have HR4 := hid hr4
      clear hb4 hr4
      go_simp
      refine hK1 _ _ (fun h => by cases h) ?_
      clear hK1 K1
      refine wpPre_e rfl rfl (fun K1 hK1 => ?_)
      apply Exists.intro
      refine And.intro (fun wx hx => ?_) ?_
      · go_simp
        try rfl
      go_simp
      refine hK1 _ ?_
      clear hK1 K1
      refine wpPre_nil ?_
      refine wpTr_done ?_
      cases r4 with
      | true =>
        go_wp2
        go_roundw
        case rel =>
          refine ⟨k + 1, by omega, by go_num, fun q hq => ?_, HT1.out.below HB4.out⟩
          by_cases hqk : q < k
          · exact HAl.out q hqk
          · obtain rfl : q = k := by omega
            exact HR4.out.1 rfl
        case measure => simp [intOf]; omega
      | false =>
        have HNo : Hid (¬ CAlk c u) := fun h => by have := HR4.out.2 (h.2.2 k hlt); cases this
        go_wp2
        exact bodyPost_ret (v := .bool false) (by simp [results, Try.results73, go_sem]) rfl (yn_no HNo.out (HT1.out.below HB4.out).bel)
    · obtain rfl : k = c.n := by omega
      have HY : Hid (CAlk c u) := ⟨HN.out.1.symm, HN.out.2.symm, HAl.out⟩
      go_wp2
      exact bodyPost_ret (v := .bool true) (by simp [results, Try.results73, go_sem]) rfl (yn_yes HY.out HT1.out.bel)
set_option maxHeartbeats 4000000 in
theorem yCells (l u : LT VT) (w : World) (S R : Nat → Prop) (hl : LT.In elCell w S l) (hu : LT.In elCell w R u) :
    Calls Try.prog 44 #[.slice l.p l.n l.c, .slice u.p u.n u.c] w fun e w' => YesNo (LsAlk l u) e w w' := by
  have hnn := hl.nn
  have hun := hu.nn
  by_cases h4 : l.n = u.n
  case neg =>
    have HN := hid (fun h : LsAlk l u => h4 h.1.symm)
    have h4b := int_ne h4
    clear hl hu
    go_enter Try.func44, Try.ntmps44
    go_wp2
    go_ret
    exact yn_no HN.out (Below.refl _ _)
  rw [← h4]
  have H := hid hl
  have H' := hid hu
  have HN := hid h4
  clear hl hu h4
  go_enter Try.func44, Try.ntmps44
  go_wp2_with fail
  go_loopw [5] (fun x wr => ∃ k : Nat, k ≤ l.n ∧ x = .int .i64 (k : Int) ∧ (∀ q, q < k → CAlk (l.item q) (u.item q)) ∧ Below w.heap.size w wr) (fun x _ => l.n - (intOf x).toNat)
  case atStart => exact ⟨0, Nat.zero_le _, rfl, fun q hq => absurd hq (by omega), Below.refl _ _⟩
  case round =>
    obtain ⟨k, hk, rfl, hal, hb⟩ := hrel
    have HAl := hid hal
    have HB := hid hb
    clear hal
    by_cases hlt : k < l.n
    · have hlt' : (k : Int) < (l.n : Int) := by omega
      have hlu : k < u.n := by have := HN.out; omega
      obtain ⟨b1, o1, hp, _, hl1, ha⟩ := H.out.at_ (by omega)
      obtain ⟨b2, o2, hp', _, hl2, ha'⟩ := H'.out.at_ (by omega)
      have a0 : wr.cell? ⟨b1, o1 + k * 2, none⟩ = some (.string (l.item k).text) := (World.cell?_of_block (a := ⟨b1, o1 + k * 2, none⟩) (hb.block b1 hl1)).trans (ha k hlt 0 _ rfl)
      have a1 : wr.cell? ⟨b1, o1 + k * 2 + 1, none⟩ = some (.slice (l.item k).p (l.item k).n (l.item k).c) := (World.cell?_of_block (a := ⟨b1, o1 + k * 2 + 1, none⟩) (hb.block b1 hl1)).trans (ha k hlt 1 _ rfl)
      have g0 : wr.cell? ⟨b2, o2 + k * 2, none⟩ = some (.string (u.item k).text) := (World.cell?_of_block (a := ⟨b2, o2 + k * 2, none⟩) (hb.block b2 hl2)).trans (ha' k hlu 0 _ rfl)
      have g1 : wr.cell? ⟨b2, o2 + k * 2 + 1, none⟩ = some (.slice (u.item k).p (u.item k).n (u.item k).c) := (World.cell?_of_block (a := ⟨b2, o2 + k * 2 + 1, none⟩) (hb.block b2 hl2)).trans (ha' k hlu 1 _ rfl)
      have hI : VT.In w S (l.item k) := H.out.each k hlt
      have hU : VT.In w R (u.item k) := H'.out.each k hlu
      have HV : Hid (∀ W, Below wr.heap.size wr W → Calls Try.prog 73 #[.agg #[.string (l.item k).text, .slice (l.item k).p (l.item k).n (l.item k).c], .agg #[.string (u.item k).text, .slice (u.item k).p (u.item k).n (u.item k).c]] W fun e w' => YesNo (CAlk (l.item k) (u.item k)) e W w') := fun W hW => yCell (l.item k) (u.item k) W S R ((hI.below hb).below hW) ((hU.below hb).below hW)
      rw [hp, hp']
      clear ha ha' hp hp' hI hU hb
      go_wp2_with fail
      refine wp_region_calmE 30 (fun wx => Below wr.heap.size wr wx) [(0, true), (1, true), (2, true), (3, false), (4, true), (5, true), (6, true), (7, false)] (.one 8 false [(9, true)] .done) (by kernel_rfl) (by kernel_rfl) (Below.refl _ _).drew ?_
      refine wpPre_e rfl rfl (fun K1 hK1 => ?_)
      apply Exists.intro
      refine And.intro (fun wx hx => ?_) ?_
      · go_simp
        try rfl
      go_simp
      refine hK1 _ ?_
      clear hK1 K1
      refine wpPre_e rfl rfl (fun K1 hK1 => ?_)
      apply Exists.intro
      refine And.intro (fun wx hx => ?_) ?_
      · go_simp
        try rfl
      go_simp
      refine hK1 _ ?_
      clear hK1 K1
      refine wpPre_e rfl rfl (fun K1 hK1 => ?_)
      apply Exists.intro
      refine And.intro (fun wx hx => ?_) ?_
      · go_simp
        try rfl
      go_simp
      refine hK1 _ ?_
      clear hK1 K1
      refine wpPre_e rfl rfl (fun K1 hK1 => ?_)
      apply Exists.intro
      refine And.intro (fun wx hx => ?_) ?_
      · have e0 := below_fact hx rfl a0
        have e1 := below_fact hx rfl a1
        have e2 := below_fact hx rfl g0
        have e3 := below_fact hx rfl g1
        go_simp
        try rfl
      go_simp
      refine hK1 _ ?_
      clear hK1 K1
      refine wpPre_e rfl rfl (fun K1 hK1 => ?_)
      apply Exists.intro
      refine And.intro (fun wx hx => ?_) ?_
      · go_simp
        try rfl
      go_simp
      refine hK1 _ ?_
      clear hK1 K1
      refine wpPre_e rfl rfl (fun K1 hK1 => ?_)
      apply Exists.intro
      refine And.intro (fun wx hx => ?_) ?_
      · go_simp
        try rfl
      go_simp
      refine hK1 _ ?_
      clear hK1 K1
      refine wpPre_e rfl rfl (fun K1 hK1 => ?_)
      apply Exists.intro
      refine And.intro (fun wx hx => ?_) ?_
      · go_simp
        try rfl
      go_simp
      refine hK1 _ ?_
      clear hK1 K1
      refine wpPre_e rfl rfl (fun K1 hK1 => ?_)
      apply Exists.intro
      refine And.intro (fun wx hx => ?_) ?_
      · have e0 := below_fact hx rfl a0
        have e1 := below_fact hx rfl a1
        have e2 := below_fact hx rfl g0
        have e3 := below_fact hx rfl g1
        go_simp
        try rfl
      go_simp
      refine hK1 _ ?_
      clear hK1 K1
      refine wpPre_nil ?_
      refine wpTr_e rfl (fun K1 hK1 => ?_)
      refine step_call rfl 73 #[.tmp 20, .tmp 24] _ rfl Try.f73 Try.func73 (by kernel_rfl) rfl #[.agg #[.string (l.item k).text, .slice (l.item k).p (l.item k).n (l.item k).c], .agg #[.string (u.item k).text, .slice (u.item k).p (u.item k).n (u.item k).c]] rfl _ (HV.out _ (Below.refl _ _).drew) (fun e w4 h4 => ?_)
      obtain ⟨r4, rfl, hr4, hb4⟩ := h4
      refine ⟨_, rfl, ?_⟩
      have HB4 : Hid (Below wr.heap.size wr w4) := (Below.refl wr.heap.size wr).drew.trans hb4
      have HR4 := hid hr4
      clear hb4 hr4
      go_simp
      refine hK1 _ _ (fun h => by cases h) ?_
      clear hK1 K1
      refine wpPre_e rfl rfl (fun K1 hK1 => ?_)
      apply Exists.intro
      refine And.intro (fun wx hx => ?_) ?_
      · go_simp
        try rfl
      go_simp
      refine hK1 _ ?_
      clear hK1 K1
      refine wpPre_nil ?_
      refine wpTr_done ?_
      cases r4 with
      | true =>
        go_wp2
        go_roundw
        case rel =>
          refine ⟨k + 1, by omega, by go_num, fun q hq => ?_, HB.out.trans (HB4.out.mono HB.out.size)⟩
          by_cases hqk : q < k
          · exact HAl.out q hqk
          · obtain rfl : q = k := by omega
            exact HR4.out.1 rfl
        case measure => simp [intOf]; omega
      | false =>
        have HNo : Hid (¬ LsAlk l u) := fun h => by have := HR4.out.2 (h.2 k hlt); cases this
        go_wp2
        exact bodyPost_ret (v := .bool false) (by simp [results, Try.results44, go_sem]) rfl (yn_no HNo.out (HB.out.trans (HB4.out.mono HB.out.size)))
    · obtain rfl : k = l.n := by omega
      have HY : Hid (LsAlk l u) := ⟨HN.out.symm, HAl.out⟩
      clear hb
      go_wp2
      exact bodyPost_ret (v := .bool true) (by simp [results, Try.results44, go_sem]) rfl (yn_yes HY.out HB.out)
end Go.Proofs.Ytckopbkhpbhljaa

namespace Go.Proofs.Ytckopbkhpbhljaa
open Go.RowKit
set_option maxRecDepth 8000

set_option maxHeartbeats 4000000 in
theorem yStat (a b : Int) (l u : LT VT) (w : World) (S R : Nat → Prop) (hl : LT.In elCell w S l) (hu : LT.In elCell w R u) :
    Calls Try.prog 15 #[.agg #[.int .i64 a, .slice l.p l.n l.c], .agg #[.int .i64 b, .slice u.p u.n u.c]] w fun e w' => YesNo (a = b ∧ LsAlk l u) e w w' := by
  have HT := hid (TwoK.start w #[.int .i64 a, .slice l.p l.n l.c] #[.int .i64 b, .slice u.p u.n u.c] 24)
  have HC : Hid (∀ W, Below w.heap.size w W → Calls Try.prog 44 #[.slice l.p l.n l.c, .slice u.p u.n u.c] W fun e w' => YesNo (LsAlk l u) e W w') := fun W hW => yCells l u W S R (hl.below hW) (hu.below hW)
  clear hl hu
  by_cases h : a = b
  case neg =>
    have HN := hid (fun x : a = b ∧ LsAlk l u => h x.1)
    have hb : (a == b) = false := by simp [h]
    go_enter Try.func15, Try.ntmps15
    go_wp2
    exact bodyPost_ret (v := .bool false) (by simp [results, Try.results15, go_sem]) rfl (yn_no HN.out HT.out.bel)
  subst h
  go_enter Try.func15, Try.ntmps15
  go_wp2_with fail
  refine (HC.out _ HT.out.bel).mono ?_
  rintro e w1 ⟨r, rfl, hr, hb1⟩
  have HR := hid hr
  have HB := hid (HT.out.bel.trans (hb1.mono HT.out.bel.size))
  clear hr hb1
  go_wp2
  exact bodyPost_ret (v := .bool r) (by simp [results, Try.results15, go_sem]) rfl ⟨r, rfl, ⟨fun h => ⟨by first | rfl | trivial, HR.out.1 h⟩, fun h => HR.out.2 h.2⟩, HB.out⟩
/-- two deltas are the same -/
def DAlk (d e : DT) : Prop := d.num = e.num ∧ LsAlk d.set e.set ∧ e.gone.n = d.gone.n ∧ ∀ j, j < d.gone.n → d.gone.item j = e.gone.item j
set_option maxHeartbeats 4000000 in
theorem yDelta (d t : DT) (w : World) (S R : Nat → Prop) (hd : DT.In w S d) (ht : DT.In w R t) :
    Calls Try.prog 17 #[.agg #[.int .i64 d.num, .slice d.set.p d.set.n d.set.c, .slice d.gone.p d.gone.n d.gone.c], .agg #[.int .i64 t.num, .slice t.set.p t.set.n t.set.c, .slice t.gone.p t.gone.n t.gone.c]] w fun e w' => YesNo (DAlk d t) e w w' := by
  have hnn := hd.gone.nn
  have htn := ht.gone.nn
  by_cases h : d.num = t.num
  case neg =>
    have HN := hid (fun x : DAlk d t => h x.1)
    have hb : (d.num == t.num) = false := by simp [h]
    have hb' : (d.num != t.num) = true := by simp [h]
    clear hd ht
    go_enter Try.func17, Try.ntmps17
    go_wp2
    exact bodyPost_ret (v := .bool false) (by simp [results, Try.results17, go_sem]) rfl (yn_no HN.out (((Below.refl _ _).alloc (Nat.le_refl _) _).alloc (by simp) _))
  by_cases h4 : d.gone.n = t.gone.n
  case neg =>
    have HN := hid (fun x : DAlk d t => h4 x.2.2.1.symm)
    have h4b := int_ne h4
    rw [← h]
    clear hd ht h
    go_enter Try.func17, Try.ntmps17
    go_wp2
    exact bodyPost_ret (v := .bool false) (by simp [results, Try.results17, go_sem]) rfl (yn_no HN.out (((Below.refl _ _).alloc (Nat.le_refl _) _).alloc (by simp) _))
  rw [← h, ← h4]
  have HN := hid (And.intro h h4)
  have HT := hid (TwoK.start w #[.int .i64 d.num, .slice d.set.p d.set.n d.set.c, .slice d.gone.p d.gone.n d.gone.c] #[.int .i64 d.num, .slice t.set.p t.set.n t.set.c, .slice t.gone.p d.gone.n t.gone.c] 30)
  have HC : Hid (∀ W, Below w.heap.size w W → Calls Try.prog 44 #[.slice d.set.p d.set.n d.set.c, .slice t.set.p t.set.n t.set.c] W fun e w' => YesNo (LsAlk d.set t.set) e W w') := fun W hW => yCells d.set t.set W S R (hd.set.below hW) (ht.set.below hW)
  have HD := hid hd.gone
  have HG := hid ht.gone
  clear hd ht h h4
  go_enter Try.func17, Try.ntmps17
  go_wp2_with fail
  refine (HC.out _ HT.out.bel).mono ?_
  rintro e w1 ⟨r, rfl, hr, hb1⟩
  have HR := hid hr
  have HT1 := hid (HT.out.below hb1)
  clear hr hb1 HT
  cases r with
  | false =>
    have HNo : Hid (¬ DAlk d t) := fun x => by have := HR.out.2 x.2.1; cases this
    go_wp2
    exact bodyPost_ret (v := .bool false) (by simp [results, Try.results17, go_sem]) rfl (yn_no HNo.out HT1.out.bel)
  | true =>
    go_wp2_with fail
    go_loopw [5] (fun x wr => ∃ k : Nat, k ≤ d.gone.n ∧ x = .int .i64 (k : Int) ∧ (∀ q, q < k → d.gone.item q = t.gone.item q) ∧ TwoK w wr #[.int .i64 d.num, .slice d.set.p d.set.n d.set.c, .slice d.gone.p d.gone.n d.gone.c] #[.int .i64 d.num, .slice t.set.p t.set.n t.set.c, .slice t.gone.p d.gone.n t.gone.c] 30) (fun x _ => d.gone.n - (intOf x).toNat)
    case atStart => exact ⟨0, Nat.zero_le _, rfl, fun q hq => absurd hq (by omega), HT1.out⟩
    case round =>
      clear HT1
      obtain ⟨k, hk, rfl, hal, hT1⟩ := hrel
      have HAl := hid hal
      have HT1 := hid hT1
      have x2 := hT1.ba.cell 2
      have y2 := hT1.bb.cell 2
      have xl := hT1.ba.lt
      have yl := hT1.bb.lt
      simp at x2 y2
      clear hT1 hal
      by_cases hlt : k < d.gone.n
      · have hlt' : (k : Int) < (d.gone.n : Int) := by omega
        have hlu : k < t.gone.n := by have := HN.out.2; omega
        obtain ⟨b1, o1, hp, _, hl1, ha⟩ := HD.out.at_ (by omega)
        obtain ⟨b2, o2, hp', _, hl2, ha'⟩ := HG.out.at_ (by omega)
        have a0 : wr.cell? ⟨b1, o1 + k, none⟩ = some (.string (d.gone.item k)) := (World.cell?_of_block (a := ⟨b1, o1 + k, none⟩) (HT1.out.bel.block b1 hl1)).trans (by have := ha k hlt 0 _ rfl; simpa [elStr] using this)
        have g0 : wr.cell? ⟨b2, o2 + k, none⟩ = some (.string (t.gone.item k)) := (World.cell?_of_block (a := ⟨b2, o2 + k, none⟩) (HT1.out.bel.block b2 hl2)).trans (by have := ha' k hlu 0 _ rfl; simpa [elStr] using this)
        rw [hp] at x2
        rw [hp'] at y2
        clear ha ha' hp hp'
        by_cases hs : d.gone.item k = t.gone.item k
        · have HS := hid hs
          rw [← hs] at g0
          clear hs
          go_wp2_with fail
          refine wp_region_calmD 30 (fun wx => Below wr.heap.size wr wx) [(0, true), (1, false), (2, true), (3, true), (4, false), (5, true), (6, false), (7, true), (8, true), (9, false), (10, true)] [] (by kernel_rfl) (by kernel_rfl) (Below.refl _ _).drew ?_
          refine wpPre_e rfl rfl (fun K1 hK1 => ?_)
          apply Exists.intro
          refine And.intro (fun wx hx => ?_) ?_
          · go_simp
            try rfl
          go_simp
          refine hK1 _ ?_
          clear hK1 K1
          refine wpPre_e rfl rfl (fun K1 hK1 => ?_)
          apply Exists.intro
          refine And.intro (fun wx hx => ?_) ?_
          · have e0 := below_fact hx rfl x2
            have e1 := below_fact hx rfl y2
            have e2 := below_fact hx rfl a0
            have e3 := below_fact hx rfl g0
            go_simp
            try rfl
          go_simp
          refine hK1 _ ?_
          clear hK1 K1
          refine wpPre_e rfl rfl (fun K1 hK1 => ?_)
          apply Exists.intro
          refine And.intro (fun wx hx => ?_) ?_
          · go_simp
            try rfl
          go_simp
          refine hK1 _ ?_
          clear hK1 K1
          refine wpPre_e rfl rfl (fun K1 hK1 => ?_)
          apply Exists.intro
          refine And.intro (fun wx hx => ?_) ?_
          · go_simp
            try rfl
          go_simp
          refine hK1 _ ?_
          clear hK1 K1
          refine wpPre_e rfl rfl (fun K1 hK1 => ?_)
          apply Exists.intro
          refine And.intro (fun wx hx => ?_) ?_
          · have e0 := below_fact hx rfl x2
            have e1 := below_fact hx rfl y2
            have e2 := below_fact hx rfl a0
            have e3 := below_fact hx rfl g0
            go_simp
            try rfl
          go_simp
          refine hK1 _ ?_
          clear hK1 K1
          refine wpPre_e rfl rfl (fun K1 hK1 => ?_)
          apply Exists.intro
          refine And.intro (fun wx hx => ?_) ?_
          · go_simp
            try rfl
          go_simp
          refine hK1 _ ?_
          clear hK1 K1
          refine wpPre_e rfl rfl (fun K1 hK1 => ?_)
          apply Exists.intro
          refine And.intro (fun wx hx => ?_) ?_
          · have e0 := below_fact hx rfl x2
            have e1 := below_fact hx rfl y2
            have e2 := below_fact hx rfl a0
            have e3 := below_fact hx rfl g0
            go_simp
            try rfl
          go_simp
          refine hK1 _ ?_
          clear hK1 K1
          refine wpPre_e rfl rfl (fun K1 hK1 => ?_)
          apply Exists.intro
          refine And.intro (fun wx hx => ?_) ?_
          · go_simp
            try rfl
          go_simp
          refine hK1 _ ?_
          clear hK1 K1
          refine wpPre_e rfl rfl (fun K1 hK1 => ?_)
          apply Exists.intro
          refine And.intro (fun wx hx => ?_) ?_
          · go_simp
            try rfl
          go_simp
          refine hK1 _ ?_
          clear hK1 K1
          refine wpPre_e rfl rfl (fun K1 hK1 => ?_)
          apply Exists.intro
          refine And.intro (fun wx hx => ?_) ?_
          · have e0 := below_fact hx rfl x2
            have e1 := below_fact hx rfl y2
            have e2 := below_fact hx rfl a0
            have e3 := below_fact hx rfl g0
            go_simp
            try rfl
          go_simp
          refine hK1 _ ?_
          clear hK1 K1
          refine wpPre_e rfl rfl (fun K1 hK1 => ?_)
          apply Exists.intro
          refine And.intro (fun wx hx => ?_) ?_
          · go_simp
            try rfl
          go_simp
          refine hK1 _ ?_
          clear hK1 K1
          refine wpPre_nil ?_
          refine wpStg_nil ?_
          go_wp2
          go_roundw
          case rel =>
            refine ⟨k + 1, by omega, by go_num, fun q hq => ?_, HT1.out.below (Below.refl _ _).drew⟩
            by_cases hqk : q < k
            · exact HAl.out q hqk
            · obtain rfl : q = k := by omega
              exact HS.out
          case measure => simp [intOf]; omega
        · have HNo : Hid (¬ DAlk d t) := fun x => hs (x.2.2.2 k hlt)
          have hsb := str_ne hs
          clear hs
          go_wp2_with fail
          refine wp_region_calmD 30 (fun wx => Below wr.heap.size wr wx) [(0, true), (1, false), (2, true), (3, true), (4, false), (5, true), (6, false), (7, true), (8, true), (9, false), (10, true)] [] (by kernel_rfl) (by kernel_rfl) (Below.refl _ _).drew ?_
          refine wpPre_e rfl rfl (fun K1 hK1 => ?_)
          apply Exists.intro
          refine And.intro (fun wx hx => ?_) ?_
          · go_simp
            try rfl
          go_simp
          refine hK1 _ ?_
          clear hK1 K1
          refine wpPre_e rfl rfl (fun K1 hK1 => ?_)
          apply Exists.intro
          refine And.intro (fun wx hx => ?_) ?_
          · have e0 := below_fact hx rfl x2
            have e1 := below_fact hx rfl y2
            have e2 := below_fact hx rfl a0
            have e3 := below_fact hx rfl g0
            go_simp
            try rfl
          go_simp
          refine hK1 _ ?_
          clear hK1 K1
          refine wpPre_e rfl rfl (fun K1 hK1 => ?_)
          apply Exists.intro
          refine And.intro (fun wx hx => ?_) ?_
          · go_simp
            try rfl
          go_simp
          refine hK1 _ ?_
          clear hK1 K1
          refine wpPre_e rfl rfl (fun K1 hK1 => ?_)
          apply Exists.intro
          refine And.intro (fun wx hx => ?_) ?_
          · go_simp
            try rfl
          go_simp
          refine hK1 _ ?_
          clear hK1 K1
          refine wpPre_e rfl rfl (fun K1 hK1 => ?_)
          apply Exists.intro
          refine And.intro (fun wx hx => ?_) ?_
          · have e0 := below_fact hx rfl x2
            have e1 := below_fact hx rfl y2
            have e2 := below_fact hx rfl a0
            have e3 := below_fact hx rfl g0
            go_simp
            try rfl
          go_simp
          refine hK1 _ ?_
          clear hK1 K1
          refine wpPre_e rfl rfl (fun K1 hK1 => ?_)
          apply Exists.intro
          refine And.intro (fun wx hx => ?_) ?_
          · go_simp
            try rfl
          go_simp
          refine hK1 _ ?_
          clear hK1 K1
          refine wpPre_e rfl rfl (fun K1 hK1 => ?_)
          apply Exists.intro
          refine And.intro (fun wx hx => ?_) ?_
          · have e0 := below_fact hx rfl x2
            have e1 := below_fact hx rfl y2
            have e2 := below_fact hx rfl a0
            have e3 := below_fact hx rfl g0
            go_simp
            try rfl
          go_simp
          refine hK1 _ ?_
          clear hK1 K1
          refine wpPre_e rfl rfl (fun K1 hK1 => ?_)
          apply Exists.intro
          refine And.intro (fun wx hx => ?_) ?_
          · go_simp
            try rfl
          go_simp
          refine hK1 _ ?_
          clear hK1 K1
          refine wpPre_e rfl rfl (fun K1 hK1 => ?_)
          apply Exists.intro
          refine And.intro (fun wx hx => ?_) ?_
          · go_simp
            try rfl
          go_simp
          refine hK1 _ ?_
          clear hK1 K1
          refine wpPre_e rfl rfl (fun K1 hK1 => ?_)
          apply Exists.intro
          refine And.intro (fun wx hx => ?_) ?_
          · have e0 := below_fact hx rfl x2
            have e1 := below_fact hx rfl y2
            have e2 := below_fact hx rfl a0
            have e3 := below_fact hx rfl g0
            go_simp
            try rfl
          go_simp
          refine hK1 _ ?_
          clear hK1 K1
          refine wpPre_e rfl rfl (fun K1 hK1 => ?_)
          apply Exists.intro
          refine And.intro (fun wx hx => ?_) ?_
          · go_simp
            try rfl
          go_simp
          refine hK1 _ ?_
          clear hK1 K1
          refine wpPre_nil ?_
          refine wpStg_nil ?_
          go_wp2
          exact bodyPost_ret (v := .bool false) (by simp [results, Try.results17, go_sem]) rfl (yn_no HNo.out (HT1.out.below (Below.refl _ _).drew).bel)
      · obtain rfl : k = d.gone.n := by omega
        have HY : Hid (DAlk d t) := ⟨HN.out.1, HR.out.1 (by first | rfl | trivial), HN.out.2.symm, HAl.out⟩
        go_wp2
        exact bodyPost_ret (v := .bool true) (by simp [results, Try.results17, go_sem]) rfl (yn_yes HY.out HT1.out.bel)
end Go.Proofs.Ytckopbkhpbhljaa
