import Derived.Test.YtpldokahoamdpaaLcM
import Derived.Test.YtpldokahoamdpaaKsA
import Derived.Test.YtpldokahoamdpaaPack0
namespace Go.Proofs.Ytpldokahoamdpaa
open Go.RowKit Go.Conc
set_option maxRecDepth 8000
set_option maxRecDepth 60000 in
set_option maxHeartbeats 4000000 in
/-- sameRec of two that are alike -/
theorem sameRec_yes (r q : RT) (w : World) (S R : Nat → Prop) (hr : RT.In w S r) (hq : RT.In w R q) (ha : RT.Alike r q) :
    Calls Try.prog 14 #[.agg #[.string r.key, .int .i64 r.v.kind, .int .i64 r.v.int, .string r.v.text, .slice r.v.p r.v.n r.v.c, .slice r.p r.n r.c], .agg #[.string q.key, .int .i64 q.v.kind, .int .i64 q.v.int, .string q.v.text, .slice q.v.p q.v.n q.v.c, .slice q.p q.n q.c]] w fun e w' => e = .returned (.bool true) ∧ Below w.heap.size w w' := by
  obtain ⟨key, v, p, n, c, lp⟩ := r
  obtain ⟨key2, v2, p2, n2, c2, lp2⟩ := q
  obtain rfl : key2 = key := ha.key
  obtain rfl : n2 = n := ha.n
  simp only
  have hT := TwoK.start w #[.string key2, .int .i64 v.kind, .int .i64 v.int, .string v.text, .slice v.p v.n v.c, .slice p n2 c] #[.string key2, .int .i64 v2.kind, .int .i64 v2.int, .string v2.text, .slice v2.p v2.n v2.c, .slice p2 n2 c2] 33
  obtain ⟨W, hW⟩ : ∃ W, W = (w.alloc (.cells #[.string key2, .int .i64 v.kind, .int .i64 v.int, .string v.text, .slice v.p v.n v.c, .slice p n2 c] 33)).alloc (.cells #[.string key2, .int .i64 v2.kind, .int .i64 v2.int, .string v2.text, .slice v2.p v2.n v2.c, .slice p2 n2 c2] 33) := ⟨_, rfl⟩
  rw [← hW] at hT
  have HV := yValue v v2 W S R (hr.v.below hT.bel) (hq.v.below hT.bel)
  unfold VT.val at HV
  have HC := hid HV
  have HA := hid ha
  have HT := hid hT
  have HW := hid hW
  have hnn : n2 ≤ 140737488355328 := hr.l.nn
  have HIr := hid hr.l
  have HIq := hid hq.l
  have z0 := hT.ba.cell 0
  have y0 := hT.bb.cell 0
  have z1 := hT.ba.cell 1
  have y1 := hT.bb.cell 1
  have z2 := hT.ba.cell 2
  have y2 := hT.bb.cell 2
  have z3 := hT.ba.cell 3
  have y3 := hT.bb.cell 3
  have z4 := hT.ba.cell 4
  have y4 := hT.bb.cell 4
  have z5 := hT.ba.cell 5
  have y5 := hT.bb.cell 5
  simp at z0 z1 z2 z3 z4 z5 y0 y1 y2 y3 y4 y5
  clear hr hq ha hT hW HV
  go_enter Try.func14, Try.ntmps14
  go_upto_region 1 with fail
  rw [← HW.out]
  go_wp2_with fail
  refine HC.out.mono ?_
  rintro e w1 ⟨r1, rfl, hr1, hb1⟩
  obtain rfl : r1 = true := hr1.2 HA.out.v
  have hT1 := HT.out.below hb1
  have c5 := hT1.ba.cell 5
  have d5 := hT1.bb.cell 5
  simp at c5 d5
  have HT1 := hid hT1
  clear hr1 hb1 hT1 HT HC z0 z1 z2 z3 z4 z5 y0 y1 y2 y3 y4 y5
  go_wp2_with fail
  go_loopw [5] (fun x wr => ∃ j : Nat, j ≤ n2 ∧ x = .int .i64 j ∧ Below w1.heap.size w1 wr) (fun x _ => n2 - (intOf x).toNat)
  case atStart => exact ⟨0, Nat.zero_le _, rfl, Below.refl _ _⟩
  case round =>
    obtain ⟨j, hj, rfl, hbel⟩ := hrel
    have hT2 := HT1.out.below hbel
    have a5 := hT2.ba.cell 5
    have b5 := hT2.bb.cell 5
    simp at a5 b5
    have hs1 := HT1.out.bel.size
    have HB2 := hid hbel
    by_cases hlt : j < n2
    · have hlt' : (j : Int) < (n2 : Int) := by omega
      obtain ⟨b1, o1, hp, _, hl1, ha1⟩ := HIr.out.at_ (by omega)
      obtain ⟨b2, o2, hp', _, hl2, ha2⟩ := HIq.out.at_ (by omega)
      have g1 := (World.cell?_of_block (a := ⟨b1, o1 + j, none⟩) ((hbel.block b1 (by omega)).trans (HT1.out.bel.block b1 hl1))).trans (ha1 j hlt)
      have g2 := (World.cell?_of_block (a := ⟨b2, o2 + j, none⟩) ((hbel.block b2 (by omega)).trans (HT1.out.bel.block b2 hl2))).trans (ha2 j hlt)
      have e3 : lp2 j = lp j := HA.out.loop j hlt
      rw [e3] at g2
      rw [hp] at a5
      rw [hp'] at b5
      clear ha1 ha2 hbel hT2 c5 d5 e3 hp hp'
      go_wp2_with fail
      refine wp_region_calmD 30 (fun wx => Below wr.heap.size wr wx) [(0, true), (1, false), (2, true), (3, true), (4, false), (5, true), (6, false), (7, true), (8, true), (9, false), (10, true)] [] (by kernel_rfl) (by kernel_rfl) (Below.refl _ _).drew ?_
      refine wpPre_e rfl rfl (fun K1 hK1 => ?_)
      apply Exists.intro
      refine And.intro (fun wx hx => ?_) ?_
      · go_simp
        try rfl
      go_simp
      refine hK1 _ ?_
      clear hK1 K1
      refine wpPre_e rfl rfl (fun K1 hK1 => ?_)
      apply Exists.intro
      refine And.intro (fun wx hx => ?_) ?_
      · have e0 := below_fact hx rfl a5
        have e1 := below_fact hx rfl b5
        have e2 := below_fact hx rfl g1
        have e3 := below_fact hx rfl g2
        go_simp
        try rfl
      go_simp
      refine hK1 _ ?_
      clear hK1 K1
      refine wpPre_e rfl rfl (fun K1 hK1 => ?_)
      apply Exists.intro
      refine And.intro (fun wx hx => ?_) ?_
      · go_simp
        try rfl
      go_simp
      refine hK1 _ ?_
      clear hK1 K1
      refine wpPre_e rfl rfl (fun K1 hK1 => ?_)
      apply Exists.intro
      refine And.intro (fun wx hx => ?_) ?_
      · go_simp
        try rfl
      go_simp
      refine hK1 _ ?_
      clear hK1 K1
      refine wpPre_e rfl rfl (fun K1 hK1 => ?_)
      apply Exists.intro
      refine And.intro (fun wx hx => ?_) ?_
      · have e0 := below_fact hx rfl a5
        have e1 := below_fact hx rfl b5
        have e2 := below_fact hx rfl g1
        have e3 := below_fact hx rfl g2
        go_simp
        try rfl
      go_simp
      refine hK1 _ ?_
      clear hK1 K1
      refine wpPre_e rfl rfl (fun K1 hK1 => ?_)
      apply Exists.intro
      refine And.intro (fun wx hx => ?_) ?_
      · go_simp
        try rfl
      go_simp
      refine hK1 _ ?_
      clear hK1 K1
      refine wpPre_e rfl rfl (fun K1 hK1 => ?_)
      apply Exists.intro
      refine And.intro (fun wx hx => ?_) ?_
      · have e0 := below_fact hx rfl a5
        have e1 := below_fact hx rfl b5
        have e2 := below_fact hx rfl g1
        have e3 := below_fact hx rfl g2
        go_simp
        try rfl
      go_simp
      refine hK1 _ ?_
      clear hK1 K1
      refine wpPre_e rfl rfl (fun K1 hK1 => ?_)
      apply Exists.intro
      refine And.intro (fun wx hx => ?_) ?_
      · go_simp
        try rfl
      go_simp
      refine hK1 _ ?_
      clear hK1 K1
      refine wpPre_e rfl rfl (fun K1 hK1 => ?_)
      apply Exists.intro
      refine And.intro (fun wx hx => ?_) ?_
      · go_simp
        try rfl
      go_simp
      refine hK1 _ ?_
      clear hK1 K1
      refine wpPre_e rfl rfl (fun K1 hK1 => ?_)
      apply Exists.intro
      refine And.intro (fun wx hx => ?_) ?_
      · have e0 := below_fact hx rfl a5
        have e1 := below_fact hx rfl b5
        have e2 := below_fact hx rfl g1
        have e3 := below_fact hx rfl g2
        go_simp
        try rfl
      go_simp
      refine hK1 _ ?_
      clear hK1 K1
      refine wpPre_e rfl rfl (fun K1 hK1 => ?_)
      apply Exists.intro
      refine And.intro (fun wx hx => ?_) ?_
      · go_simp
        try rfl
      go_simp
      refine hK1 _ ?_
      clear hK1 K1
      refine wpPre_nil ?_
      refine wpStg_nil ?_
      go_wp2
      go_roundw
      case rel => exact ⟨j + 1, by omega, by go_num, HB2.out.drew⟩
      case measure => simp [intOf]; omega
    · obtain rfl : j = n2 := by omega
      clear hT2 hbel
      go_wp2
      exact bodyPost_ret (v := .bool true) (by simp [results, Try.results14, go_sem]) rfl ⟨rfl, HT1.out.bel.trans (HB2.out.mono hs1)⟩
set_option maxRecDepth 60000 in
set_option maxHeartbeats 4000000 in
/-- sameRecs of two lists that are alike -/
theorem sameRecs_yes (l u : LT RT) (w : World) (S R : Nat → Prop) (hl : LT.In elRec w S l) (hu : LT.In elRec w R u) (hn : u.n = l.n) (ha : ∀ j, j < l.n → RT.Alike (l.item j) (u.item j)) :
    Calls Try.prog 12 #[.slice l.p l.n l.c, .slice u.p u.n u.c] w fun e w' => e = .returned (.bool true) ∧ Below w.heap.size w w' := by
  have hnn := hl.nn
  have HL := hid hl
  have HU := hid hu
  have HA := hid ha
  rw [hn]
  have HN := hid hn
  clear hl hu ha hn
  go_enter Try.func12, Try.ntmps12
  go_wp2_with fail
  go_loopw [5] (fun x wr => ∃ k : Nat, k ≤ l.n ∧ x = .int .i64 k ∧ Below w.heap.size w wr) (fun x _ => l.n - (intOf x).toNat)
  case atStart => exact ⟨0, Nat.zero_le _, rfl, Below.refl _ _⟩
  case round =>
    obtain ⟨k, hk, rfl, hbel⟩ := hrel
    have HB2 := hid hbel
    have hs1 := hbel.size
    by_cases hlt : k < l.n
    · have hlt' : (k : Int) < (l.n : Int) := by omega
      obtain ⟨b1, o1, hp, hS1, hl1, ha1⟩ := HL.out.at_ (by omega)
      obtain ⟨b2, o2, hp', hS2, hl2, ha2⟩ := HU.out.at_ (by have := HN.out; omega)
      rw [hp, hp']
      have hc1 : ∀ r u', (elRec.cells (l.item k))[r]? = some u' → wr.cell? ⟨b1, o1 + k * 6 + r, none⟩ = some u' := fun r u' hu' => (World.cell?_of_block (a := ⟨b1, o1 + k * 6 + r, none⟩) (hbel.block b1 hl1)).trans (ha1 k hlt r u' hu')
      have hc2 : ∀ r u', (elRec.cells (u.item k))[r]? = some u' → wr.cell? ⟨b2, o2 + k * 6 + r, none⟩ = some u' := fun r u' hu' => (World.cell?_of_block (a := ⟨b2, o2 + k * 6 + r, none⟩) (hbel.block b2 hl2)).trans (ha2 k (by have := HN.out; omega) r u' hu')
      have d0 : wr.cell? ⟨b1, o1 + k * 6, none⟩ = some (.string (l.item k).key) := hc1 0 _ rfl
      have f0 : wr.cell? ⟨b2, o2 + k * 6, none⟩ = some (.string (u.item k).key) := hc2 0 _ rfl
      have d1 := hc1 1 _ rfl
      have f1 := hc2 1 _ rfl
      have d2 := hc1 2 _ rfl
      have f2 := hc2 2 _ rfl
      have d3 := hc1 3 _ rfl
      have f3 := hc2 3 _ rfl
      have d4 := hc1 4 _ rfl
      have f4 := hc2 4 _ rfl
      have d5 := hc1 5 _ rfl
      have f5 := hc2 5 _ rfl
      have HC : Hid (∀ W, Below wr.heap.size wr W → Calls Try.prog 14 #[.agg #[.string (l.item k).key, .int .i64 (l.item k).v.kind, .int .i64 (l.item k).v.int, .string (l.item k).v.text, .slice (l.item k).v.p (l.item k).v.n (l.item k).v.c, .slice (l.item k).p (l.item k).n (l.item k).c], .agg #[.string (u.item k).key, .int .i64 (u.item k).v.kind, .int .i64 (u.item k).v.int, .string (u.item k).v.text, .slice (u.item k).v.p (u.item k).v.n (u.item k).v.c, .slice (u.item k).p (u.item k).n (u.item k).c]] W fun e w' => e = .returned (.bool true) ∧ Below W.heap.size W w') := fun W hW => sameRec_yes (l.item k) (u.item k) W _ _ (RT.In.below (RT.In.kept ((HL.out.each k hlt : RT.In w S (l.item k))) hs1 fun b _ hb => HB2.out.block b hb) hW) (RT.In.below (RT.In.kept ((HU.out.each k (by have := HN.out; omega) : RT.In w R (u.item k))) hs1 fun b _ hb => HB2.out.block b hb) hW) (HA.out k hlt)
      clear hc1 hc2 ha1 ha2 hbel
      go_wp2_with fail
      refine wp_region_calmE 30 (fun wx => Below wr.heap.size wr wx) [(0, true), (1, true), (2, true), (3, false), (4, true), (5, true), (6, true), (7, false)] (.one 8 false [(9, true)] .done) (by kernel_rfl) (by kernel_rfl) (Below.refl _ _).drew ?_
      refine wpPre_e rfl rfl (fun K1 hK1 => ?_)
      apply Exists.intro
      refine And.intro (fun wx hx => ?_) ?_
      · go_simp
        try rfl
      go_simp
      refine hK1 _ ?_
      clear hK1 K1
      refine wpPre_e rfl rfl (fun K1 hK1 => ?_)
      apply Exists.intro
      refine And.intro (fun wx hx => ?_) ?_
      · go_simp
        try rfl
      go_simp
      refine hK1 _ ?_
      clear hK1 K1
      refine wpPre_e rfl rfl (fun K1 hK1 => ?_)
      apply Exists.intro
      refine And.intro (fun wx hx => ?_) ?_
      · go_simp
        try rfl
      go_simp
      refine hK1 _ ?_
      clear hK1 K1
      refine wpPre_e rfl rfl (fun K1 hK1 => ?_)
      apply Exists.intro
      refine And.intro (fun wx hx => ?_) ?_
      · have e0 := below_fact hx rfl d0
        have e1 := below_fact hx rfl d1
        have e2 := below_fact hx rfl d2
        have e3 := below_fact hx rfl d3
        have e4 := below_fact hx rfl d4
        have e5 := below_fact hx rfl d5
        have e6 := below_fact hx rfl f0
        have e7 := below_fact hx rfl f1
        have e8 := below_fact hx rfl f2
        have e9 := below_fact hx rfl f3
        have e10 := below_fact hx rfl f4
        have e11 := below_fact hx rfl f5
        go_simp
        try rfl
      go_simp
      refine hK1 _ ?_
      clear hK1 K1
      refine wpPre_e rfl rfl (fun K1 hK1 => ?_)
      apply Exists.intro
      refine And.intro (fun wx hx => ?_) ?_
      · go_simp
        try rfl
      go_simp
      refine hK1 _ ?_
      clear hK1 K1
      refine wpPre_e rfl rfl (fun K1 hK1 => ?_)
      apply Exists.intro
      refine And.intro (fun wx hx => ?_) ?_
      · go_simp
        try rfl
      go_simp
      refine hK1 _ ?_
      clear hK1 K1
      refine wpPre_e rfl rfl (fun K1 hK1 => ?_)
      apply Exists.intro
      refine And.intro (fun wx hx => ?_) ?_
      · go_simp
        try rfl
      go_simp
      refine hK1 _ ?_
      clear hK1 K1
      refine wpPre_e rfl rfl (fun K1 hK1 => ?_)
      apply Exists.intro
      refine And.intro (fun wx hx => ?_) ?_
      · have e0 := below_fact hx rfl d0
        have e1 := below_fact hx rfl d1
        have e2 := below_fact hx rfl d2
        have e3 := below_fact hx rfl d3
        have e4 := below_fact hx rfl d4
        have e5 := below_fact hx rfl d5
        have e6 := below_fact hx rfl f0
        have e7 := below_fact hx rfl f1
        have e8 := below_fact hx rfl f2
        have e9 := below_fact hx rfl f3
        have e10 := below_fact hx rfl f4
        have e11 := below_fact hx rfl f5
        go_simp
        try rfl
      go_simp
      refine hK1 _ ?_
      clear hK1 K1
      refine wpPre_nil ?_
      refine wpTr_e rfl (fun K1 hK1 => ?_)
      refine step_call rfl 14 #[.tmp 20, .tmp 24] _ rfl Try.f14 Try.func14 (by kernel_rfl) rfl #[.agg #[.string (l.item k).key, .int .i64 (l.item k).v.kind, .int .i64 (l.item k).v.int, .string (l.item k).v.text, .slice (l.item k).v.p (l.item k).v.n (l.item k).v.c, .slice (l.item k).p (l.item k).n (l.item k).c], .agg #[.string (u.item k).key, .int .i64 (u.item k).v.kind, .int .i64 (u.item k).v.int, .string (u.item k).v.text, .slice (u.item k).v.p (u.item k).v.n (u.item k).v.c, .slice (u.item k).p (u.item k).n (u.item k).c]] rfl _ (HC.out _ (Below.refl _ _).drew) (fun e w4 h4 => ?_)
      obtain ⟨rfl, hb4⟩ := h4
      refine ⟨_, rfl, ?_⟩
      have HB4 : Hid (Below wr.heap.size wr w4) := (Below.refl wr.heap.size wr).drew.trans hb4
      clear hb4
      go_simp
      refine hK1 _ _ (fun h => by cases h) ?_
      clear hK1 K1
      refine wpPre_e rfl rfl (fun K1 hK1 => ?_)
      apply Exists.intro
      refine And.intro (fun wx hx => ?_) ?_
      · go_simp
        try rfl
      go_simp
      refine hK1 _ ?_
      clear hK1 K1
      refine wpPre_nil ?_
      refine wpTr_done ?_
      go_wp2
      go_roundw
      case rel => exact ⟨k + 1, by omega, by go_num, HB2.out.trans (HB4.out.mono HB2.out.size)⟩
      case measure => simp [intOf]; omega
    · obtain rfl : k = l.n := by omega
      clear hbel
      go_wp2
      exact bodyPost_ret (v := .bool true) (by simp [results, Try.results12, go_sem]) rfl ⟨rfl, HB2.out⟩
/-- two items are alike -/
structure IT.Alike (x y : IT) : Prop where
  m : y.mark = x.mark
  r : RT.Alike x.r y.r
set_option maxRecDepth 60000 in
set_option maxHeartbeats 4000000 in
theorem sameItem_yes (x y : IT) (w : World) (S R : Nat → Prop) (hx : IT.In w S x) (hy : IT.In w R y) (ha : IT.Alike x y) :
    Calls Try.prog 19 #[.agg #[.int .i64 x.mark, .string x.r.key, .int .i64 x.r.v.kind, .int .i64 x.r.v.int, .string x.r.v.text, .slice x.r.v.p x.r.v.n x.r.v.c, .slice x.r.p x.r.n x.r.c], .agg #[.int .i64 y.mark, .string y.r.key, .int .i64 y.r.v.kind, .int .i64 y.r.v.int, .string y.r.v.text, .slice y.r.v.p y.r.v.n y.r.v.c, .slice y.r.p y.r.n y.r.c]] w fun e w' => e = .returned (.bool true) ∧ Below w.heap.size w w' := by
  have hT := TwoK.start w #[.int .i64 x.mark, .string x.r.key, .int .i64 x.r.v.kind, .int .i64 x.r.v.int, .string x.r.v.text, .slice x.r.v.p x.r.v.n x.r.v.c, .slice x.r.p x.r.n x.r.c] #[.int .i64 y.mark, .string y.r.key, .int .i64 y.r.v.kind, .int .i64 y.r.v.int, .string y.r.v.text, .slice y.r.v.p y.r.v.n y.r.v.c, .slice y.r.p y.r.n y.r.c] 35
  rw [show y.mark = x.mark from ha.m] at hT ⊢
  obtain ⟨W, hW⟩ : ∃ W, W = (w.alloc (.cells #[.int .i64 x.mark, .string x.r.key, .int .i64 x.r.v.kind, .int .i64 x.r.v.int, .string x.r.v.text, .slice x.r.v.p x.r.v.n x.r.v.c, .slice x.r.p x.r.n x.r.c] 35)).alloc (.cells #[.int .i64 x.mark, .string y.r.key, .int .i64 y.r.v.kind, .int .i64 y.r.v.int, .string y.r.v.text, .slice y.r.v.p y.r.v.n y.r.v.c, .slice y.r.p y.r.n y.r.c] 35) := ⟨_, rfl⟩
  rw [← hW] at hT
  have HC := hid (sameRec_yes x.r y.r W S R (hx.r.below hT.bel) (hy.r.below hT.bel) ha.r)
  have HT := hid hT
  have HW := hid hW
  have z0 := hT.ba.cell 0
  have y0 := hT.bb.cell 0
  have z1 := hT.ba.cell 1
  have y1 := hT.bb.cell 1
  have z2 := hT.ba.cell 2
  have y2 := hT.bb.cell 2
  have z3 := hT.ba.cell 3
  have y3 := hT.bb.cell 3
  have z4 := hT.ba.cell 4
  have y4 := hT.bb.cell 4
  have z5 := hT.ba.cell 5
  have y5 := hT.bb.cell 5
  have z6 := hT.ba.cell 6
  have y6 := hT.bb.cell 6
  simp at z0 z1 z2 z3 z4 z5 z6 y0 y1 y2 y3 y4 y5 y6
  clear hx hy ha hT hW
  go_enter Try.func19, Try.ntmps19
  go_upto_region 1 with fail
  rw [← HW.out]
  go_wp2_with fail
  refine HC.out.mono ?_
  rintro e w1 ⟨rfl, hb1⟩
  have HB1 := hid (HT.out.bel.trans (hb1.mono HT.out.bel.size))
  clear hb1
  go_wp2
  exact bodyPost_ret (v := .bool true) (by simp [results, Try.results19, go_sem]) rfl ⟨rfl, HB1.out⟩
end Go.Proofs.Ytpldokahoamdpaa

namespace Go.Proofs.Ytpldokahoamdpaa
open Go.RowKit
set_option maxRecDepth 8000

theorem szOk_any (w : World) (b : Nat) (l : Int) (hb : Box w b #[.int .i64 l] 104) :
    Calls Try.prog 28 #[.pointer (some ⟨b, 0, none⟩)] w fun e w' => e = .returned (.bool (decide (0 ≤ l))) ∧ w' = w := by
  have hc : w.cell? ⟨b, 0, none⟩ = some (.int .i64 l) := hb.cell 0
  go_enter Try.func28, Try.ntmps28
  go_wp2
  go_ret
  exact ⟨by simp, rfl⟩

theorem szAdd_pos (w : World) (b : Nat) (l n : Int) (hb : Box w b #[.int .i64 l] 104) (hl : 0 ≤ l) (hl2 : l ≤ 10000) (hn : 0 ≤ n) (hn2 : n ≤ 281474976710656) :
    Calls Try.prog 72 #[.pointer (some ⟨b, 0, none⟩), .int .i64 n] w fun e w' => e = .returned (.bool (decide (0 ≤ l - n))) ∧ Box w' b #[.int .i64 (l - n)] 104 ∧ But (fun k => k = b) w w' := by
  have hc : w.cell? ⟨b, 0, none⟩ = some (.int .i64 l) := hb.cell 0
  have hf : w.frozen? ⟨b, 0, none⟩ = false := hb.frozen 0
  have hlt := hb.lt
  have H1 : Hid (Box (w.setCell ⟨b, 0, none⟩ (.int .i64 (l - n))) b #[.int .i64 (l - n)] 104) := by
    have := hb.set 0 (.int .i64 (l - n)); unfold Hid; simpa using this
  have H2 : Hid (But (fun k => k = b) w (w.setCell ⟨b, 0, none⟩ (.int .i64 (l - n)))) := by
    unfold Hid; exact (But.refl (fun k => k = b) w).setCell (p := ⟨b, 0, none⟩) (fun _ => rfl) _
  clear hb
  go_enter Try.func72, Try.ntmps72
  go_wp2
  go_ret
  exact ⟨by simp, H1.out, H2.out⟩

theorem szAdd_neg (w : World) (b : Nat) (l n : Int) (hb : Box w b #[.int .i64 l] 104) (hl : l < 0) :
    Calls Try.prog 72 #[.pointer (some ⟨b, 0, none⟩), .int .i64 n] w fun e w' => e = .returned (.bool false) ∧ w' = w := by
  have hc : w.cell? ⟨b, 0, none⟩ = some (.int .i64 l) := hb.cell 0
  clear hb
  go_enter Try.func72, Try.ntmps72
  go_wp2
  go_ret
  exact ⟨by simp; assumption, rfl⟩

/-- what the count says of the parts below t: it was l ahead of them and is m behind them -/
structure Told (l m : Int) (total : Nat) : Prop where
  ok : 0 ≤ m → 0 ≤ l ∧ m = l - total
  le : m ≤ l
  low : -1000000000000000 ≤ m

set_option maxHeartbeats 1000000 in
theorem szValues_any (t : VT) : ∀ (w : World) (S : Nat → Prop) (b : Nat) (l : Int), VT.In w S t → ¬ S b → Box w b #[.int .i64 l] 104 → 0 ≤ l → l ≤ 10000 →
    Calls Try.prog 73 #[.pointer (some ⟨b, 0, none⟩), t.row] w fun e w' => e = .returned (.tuple #[]) ∧ ∃ m, Box w' b #[.int .i64 m] 104 ∧ Told l m t.total ∧ But (fun k => k = b) w w' := by
  induction t with
  | nil => intro w S b l hin; exact hin.elim
  | mk k i s n p c f ih =>
    intro w S b l hin hS hb hl hl2
    have hfit := hin.fit
    have hcc := hfit.nn
    simp only [VT.n] at hcc
    have HT : Hid (∀ j, VT.upto (.mk k i s n p c f) (j + 1) = VT.upto (.mk k i s n p c f) j + (f j).total) := fun j => VT.upto_succ _ j
    have HE : Hid ((VT.mk k i s n p c f).total = n + VT.upto (.mk k i s n p c f) n) := VT.total_upto _
    have HA := szAdd_pos w b l (n : Int) hb hl hl2 (by omega) (by omega)
    simp only [VT.row, VT.p, VT.n, VT.c]
    clear hb
    go_enter Try.func73, Try.ntmps73
    go_wp2_with (go_at_call 72; refine HA.mono ?_; rintro e w1 ⟨rfl, hb1, hk1⟩)
    have HI : Hid (VT.In w S (.mk k i s n p c f)) := hin
    clear hin hfit HA
    go_loopw [4] (fun x wr => ∃ j : Nat, j ≤ n ∧ x = .int .i64 j ∧ ∃ m : Int, Box wr b #[.int .i64 m] 104 ∧ Told l m (n + VT.upto (.mk k i s n p c f) j) ∧ But (fun k => k = b) w wr) (fun x _ => n - (intOf x).toNat)
    case atStart => exact ⟨0, Nat.zero_le _, rfl, l - n, hb1, ⟨fun h => ⟨hl, by simp [VT.upto]⟩, by omega, by omega⟩, hk1⟩
    case round =>
      obtain ⟨j, hj, rfl, m, hbm, htold, hkm⟩ := hrel
      clear hb1 hk1
      have HO := szOk_any wr b m hbm
      by_cases hlt : j < n
      · have hlt' : (j : Int) < (n : Int) := by omega
        by_cases hm : 0 ≤ m
        · have hd : decide (0 ≤ m) = true := decide_eq_true hm
          rw [hd] at HO
          obtain ⟨bb, o, hp, hSb, hbl, hat⟩ := HI.out.at_ (show 0 < (VT.mk k i s n p c f).n from by simp only [VT.n]; omega)
          simp only [VT.p] at hp
          subst hp
          have hne : bb ≠ b := fun e => hS (e ▸ hSb)
          have c3 := ((hat j hlt).kept (hkm.block bb hbl hne)).c3
          simp only [VT.item] at c3
          have HC : Hid (Calls Try.prog 73 #[.pointer (some ⟨b, 0, none⟩), (f j).row] wr fun e w' => e = .returned (.tuple #[]) ∧ ∃ m', Box w' b #[.int .i64 m'] 104 ∧ Told m m' (f j).total ∧ But (fun k => k = b) wr w') :=
            ih j wr S b m ((HI.out.sub hlt).but hkm (fun x hx _ e => hS (e ▸ hx))) hS hbm hm (by have := htold.le; omega)
          unfold VT.row at HC
          clear hat
          go_wp2_with (first | (go_at_call 28; refine HO.mono ?_; rintro e w2 ⟨rfl, rfl⟩) | (go_at_call 73; refine HC.out.mono ?_; rintro e w3 ⟨rfl, m', hb3, ht3, hk3⟩))
          go_roundw
          case rel =>
            have hu := HT.out j
            refine ⟨j + 1, by omega, by go_num, m', hb3, ⟨fun h => ?_, ?_, ?_⟩, hkm.trans hk3⟩
            · have a1 := ht3.ok h
              have a2 := htold.ok hm
              refine ⟨a2.1, ?_⟩
              rw [hu]; omega
            · have a1 := ht3.le
              have a2 := htold.le
              omega
            · exact ht3.low
          case measure => simp [intOf]; omega
        · have hd : decide (0 ≤ m) = false := decide_eq_false hm
          rw [hd] at HO
          go_wp2_with (go_at_call 28; refine HO.mono ?_; rintro e w2 ⟨rfl, rfl⟩)
          go_end0
          exact ⟨rfl, m, hbm, ⟨fun h => absurd h (by omega), htold.le, htold.low⟩, hkm⟩
      · obtain rfl : j = n := by omega
        go_wp2_with fail
        go_end0
        refine ⟨rfl, m, hbm, ?_, hkm⟩
        rw [HE.out]
        exact htold

end Go.Proofs.Ytpldokahoamdpaa
