import Derived.Test.YtpldokahoamdpaaPack25
namespace Go.Proofs.Ytpldokahoamdpaa
open Go.RowKit Go.Conc
set_option maxRecDepth 8000
set_option maxRecDepth 60000 in
set_option maxHeartbeats 4000000 in
theorem sameItems_yes (l u : LT IT) (w : World) (S R : Nat → Prop) (hl : LT.In elItem w S l) (hu : LT.In elItem w R u) (hn : u.n = l.n) (ha : ∀ j, j < l.n → IT.Alike (l.item j) (u.item j)) :
    Calls Try.prog 44 #[.slice l.p l.n l.c, .slice u.p u.n u.c] w fun e w' => e = .returned (.bool true) ∧ Below w.heap.size w w' := by
  have hnn := hl.nn
  have HL := hid hl
  have HU := hid hu
  have HA := hid ha
  rw [hn]
  have HN := hid hn
  clear hl hu ha hn
  go_enter Try.func44, Try.ntmps44
  go_wp2_with fail
  go_loopw [5] (fun x wr => ∃ k : Nat, k ≤ l.n ∧ x = .int .i64 k ∧ Below w.heap.size w wr) (fun x _ => l.n - (intOf x).toNat)
  case atStart => exact ⟨0, Nat.zero_le _, rfl, Below.refl _ _⟩
  case round =>
    obtain ⟨k, hk, rfl, hbel⟩ := hrel
    have HB2 := hid hbel
    have hs1 := hbel.size
    by_cases hlt : k < l.n
    · have hlt' : (k : Int) < (l.n : Int) := by omega
      obtain ⟨b1, o1, hp, hS1, hl1, ha1⟩ := HL.out.at_ (by omega)
      obtain ⟨b2, o2, hp', hS2, hl2, ha2⟩ := HU.out.at_ (by have := HN.out; omega)
      rw [hp, hp']
      have hc1 : ∀ r u', (elItem.cells (l.item k))[r]? = some u' → wr.cell? ⟨b1, o1 + k * 7 + r, none⟩ = some u' := fun r u' hu' => (World.cell?_of_block (a := ⟨b1, o1 + k * 7 + r, none⟩) (hbel.block b1 hl1)).trans (ha1 k hlt r u' hu')
      have hc2 : ∀ r u', (elItem.cells (u.item k))[r]? = some u' → wr.cell? ⟨b2, o2 + k * 7 + r, none⟩ = some u' := fun r u' hu' => (World.cell?_of_block (a := ⟨b2, o2 + k * 7 + r, none⟩) (hbel.block b2 hl2)).trans (ha2 k (by have := HN.out; omega) r u' hu')
      have d0 : wr.cell? ⟨b1, o1 + k * 7, none⟩ = some (.int .i64 (l.item k).mark) := hc1 0 _ rfl
      have f0 : wr.cell? ⟨b2, o2 + k * 7, none⟩ = some (.int .i64 (u.item k).mark) := hc2 0 _ rfl
      have d1 := hc1 1 _ rfl
      have f1 := hc2 1 _ rfl
      have d2 := hc1 2 _ rfl
      have f2 := hc2 2 _ rfl
      have d3 := hc1 3 _ rfl
      have f3 := hc2 3 _ rfl
      have d4 := hc1 4 _ rfl
      have f4 := hc2 4 _ rfl
      have d5 := hc1 5 _ rfl
      have f5 := hc2 5 _ rfl
      have d6 := hc1 6 _ rfl
      have f6 := hc2 6 _ rfl
      have HC : Hid (∀ W, Below wr.heap.size wr W → Calls Try.prog 19 #[.agg #[.int .i64 (l.item k).mark, .string (l.item k).r.key, .int .i64 (l.item k).r.v.kind, .int .i64 (l.item k).r.v.int, .string (l.item k).r.v.text, .slice (l.item k).r.v.p (l.item k).r.v.n (l.item k).r.v.c, .slice (l.item k).r.p (l.item k).r.n (l.item k).r.c], .agg #[.int .i64 (u.item k).mark, .string (u.item k).r.key, .int .i64 (u.item k).r.v.kind, .int .i64 (u.item k).r.v.int, .string (u.item k).r.v.text, .slice (u.item k).r.v.p (u.item k).r.v.n (u.item k).r.v.c, .slice (u.item k).r.p (u.item k).r.n (u.item k).r.c]] W fun e w' => e = .returned (.bool true) ∧ Below W.heap.size W w') := fun W hW => sameItem_yes (l.item k) (u.item k) W _ _ (IT.In.below (IT.In.kept ((HL.out.each k hlt : IT.In w S (l.item k))) hs1 fun b _ hb => HB2.out.block b hb) hW) (IT.In.below (IT.In.kept ((HU.out.each k (by have := HN.out; omega) : IT.In w R (u.item k))) hs1 fun b _ hb => HB2.out.block b hb) hW) (HA.out k hlt)
      clear hc1 hc2 ha1 ha2 hbel
      go_wp2_with fail
      refine wp_region_calmE 30 (fun wx => Below wr.heap.size wr wx) [(0, true), (1, true), (2, true), (3, false), (4, true), (5, true), (6, true), (7, false)] (.one 8 false [(9, true)] .done) (by kernel_rfl) (by kernel_rfl) (Below.refl _ _).drew ?_
      refine wpPre_e rfl rfl (fun K1 hK1 => ?_)
      apply Exists.intro
      refine And.intro (fun wx hx => ?_) ?_
      · go_simp
        try rfl
      go_simp
      refine hK1 _ ?_
      clear hK1 K1
      refine wpPre_e rfl rfl (fun K1 hK1 => ?_)
      apply Exists.intro
      refine And.intro (fun wx hx => ?_) ?_
      · go_simp
        try rfl
      go_simp
      refine hK1 _ ?_
      clear hK1 K1
      refine wpPre_e rfl rfl (fun K1 hK1 => ?_)
      apply Exists.intro
      refine And.intro (fun wx hx => ?_) ?_
      · go_simp
        try rfl
      go_simp
      refine hK1 _ ?_
      clear hK1 K1
      refine wpPre_e rfl rfl (fun K1 hK1 => ?_)
      apply Exists.intro
      refine And.intro (fun wx hx => ?_) ?_
      · have e0 := below_fact hx rfl d0
        have e1 := below_fact hx rfl d1
        have e2 := below_fact hx rfl d2
        have e3 := below_fact hx rfl d3
        have e4 := below_fact hx rfl d4
        have e5 := below_fact hx rfl d5
        have e6 := below_fact hx rfl d6
        have e7 := below_fact hx rfl f0
        have e8 := below_fact hx rfl f1
        have e9 := below_fact hx rfl f2
        have e10 := below_fact hx rfl f3
        have e11 := below_fact hx rfl f4
        have e12 := below_fact hx rfl f5
        have e13 := below_fact hx rfl f6
        go_simp
        try rfl
      go_simp
      refine hK1 _ ?_
      clear hK1 K1
      refine wpPre_e rfl rfl (fun K1 hK1 => ?_)
      apply Exists.intro
      refine And.intro (fun wx hx => ?_) ?_
      · go_simp
        try rfl
      go_simp
      refine hK1 _ ?_
      clear hK1 K1
      refine wpPre_e rfl rfl (fun K1 hK1 => ?_)
      apply Exists.intro
      refine And.intro (fun wx hx => ?_) ?_
      · go_simp
        try rfl
      go_simp
      refine hK1 _ ?_
      clear hK1 K1
      refine wpPre_e rfl rfl (fun K1 hK1 => ?_)
      apply Exists.intro
      refine And.intro (fun wx hx => ?_) ?_
      · go_simp
        try rfl
      go_simp
      refine hK1 _ ?_
      clear hK1 K1
      refine wpPre_e rfl rfl (fun K1 hK1 => ?_)
      apply Exists.intro
      refine And.intro (fun wx hx => ?_) ?_
      · have e0 := below_fact hx rfl d0
        have e1 := below_fact hx rfl d1
        have e2 := below_fact hx rfl d2
        have e3 := below_fact hx rfl d3
        have e4 := below_fact hx rfl d4
        have e5 := below_fact hx rfl d5
        have e6 := below_fact hx rfl d6
        have e7 := below_fact hx rfl f0
        have e8 := below_fact hx rfl f1
        have e9 := below_fact hx rfl f2
        have e10 := below_fact hx rfl f3
        have e11 := below_fact hx rfl f4
        have e12 := below_fact hx rfl f5
        have e13 := below_fact hx rfl f6
        go_simp
        try rfl
      go_simp
      refine hK1 _ ?_
      clear hK1 K1
      refine wpPre_nil ?_
      refine wpTr_e rfl (fun K1 hK1 => ?_)
      refine step_call rfl 19 #[.tmp 20, .tmp 24] _ rfl Try.f19 Try.func19 (by kernel_rfl) rfl #[.agg #[.int .i64 (l.item k).mark, .string (l.item k).r.key, .int .i64 (l.item k).r.v.kind, .int .i64 (l.item k).r.v.int, .string (l.item k).r.v.text, .slice (l.item k).r.v.p (l.item k).r.v.n (l.item k).r.v.c, .slice (l.item k).r.p (l.item k).r.n (l.item k).r.c], .agg #[.int .i64 (u.item k).mark, .string (u.item k).r.key, .int .i64 (u.item k).r.v.kind, .int .i64 (u.item k).r.v.int, .string (u.item k).r.v.text, .slice (u.item k).r.v.p (u.item k).r.v.n (u.item k).r.v.c, .slice (u.item k).r.p (u.item k).r.n (u.item k).r.c]] rfl _ (HC.out _ (Below.refl _ _).drew) (fun e w4 h4 => ?_)
      obtain ⟨rfl, hb4⟩ := h4
      refine ⟨_, rfl, ?_⟩
      have HB4 : Hid (Below wr.heap.size wr w4) := (Below.refl wr.heap.size wr).drew.trans hb4
      clear hb4
      go_simp
      refine hK1 _ _ (fun h => by cases h) ?_
      clear hK1 K1
      refine wpPre_e rfl rfl (fun K1 hK1 => ?_)
      apply Exists.intro
      refine And.intro (fun wx hx => ?_) ?_
      · go_simp
        try rfl
      go_simp
      refine hK1 _ ?_
      clear hK1 K1
      refine wpPre_nil ?_
      refine wpTr_done ?_
      go_wp2
      go_roundw
      case rel => exact ⟨k + 1, by omega, by go_num, HB2.out.trans (HB4.out.mono HB2.out.size)⟩
      case measure => simp [intOf]; omega
    · obtain rfl : k = l.n := by omega
      clear hbel
      go_wp2
      exact bodyPost_ret (v := .bool true) (by simp [results, Try.results44, go_sem]) rfl ⟨rfl, HB2.out⟩
set_option maxRecDepth 60000 in
set_option maxHeartbeats 4000000 in
/-- copyItems -/
theorem copyItems_any (l : LT IT) (w : World) (S : Nat → Prop) (hin : LT.In elItem w S l) (hn1 : l.n ≤ 10000) (hs : ∀ j, j < l.n → (l.item j).r.size ≤ 10000) :
    Calls Try.prog 42 #[.slice l.p l.n l.c] w fun e w' => ∃ u : LT IT, e = .returned (.slice u.p u.n u.c) ∧ LAlk IT.Alike l u ∧ LT.In elItem w' (fun b => w.heap.size ≤ b) u ∧ Below w.heap.size w w' := by
  obtain ⟨i0, Kd⟩ := kindIt
  have HKd := hid Kd
  have HI := hid hin
  have HS := hid hs
  clear hin hs Kd
  go_enter Try.func42, Try.ntmps42
  go_wp2_with fail
  go_loopw [3, 4] (fun v x wr => ∃ (k : Nat) (g : Nat → IT), k ≤ l.n ∧ x = .int .i64 (k : Int) ∧ OwnL elItem w.heap.size wr v k g ∧ (∀ q, q < k → IT.Alike (l.item q) (g q)) ∧ Below w.heap.size w wr) (fun _ x _ => l.n - (intOf x).toNat)
  case atStart => exact ⟨0, l.item, Nat.zero_le _, rfl, ⟨World.ownsRow_nil _ _ _ _, fun j hj => absurd hj (by omega)⟩, fun q hq => absurd hq (by omega), Below.refl _ _⟩
  case round =>
    obtain ⟨k, g, hk, rfl, hO, hal, hbel⟩ := hrel
    have HO := hid hO
    have HA := hid hal
    have HB := hid hbel
    clear hO hal hbel
    by_cases hlt : k < l.n
    · have hlt' : (k : Int) < (l.n : Int) := by omega
      obtain ⟨bb, o, hp, hSb, hbb, hat⟩ := HI.out.at_ (by omega)
      rw [hp]
      have hcell : ∀ r u, (elItem.cells (l.item k))[r]? = some u → wr.cell? ⟨bb, o + k * 7 + r, none⟩ = some u := fun r u hu => (World.cell?_of_block (a := ⟨bb, o + k * 7 + r, none⟩) (HB.out.block bb hbb)).trans (hat k hlt r u hu)
      obtain ⟨x, hx⟩ : ∃ x, x = l.item k := ⟨_, rfl⟩
      rw [← hx] at hcell
      have hinx : IT.In wr (fun b => S b ∧ b < w.heap.size) x := by
        rw [hx]
        exact (IT.In.mono (HI.out.each k hlt) fun b hb hl => ⟨hb, hl⟩).kept HB.out.size (fun b hb _ => HB.out.block b hb.2)
      have e0 : wr.cell? ⟨bb, o + k * 7, none⟩ = some (.int .i64 x.mark) := hcell 0 _ rfl
      have e1 : wr.cell? ⟨bb, o + k * 7 + 1, none⟩ = some (.string x.r.key) := hcell 1 _ rfl
      have e2 : wr.cell? ⟨bb, o + k * 7 + 1 + 1, none⟩ = some (.int .i64 x.r.v.kind) := hcell 2 _ rfl
      have e3 : wr.cell? ⟨bb, o + k * 7 + 1 + 2, none⟩ = some (.int .i64 x.r.v.int) := hcell 3 _ rfl
      have e4 : wr.cell? ⟨bb, o + k * 7 + 1 + 3, none⟩ = some (.string x.r.v.text) := hcell 4 _ rfl
      have e5 : wr.cell? ⟨bb, o + k * 7 + 1 + 4, none⟩ = some (.slice x.r.v.p x.r.v.n x.r.v.c) := hcell 5 _ rfl
      have e6 : wr.cell? ⟨bb, o + k * 7 + 1 + 5, none⟩ = some (.slice x.r.p x.r.n x.r.c) := hcell 6 _ rfl
      have HC : Hid (∀ W, Below wr.heap.size wr W → Calls Try.prog 61 #[.agg #[.string x.r.key, .int .i64 x.r.v.kind, .int .i64 x.r.v.int, .string x.r.v.text, .slice x.r.v.p x.r.v.n x.r.v.c, .slice x.r.p x.r.n x.r.c]] W fun e w' => ∃ u : RT, e = .returned (.agg #[.string u.key, .int .i64 u.v.kind, .int .i64 u.v.int, .string u.v.text, .slice u.v.p u.v.n u.v.c, .slice u.p u.n u.c]) ∧ RT.Alike x.r u ∧ RT.In w' (fun b => W.heap.size ≤ b) u ∧ Below W.heap.size W w') := fun W hW => rr5 x.r W _ (hinx.r.below hW) (by rw [hx]; exact HS.out k hlt)
      have HXk := hid hx
      have HXi := hid hinx
      clear hcell hat hx hinx
      go_upto_region 5 with fail
      refine wp_region_calmE 30 (fun wx => Below wr.heap.size wr wx) [(0, true), (1, true), (2, true), (3, true), (4, true), (5, false), (6, true), (7, true), (8, true), (9, true), (10, false)] (.one 11 true [(12, true)] (.one 13 true [] (.one 14 false [(15, true)] .done))) (by kernel_rfl) (by kernel_rfl) (Below.refl _ _).drew ?_
      refine wpPre_e rfl rfl (fun K1 hK1 => ?_)
      apply Exists.intro
      refine And.intro (fun wx hx => ?_) ?_
      · go_simp
        try rfl
      go_simp
      refine hK1 _ ?_
      clear hK1 K1
      refine wpPre_e rfl rfl (fun K1 hK1 => ?_)
      apply Exists.intro
      refine And.intro (fun wx hx => ?_) ?_
      · go_simp
        try rfl
      go_simp
      refine hK1 _ ?_
      clear hK1 K1
      refine wpPre_e rfl rfl (fun K1 hK1 => ?_)
      apply Exists.intro
      refine And.intro (fun wx hx => ?_) ?_
      · go_simp
        try rfl
      go_simp
      refine hK1 _ ?_
      clear hK1 K1
      refine wpPre_e rfl rfl (fun K1 hK1 => ?_)
      apply Exists.intro
      refine And.intro (fun wx hx => ?_) ?_
      · go_simp
        try rfl
      go_simp
      refine hK1 _ ?_
      clear hK1 K1
      refine wpPre_e rfl rfl (fun K1 hK1 => ?_)
      apply Exists.intro
      refine And.intro (fun wx hx => ?_) ?_
      · go_simp
        try rfl
      go_simp
      refine hK1 _ ?_
      clear hK1 K1
      refine wpPre_e rfl rfl (fun K1 hK1 => ?_)
      apply Exists.intro
      refine And.intro (fun wx hx => ?_) ?_
      · have e0 := below_fact hx rfl e0
        have e1 := below_fact hx rfl e1
        have e2 := below_fact hx rfl e2
        have e3 := below_fact hx rfl e3
        have e4 := below_fact hx rfl e4
        have e5 := below_fact hx rfl e5
        have e6 := below_fact hx rfl e6
        go_simp
        try rfl
      go_simp
      refine hK1 _ ?_
      clear hK1 K1
      refine wpPre_e rfl rfl (fun K1 hK1 => ?_)
      apply Exists.intro
      refine And.intro (fun wx hx => ?_) ?_
      · go_simp
        try rfl
      go_simp
      refine hK1 _ ?_
      clear hK1 K1
      refine wpPre_e rfl rfl (fun K1 hK1 => ?_)
      apply Exists.intro
      refine And.intro (fun wx hx => ?_) ?_
      · go_simp
        try rfl
      go_simp
      refine hK1 _ ?_
      clear hK1 K1
      refine wpPre_e rfl rfl (fun K1 hK1 => ?_)
      apply Exists.intro
      refine And.intro (fun wx hx => ?_) ?_
      · go_simp
        try rfl
      go_simp
      refine hK1 _ ?_
      clear hK1 K1
      refine wpPre_e rfl rfl (fun K1 hK1 => ?_)
      apply Exists.intro
      refine And.intro (fun wx hx => ?_) ?_
      · go_simp
        try rfl
      go_simp
      refine hK1 _ ?_
      clear hK1 K1
      refine wpPre_e rfl rfl (fun K1 hK1 => ?_)
      apply Exists.intro
      refine And.intro (fun wx hx => ?_) ?_
      · have e0 := below_fact hx rfl e0
        have e1 := below_fact hx rfl e1
        have e2 := below_fact hx rfl e2
        have e3 := below_fact hx rfl e3
        have e4 := below_fact hx rfl e4
        have e5 := below_fact hx rfl e5
        have e6 := below_fact hx rfl e6
        go_simp
        try rfl
      go_simp
      refine hK1 _ ?_
      clear hK1 K1
      refine wpPre_nil ?_
      refine wpTr_e rfl (fun K1 hK1 => ?_)
      refine step_call rfl 61 #[.tmp 21] _ rfl Try.f61 Try.func61 (by kernel_rfl) rfl #[.agg #[.string x.r.key, .int .i64 x.r.v.kind, .int .i64 x.r.v.int, .string x.r.v.text, .slice x.r.v.p x.r.v.n x.r.v.c, .slice x.r.p x.r.n x.r.c]] rfl _ (HC.out _ (Below.refl _ _).drew) (fun e w2 h4 => ?_)
      obtain ⟨u, rfl, hal2, hin2, hb2_⟩ := h4
      refine ⟨_, rfl, ?_⟩
      have hb2 : Below wr.heap.size wr w2 := (Below.refl wr.heap.size wr).drew.trans hb2_
      have hin2 : RT.In w2 (fun b => wr.heap.size ≤ b) u := hin2
      go_simp
      refine hK1 _ _ (fun _ => hb2) ?_
      clear hK1 K1 hb2_
      refine wpPre_e rfl rfl (fun K1 hK1 => ?_)
      apply Exists.intro
      refine And.intro (fun wx hx => ?_) ?_
      · go_simp
        try rfl
      go_simp
      refine hK1 _ ?_
      clear hK1 K1
      refine wpPre_nil ?_
      have hO2 := HO.out.keep hb2.size (fun k _ hl => hb2.block k hl)
      have hu2 : elItem.In w2 (fun b => w.heap.size ≤ b ∧ u3.ownBlock ≠ some b) ⟨x.mark, u⟩ := ⟨hin2.mono fun b hb _ => ⟨Nat.le_trans HB.out.size hb, fun e => by have := (HO.out.own.lt b e).2; omega⟩, HXi.out.m0, HXi.out.m1⟩
      have hsz : w.heap.size ≤ w2.heap.size := Nat.le_trans HB.out.size hb2.size
      have H2 := hid (And.intro hO2 (And.intro hu2 (And.intro hal2 (HB.out.trans (hb2.mono HB.out.size)))))
      refine wpTr_e rfl (fun K1 hK1 => ?_)
      go_simp
      have ha : Below w2.heap.size w2 (w2.alloc (.cells #[.int .i64 x.mark, .string u.key, .int .i64 u.v.kind, .int .i64 u.v.int, .string u.v.text, .slice u.v.p u.v.n u.v.c, .slice u.p u.n u.c] 35)) := (Below.refl _ _).alloc (Nat.le_refl _) _
      refine hK1 _ _ (fun _ => hb2.trans (ha.mono hb2.size)) ?_
      clear hK1 K1
      refine wpPre_nil ?_
      have HAl := hid ha
      have HNw : Hid (∀ j u', (elItem.cells ⟨x.mark, u⟩)[j]? = some u' → (w2.alloc (.cells #[.int .i64 x.mark, .string u.key, .int .i64 u.v.kind, .int .i64 u.v.int, .string u.v.text, .slice u.v.p u.v.n u.v.c, .slice u.p u.n u.c] 35)).cell? ((⟨w2.heap.size, 0, none⟩ : Addr).add j) = some u') := fun j u' hu => by
        rw [Go.WideShapes.add_plain, (Box.new w2 #[.int .i64 x.mark, .string u.key, .int .i64 u.v.kind, .int .i64 u.v.int, .string u.v.text, .slice u.v.p u.v.n u.v.c, .slice u.p u.n u.c] 35).cell]
        rw [show 0 + j = j by omega]
        simpa [elItem, IT.cells] using hu
      clear hO2 hu2 hal2 hin2 hb2 ha HC e0 e1 e2 e3 e4 e5 e6
      refine wpTr_e rfl (fun K1 hK1 => ?_)
      refine step_app rfl (.tmp 11) (.tmp 24) 22 35 i0 _ 7 104 HKd.out rfl w.heap.size u3 k _ rfl (H2.out.1.own.alloc _) ⟨w2.heap.size, 0, none⟩ 1 1 (elItem.cells ⟨x.mark, u⟩) rfl rfl HNw.out (elItem.one _) (by omega) (by omega) (by simp; omega) ?_
      intro v3 w3 ho3 hg3 hn3
      obtain ⟨hO2, hu2, hal2, hbel2⟩ := H2.out
      have HO3 := hid ((hO2.keep HAl.out.size (fun k _ hl => HAl.out.block k hl)).push (IT.In.below hu2 HAl.out) ho3 hg3 hn3)
      have HB3 : Hid (Below w.heap.size w w3) := (hbel2.trans (HAl.out.mono hsz)).grown hg3 (by simp; omega) (fun k hk => (hO2.own.lt k hk).1)
      have HA3 : Hid (∀ q, q < k + 1 → IT.Alike (l.item q) (if q < k then g q else ⟨x.mark, u⟩)) := by
        intro q hq
        by_cases hqk : q < k
        · rw [if_pos hqk]; exact HA.out q hqk
        · rw [if_neg hqk]
          obtain rfl : q = k := by omega
          rw [← HXk.out]
          exact ⟨rfl, hal2⟩
      clear ho3 hg3 hn3 hO2 hu2 hal2 hbel2 H2 HAl HNw
      go_simp
      refine hK1 _ _ (fun h => by cases h) ?_
      clear hK1 K1
      refine wpPre_e rfl rfl (fun K1 hK1 => ?_)
      apply Exists.intro
      refine And.intro (fun wx hx => ?_) ?_
      · go_simp
        try rfl
      go_simp
      refine hK1 _ ?_
      clear hK1 K1
      refine wpPre_nil ?_
      refine wpTr_done ?_
      go_wp2
      go_roundw
      case rel => exact ⟨k + 1, _, by omega, by go_num, HO3.out, HA3.out, HB3.out⟩
      case measure => simp [intOf]; omega
    · obtain rfl : k = l.n := by omega
      have hlt' : ¬ (l.n : Int) < (l.n : Int) := by omega
      obtain ⟨p3, c3, hv, hL⟩ := HO.out.in_ (by omega)
      have HL := hid hL
      subst hv
      clear hL
      go_wp2
      refine bodyPost_ret (v := .slice p3 l.n c3) (by simp [results, Try.results42, go_sem]) rfl ⟨⟨p3, l.n, c3, g⟩, rfl, ⟨rfl, HA.out⟩, HL.out, HB.out⟩
end Go.Proofs.Ytpldokahoamdpaa

namespace Go.Proofs.Ytpldokahoamdpaa
open Go.RowKit Go.Conc
set_option maxRecDepth 8000
theorem RT.Alike.tr {a b c : RT} (h : RT.Alike a b) (k : RT.Alike b c) : RT.Alike a c := ⟨k.key.trans h.key, h.v.trans k.v, k.n.trans h.n, fun q hq => (k.loop q (by rw [h.n]; exact hq)).trans (h.loop q hq)⟩
theorem RT.Alike.rfl_ (a : RT) : RT.Alike a a := ⟨rfl, VT.Alike.refl _, rfl, fun _ _ => rfl⟩
theorem RT.Alike.sy {a b : RT} {w : World} {S : Nat → Prop} (h : RT.Alike a b) (hi : RT.In w S b) : RT.Alike b a := RT.Alike.two (t := a) h (RT.Alike.rfl_ a) hi
/-- copies of two that are alike are alike -/
theorem CopyI.pair {x y u v : IT} {w : World} {S : Nat → Prop} (h : CopyI x u) (k : CopyI y v) (ha : IT.Alike x y) (hu : IT.In w S u) : IT.Alike u v := by
  refine ⟨by rw [h.m, k.m, ha.m], ?_⟩
  by_cases h0 : x.mark = 0
  · have h1 := h.r h0
    have h2 := k.r (by rw [ha.m]; exact h0)
    exact (h1.sy hu.r).tr (ha.r.tr h2)
  · rw [h.z h0, k.z (by rw [ha.m]; exact h0)]
    exact RT.Alike.rfl_ _
theorem CopyI.self {x u : IT} (h : CopyI x u) (hf : IT.Fine x) : IT.Alike x u := by
  refine ⟨h.m, ?_⟩
  by_cases h0 : x.mark = 0
  · exact h.r h0
  · rw [h.z h0, hf.z h0]; exact RT.Alike.rfl_ _
/-- alike item by item -/
inductive Als : List IT → List IT → Prop where
  | nil : Als [] []
  | cons {x u : IT} {xs us : List IT} : IT.Alike x u → Als xs us → Als (x :: xs) (u :: us)
theorem Als.len {F us : List IT} (h : Als F us) : us.length = F.length := by
  induction h with
  | nil => rfl
  | cons _ _ ih => simp [ih]
theorem Als.nR {F us : List IT} (h : Als F us) : nR us = Go.Proofs.Ytpldokahoamdpaa.nR F := by
  induction h with
  | nil => rfl
  | @cons x u xs us ha _ ih =>
    by_cases h0 : x.mark = 0
    · rw [nR_cons0 _ h0, nR_cons0 _ (by rw [ha.m]; exact h0), ih]
    · rw [nR_cons1 _ h0, nR_cons1 _ (by rw [ha.m]; exact h0), ih]
theorem Als.get {F us : List IT} (h : Als F us) : ∀ {j : Nat} {x : IT}, F[j]? = some x → ∃ u, us[j]? = some u ∧ IT.Alike x u := by
  induction h with
  | nil => intro j x hx; simp at hx
  | cons hc _ ih =>
    intro j x hx
    cases j with
    | zero => simp at hx; subst hx; exact ⟨_, rfl, hc⟩
    | succ j => simp at hx; simpa using ih hx
theorem Als.of_get : ∀ {F us : List IT}, us.length = F.length → (∀ (j : Nat) (x u : IT), F[j]? = some x → us[j]? = some u → IT.Alike x u) → Als F us
  | [], [], _, _ => .nil
  | [], _ :: _, h, _ => by simp at h
  | _ :: _, [], h, _ => by simp at h
  | x :: F, u :: us, h, hc => .cons (hc 0 x u rfl rfl) (Als.of_get (by simpa using h) fun j y v hy hv => hc (j + 1) y v (by simpa using hy) (by simpa using hv))
theorem Als.append {F us G vs : List IT} (h : Als F us) (g : Als G vs) : Als (F ++ G) (us ++ vs) := by
  induction h with
  | nil => exact g
  | cons hc _ ih => exact .cons hc ih
theorem Als.take {F us : List IT} (h : Als F us) : ∀ i, Als (F.take i) (us.take i) := by
  induction h with
  | nil => intro i; simp; exact .nil
  | cons hc _ ih =>
    intro i
    cases i with
    | zero => exact .nil
    | succ i => exact .cons hc (ih i)
theorem Als.drop {F us : List IT} (h : Als F us) : ∀ i, Als (F.drop i) (us.drop i) := by
  induction h with
  | nil => intro i; simp; exact .nil
  | cons hc ht ih =>
    intro i
    cases i with
    | zero => exact .cons hc ht
    | succ i => exact ih i
/-- a lane of the program and one of the reference -/
inductive Pq where
  | op (L : Ln) (R : Rf)
  | sh (room : Int) (R : Rf)
def Pq.C : Pq → Nat → Nat → Nat → Prop
  | .op L R, b, d, k => L.C b k ∨ R.C d k
  | .sh _ R, b, d, k => k = b ∨ R.C d k
def Pq.I (w : World) (Z : Nat → Prop) (b d : Nat) : Pq → Prop
  | .op L R => LnI w (fun k => Z k ∨ R.C d k) b L ∧ RfI w (fun k => Z k ∨ L.C b k) d R ∧ R.shut = false ∧ R.room = L.room ∧ Als L.q R.l.toL
  | .sh room R => (LnS w b room ∧ ¬ Z b ∧ 0 ≤ room) ∧ RfI w (fun k => Z k ∨ k = b) d R ∧ R.shut = true ∧ R.room = room
def Pq.len : Pq → Nat
  | .op L _ => L.q.length
  | .sh _ _ => 0
theorem Pq.c_lt {w : World} {Z : Nat → Prop} {b d : Nat} {s : Pq} (h : s.I w Z b d) {k : Nat} (hk : s.C b d k) : k < w.heap.size := by
  cases s with
  | op L R =>
    rcases hk with e | e
    · exact h.1.c_lt e
    · exact h.2.1.c_lt e
  | sh room R =>
    rcases hk with e | e
    · rw [e]; exact Box.lt h.1.1
    · exact h.2.1.c_lt e
theorem Pq.cz {w : World} {Z : Nat → Prop} {b d : Nat} {s : Pq} (h : s.I w Z b d) {k : Nat} (hk : s.C b d k) : ¬ Z k := by
  cases s with
  | op L R =>
    rcases hk with e | e
    · exact fun hz => h.1.cz k e (.inl hz)
    · exact fun hz => h.2.1.cz k e (.inl hz)
  | sh room R =>
    rcases hk with e | e
    · rw [e]; exact h.1.2.1
    · exact fun hz => h.2.1.cz k e (.inl hz)
theorem Pq.but {w w' : World} {Z X : Nat → Prop} {b d : Nat} {s : Pq} (h : s.I w Z b d) (hb : But X w w') (hx : ∀ k, k < w.heap.size → X k → Z k) : s.I w' Z b d := by
  cases s with
  | op L R => exact ⟨h.1.but hb fun k hl e => .inl (hx k hl e), h.2.1.but hb fun k hl e => .inl (hx k hl e), h.2.2⟩
  | sh room R => exact ⟨⟨Box.kept h.1.1 (hb.block b (Box.lt h.1.1) fun e => h.1.2.1 (hx b (Box.lt h.1.1) e)), h.1.2⟩, h.2.1.but hb fun k hl e => .inl (hx k hl e), h.2.2⟩
theorem Pq.below {w w' : World} {Z : Nat → Prop} {b d : Nat} {s : Pq} (h : s.I w Z b d) (hb : Below w.heap.size w w') : s.I w' Z b d := Pq.but (X := fun _ => False) h (But.ofBelow hb) fun _ _ e => e.elim
theorem Pq.z {w : World} {Z Z' : Nat → Prop} {b d : Nat} {s : Pq} (h : s.I w Z b d) (hz : ∀ k, k < w.heap.size → Z' k → Z k) : s.I w Z' b d := by
  cases s with
  | op L R => exact ⟨h.1.z fun k hl e => e.imp (hz k hl) id, h.2.1.z fun k hl e => e.imp (hz k hl) id, h.2.2⟩
  | sh room R => exact ⟨⟨h.1.1, fun e => h.1.2.1 (hz b (Box.lt h.1.1) e), h.1.2.2⟩, h.2.1.z fun k hl e => e.imp (hz k hl) id, h.2.2⟩
/-- what a call made of the two -/
structure PqS (w : World) (Z : Nat → Prop) (b d : Nat) (s : Pq) (w' : World) (s' : Pq) : Prop where
  i : s'.I w' Z b d
  but : But (s.C b d) w w'
  c : ∀ k, s'.C b d k → s.C b d k ∨ w.heap.size ≤ k
theorem PqS.refl {w : World} {Z : Nat → Prop} {b d : Nat} {s : Pq} (h : s.I w Z b d) : PqS w Z b d s w s := ⟨h, But.refl _ _, fun _ hk => .inl hk⟩
theorem PqS.below {w w' : World} {Z : Nat → Prop} {b d : Nat} {s : Pq} (h : s.I w Z b d) (hb : Below w.heap.size w w') : PqS w Z b d s w' s := ⟨Pq.below h hb, But.ofBelow hb, fun _ hk => .inl hk⟩
theorem PqS.trans {w w1 w2 : World} {Z : Nat → Prop} {b d : Nat} {s s1 s2 : Pq} (h : PqS w Z b d s w1 s1) (g : PqS w1 Z b d s1 w2 s2) : PqS w Z b d s w2 s2 := by
  refine ⟨g.i, ⟨g.but.os.trans h.but.os, g.but.tape.trans h.but.tape, g.but.output.trans h.but.output, Nat.le_trans h.but.size g.but.size, fun k hk hn => ?_⟩, fun k hk => ?_⟩
  · refine (g.but.block k (Nat.lt_of_lt_of_le hk h.but.size) fun hc => ?_).trans (h.but.block k hk hn)
    rcases h.c k hc with e | e
    · exact hn e
    · omega
  · rcases g.c k hk with h1 | h1
    · exact h.c k h1
    · exact .inr (Nat.le_trans h.but.size h1)
/-- the reference beside a lane that changes -/
theorem RfI.lane {w w' : World} {Z : Nat → Prop} {b d : Nat} {L L' : Ln} {R : Rf} (h : RfI w (fun k => Z k ∨ L.C b k) d R) (s : LSet w (fun k => Z k ∨ R.C d k) b L w' L') : RfI w' (fun k => Z k ∨ L'.C b k) d R := by
  have h1 : RfI w (fun k => (Z k ∨ L.C b k) ∨ L'.C b k) d R := h.z fun k hk hz => by
    rcases hz with e | e
    · exact e
    · rcases s.c k e with e2 | e2
      · exact .inr e2
      · omega
  exact (h1.but s.but fun k _ e => .inl (.inr e)).z fun k _ e => e.elim (fun e => .inl (.inl e)) .inr
/-- the lane beside a reference that changes -/
theorem LnI.ref {w w' : World} {Z : Nat → Prop} {b d : Nat} {L : Ln} {R R' : Rf} (h : LnI w (fun k => Z k ∨ R.C d k) b L) (s : RSet w (fun k => Z k ∨ L.C b k) d R w' R') : LnI w' (fun k => Z k ∨ R'.C d k) b L := by
  have h1 : LnI w (fun k => (Z k ∨ R.C d k) ∨ R'.C d k) b L := h.z fun k hk hz => by
    rcases hz with e | e
    · exact e
    · rcases s.c k e with e2 | e2
      · exact .inr e2
      · omega
  exact (h1.but s.but fun k _ e => .inl (.inr e)).z fun k _ e => e.elim (fun e => .inl (.inl e)) .inr
/-- one call of each -/
theorem PqS.both {w w1 w2 : World} {Z : Nat → Prop} {b d : Nat} {L L' : Ln} {R R' : Rf} (h : Pq.I w Z b d (.op L R)) (s : LSet w (fun k => Z k ∨ R.C d k) b L w1 L') (r : RSet w1 (fun k => Z k ∨ L'.C b k) d R w2 R') (hsh : R'.shut = R.shut) (hal : Als L'.q R'.l.toL) : PqS w Z b d (.op L R) w2 (.op L' R') := by
  refine ⟨⟨s.ln.ref r, r.ln, hsh.trans h.2.2.1, by rw [r.room, s.room]; exact h.2.2.2.1, hal⟩, ⟨r.but.os.trans s.but.os, r.but.tape.trans s.but.tape, r.but.output.trans s.but.output, Nat.le_trans s.but.size r.but.size, fun k hk hn => ?_⟩, fun k hk => ?_⟩
  · exact (r.but.block k (Nat.lt_of_lt_of_le hk s.but.size) fun e => hn (.inr e)).trans (s.but.block k hk fun e => hn (.inl e))
  · rcases hk with e | e
    · exact (s.c k e).imp .inl id
    · rcases r.c k e with e2 | e2
      · exact .inl (.inr e2)
      · exact .inr (Nat.le_trans s.but.size e2)
end Go.Proofs.Ytpldokahoamdpaa
