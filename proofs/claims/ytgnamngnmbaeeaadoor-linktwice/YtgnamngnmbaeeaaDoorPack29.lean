import Derived.Test.YtgnamngnmbaeeaaDoorPack28
namespace Go.Proofs.YtgnamngnmbaeeaaDoor
open Go.RowKit
set_option maxRecDepth 8000
theorem LX.more {w w1 w2 : World} {C C1 : Nat → Nat} {c lb sb rb : Nat} {dv nv bv pv wv : Value} {D N P : List BS} {S S' : LS} (h : LX w C c lb sb rb dv nv bv pv wv D N P S w1 C1) (hq : LQ w1 C1 c lb S' w2) : LQ w C c lb S' w2 := LQ.step h.old h.new h.but hq
theorem LX.newc {w w1 : World} {C C1 : Nat → Nat} {c lb sb rb : Nat} {dv nv bv pv wv : Value} {D N P : List BS} {S : LS} (h : LX w C c lb sb rb dv nv bv pv wv D N P S w1 C1) : ∀ k, w1.heap.size ≤ k → In8 C1 c k := fun k hk => h.new k (Nat.le_trans h.but.size hk)
set_option maxHeartbeats 16000000 in
theorem step_next (w : World) (C : Nat → Nat) (c lb : Nat) (S : LS) (h : LI w C c lb S) (hn : ∀ k, w.heap.size ≤ k → In8 C c k) (hT : Tab w) (hO : Out8 C c) (s2 : Bool) (i bit : Int) (bp : Option Addr) (bn bc : Nat) (hr : Rdy S) : Calls Tryd.prog 20 #[.pointer (some ⟨lb, 0, none⟩), .agg #[.int .i64 5, .bool s2, .int .i64 i, .int .i64 bit, .slice bp bn bc]] w fun e w' => e = .returned (.bool true) ∧ LQ w C c lb (drS S S.R.rd.length) w' := by
  obtain ⟨sb, rb, dv, nv, bv, pv, wv, D, N, P, hM⟩ := h
  obtain ⟨V1, hV1⟩ : ∃ V, V = w.alloc (.cells #[.int .i64 5, .bool s2, .int .i64 i, .int .i64 bit, .slice bp bn bc] 46) := ⟨_, rfl⟩
  obtain ⟨ob, hob⟩ : ∃ b, b = w.heap.size := ⟨_, rfl⟩
  have hb1 : Below w.heap.size w V1 := by rw [hV1]; exact (Below.refl _ _).alloc (Nat.le_refl _) _
  have hOb : Box V1 ob #[.int .i64 5, .bool s2, .int .i64 i, .int .i64 bit, .slice bp bn bc] 46 := by rw [hV1, hob]; exact Box.new _ _ _
  obtain ⟨C1, hC1⟩ : ∃ D, D = upC w C (c + 7) := ⟨_, rfl⟩
  have hX1 := (LX.refl hM hn).below hb1
  rw [← hC1] at hX1
  have HX1 := hid hX1
  have HV1 := hid hV1
  have HOb := hid hob
  have HT := hid hT
  have HO := hid hO
  have HBx := hid hOb
  have HDr := hid (drain_any V1 C1 c lb S ⟨sb, rb, dv, nv, bv, pv, wv, D, N, P, hX1.m⟩ hX1.newc hr)
  have k0 := hOb.cell 0
  have kl := hOb.lt
  simp at k0
  clear hM hV1 hob hb1 hOb hC1 hX1 hT hO hn hr
  go_enter Tryd.func20, Tryd.ntmps20
  go_upto_region 1 with fail
  rw [← HV1.out, ← HOb.out]
  go_wp2_with fail
  refine HDr.out.mono ?_
  rintro e w2 ⟨rfl, hq⟩
  have HQ := hid (HX1.out.more hq)
  clear hq k0 kl
  go_wp2
  exact bodyPost_ret (v := .bool true) (by simp [results, Tryd.results20, go_sem]) rfl ⟨rfl, HQ.out⟩
/-- a kind that does nothing -/
theorem step_none (w : World) (C : Nat → Nat) (c lb : Nat) (S : LS) (h : LI w C c lb S) (hn : ∀ k, w.heap.size ≤ k → In8 C c k) (hT : Tab w) (hO : Out8 C c) (s2 : Bool) (i bit : Int) (bp : Option Addr) (bn bc : Nat) (kd : Int) (hk : ¬ kd = 1 ∧ ¬ kd = 2 ∧ ¬ kd = 3 ∧ ¬ kd = 4 ∧ ¬ kd = 5 ∧ ¬ kd = 6 ∧ ¬ kd = 7 ∧ ¬ kd = 9) : Calls Tryd.prog 20 #[.pointer (some ⟨lb, 0, none⟩), .agg #[.int .i64 kd, .bool s2, .int .i64 i, .int .i64 bit, .slice bp bn bc]] w fun e w' => e = .returned (.bool true) ∧ LQ w C c lb S w' := by
  obtain ⟨sb, rb, dv, nv, bv, pv, wv, D, N, P, hM⟩ := h
  obtain ⟨V1, hV1⟩ : ∃ V, V = w.alloc (.cells #[.int .i64 kd, .bool s2, .int .i64 i, .int .i64 bit, .slice bp bn bc] 46) := ⟨_, rfl⟩
  obtain ⟨ob, hob⟩ : ∃ b, b = w.heap.size := ⟨_, rfl⟩
  have hb1 : Below w.heap.size w V1 := by rw [hV1]; exact (Below.refl _ _).alloc (Nat.le_refl _) _
  have hOb : Box V1 ob #[.int .i64 kd, .bool s2, .int .i64 i, .int .i64 bit, .slice bp bn bc] 46 := by rw [hV1, hob]; exact Box.new _ _ _
  obtain ⟨C1, hC1⟩ : ∃ D, D = upC w C (c + 7) := ⟨_, rfl⟩
  have hX1 := (LX.refl hM hn).below hb1
  rw [← hC1] at hX1
  have HX1 := hid hX1
  have HV1 := hid hV1
  have HOb := hid hob
  have HT := hid hT
  have HO := hid hO
  have HBx := hid hOb
  have k0 := hOb.cell 0
  have kl := hOb.lt
  simp at k0
  obtain ⟨h1, h2, h3, h4, h5, h6, h7, h9⟩ := hk
  have b1 : (kd == 1) = false := beq_eq_false_iff_ne.2 h1
  have b2 : (kd == 2) = false := beq_eq_false_iff_ne.2 h2
  have b3 : (kd == 3) = false := beq_eq_false_iff_ne.2 h3
  have b4 : (kd == 4) = false := beq_eq_false_iff_ne.2 h4
  have b5 : (kd == 5) = false := beq_eq_false_iff_ne.2 h5
  have b6 : (kd == 6) = false := beq_eq_false_iff_ne.2 h6
  have b7 : (kd == 7) = false := beq_eq_false_iff_ne.2 h7
  have b9 : (kd == 9) = false := beq_eq_false_iff_ne.2 h9
  clear hM hV1 hob hb1 hOb hC1 hX1 hT hO hn
  go_enter Tryd.func20, Tryd.ntmps20
  go_upto_region 1 with fail
  rw [← HV1.out, ← HOb.out]
  go_wp2
  exact bodyPost_ret (v := .bool true) (by simp [results, Tryd.results20, go_sem]) rfl ⟨rfl, HX1.out.lq⟩
end Go.Proofs.YtgnamngnmbaeeaaDoor

namespace Go.Proofs.YtgnamngnmbaeeaaDoor
open Go.RowKit
set_option maxRecDepth 8000
/-- a message is put -/
def stPut (S : LS) (z : List Int) : LS := if 4096 < z.length then S else { S with A := { S.A with q := S.A.q ++ [z] }, P := S.P ++ [z] }
set_option maxHeartbeats 16000000 in
theorem step_put (w : World) (C : Nat → Nat) (c lb : Nat) (S : LS) (h : LI w C c lb S) (hn : ∀ k, w.heap.size ≤ k → In8 C c k) (s2 : Bool) (i bit : Int) (bp : Option Addr) (bn bc : Nat) (bz : List Int) (hbn : bn = bz.length) (hx : BS.In w (fun k => ¬ In8 C c k) ⟨bp, bc, bz⟩)
    (hok : ¬ 4096 < bz.length → putE S.A bz = 0 ∧ S.P.length + 1 ≤ 1073741824) : Calls Tryd.prog 20 #[.pointer (some ⟨lb, 0, none⟩), .agg #[.int .i64 1, .bool s2, .int .i64 i, .int .i64 bit, .slice bp bn bc]] w fun e w' => e = .returned (.bool true) ∧ LQ w C c lb (stPut S bz) w' := by
  obtain ⟨sb, rb, dv, nv, bv, pv, wv, D, N, P, hM⟩ := h
  obtain ⟨V1, hV1⟩ : ∃ V, V = w.alloc (.cells #[.int .i64 1, .bool s2, .int .i64 i, .int .i64 bit, .slice bp bn bc] 46) := ⟨_, rfl⟩
  obtain ⟨ob, hob⟩ : ∃ b, b = w.heap.size := ⟨_, rfl⟩
  have hb1 : Below w.heap.size w V1 := by rw [hV1]; exact (Below.refl _ _).alloc (Nat.le_refl _) _
  have hOb : Box V1 ob #[.int .i64 1, .bool s2, .int .i64 i, .int .i64 bit, .slice bp bn bc] 46 := by rw [hV1, hob]; exact Box.new _ _ _
  obtain ⟨C1, hC1⟩ : ∃ D, D = upC w C (c + 7) := ⟨_, rfl⟩
  have hX1 := (LX.refl hM hn).below hb1
  rw [← hC1] at hX1
  have HX1 := hid hX1
  have HV1 := hid hV1
  have HOb := hid hob
  have HBx := hid hOb
  have hcob : C1 ob = c + 7 := by rw [hC1, hob]; exact upC_new (Nat.le_refl _)
  have hx1 : BS.In V1 (fun k => C1 k < c ∨ c + 7 < C1 k) ⟨bp, bc, bz⟩ := (hx.mono fun k hk hl => (⟨hk, hl⟩ : ¬ In8 C c k ∧ k < w.heap.size)).below hb1 |>.mono fun k hk _ => by
    have h1 := hk.1
    unfold In8 at h1
    rw [hC1, upC_old hk.2]
    omega
  have hpl : P.length = S.P.length := by rw [← hM.hp, List.length_map]
  have c0 := hX1.m.bx.cell 0
  have cl := hX1.m.bx.lt
  simp at c0
  have k0 := hOb.cell 0
  have k4 := hOb.cell 4
  have kl := hOb.lt
  simp at k0 k4
  have HPt := hid (put_any V1.drew (Zc V1 C1 (c + 1)) sb S.A (hX1.m.s.below (Below.refl _ _).drew fun _ _ h => h) zc_lt ⟨bp, bc, bz⟩ _ (hx1.below (Below.refl _ _).drew))
  simp only [BS.val, ← hbn] at HPt
  have HX1b := hid hx1
  have HCob := hid hcob
  have HBn := hid hbn
  have HPl := hid hpl
  by_cases hlong : 4096 < bz.length
  · as_aux_lemma =>
    have hE : putE S.A bz = 211 := by unfold putE; rw [if_pos hlong]
    have hbl : (4096 : Int) < (bn : Int) := by omega
    have HE := hid hE
    have HS : Hid (stPut S bz = S) := by show stPut S bz = S; unfold stPut; rw [if_pos hlong]
    clear hM hV1 hob hb1 hOb hC1 hX1 hn hok hx hbn hlong hE hcob hx1 hpl
    go_enter Tryd.func20, Tryd.ntmps20
    go_upto_region 1 with fail
    rw [← HV1.out, ← HOb.out]
    go_upto_region 3 with fail
    refine wp_region_calmE 30 (fun wx => Below V1.heap.size V1 wx) [(0, true), (1, true), (2, true), (3, false), (4, true), (5, false)] (.one 6 false [(7, true)] .done) (by kernel_rfl) (by kernel_rfl) (Below.refl _ _).drew ?_
    refine wpPre_e rfl rfl (fun K1 hK1 => ?_)
    apply Exists.intro
    refine And.intro (fun wx hx => ?_) ?_
    · go_simp
      try rfl
    go_simp
    refine hK1 _ ?_
    clear hK1 K1
    refine wpPre_e rfl rfl (fun K1 hK1 => ?_)
    apply Exists.intro
    refine And.intro (fun wx hx => ?_) ?_
    · go_simp
      try rfl
    go_simp
    refine hK1 _ ?_
    clear hK1 K1
    refine wpPre_e rfl rfl (fun K1 hK1 => ?_)
    apply Exists.intro
    refine And.intro (fun wx hx => ?_) ?_
    · go_simp
      try rfl
    go_simp
    refine hK1 _ ?_
    clear hK1 K1
    refine wpPre_e rfl rfl (fun K1 hK1 => ?_)
    apply Exists.intro
    refine And.intro (fun wx hx => ?_) ?_
    · have e0 := below_fact hx rfl c0
      have e1 := below_fact hx rfl k4
      go_simp
      try rfl
    go_simp
    refine hK1 _ ?_
    clear hK1 K1
    refine wpPre_e rfl rfl (fun K1 hK1 => ?_)
    apply Exists.intro
    refine And.intro (fun wx hx => ?_) ?_
    · go_simp
      try rfl
    go_simp
    refine hK1 _ ?_
    clear hK1 K1
    refine wpPre_e rfl rfl (fun K1 hK1 => ?_)
    apply Exists.intro
    refine And.intro (fun wx hx => ?_) ?_
    · have e0 := below_fact hx rfl c0
      have e1 := below_fact hx rfl k4
      go_simp
      try rfl
    go_simp
    refine hK1 _ ?_
    clear hK1 K1
    refine wpPre_nil ?_
    refine wpTr_e rfl (fun K1 hK1 => ?_)
    refine step_callG (by first | rfl | go_simp) 9 #[.tmp 19, .tmp 21] _ rfl Tryd.f9 Tryd.func9 (by kernel_rfl) rfl #[.pointer (some ⟨sb, 0, none⟩), .slice bp bn bc] rfl _ (HPt.out) ?_
    rintro e_ w2 ⟨he, hq⟩
    have he : e_ = .returned (.int .i64 (putE S.A bz)) := he
    have hq : SndQ V1.drew (Zc V1 C1 (c + 1)) sb (if putE S.A bz = 0 then { S.A with q := S.A.q ++ [bz] } else S.A) w2 := hq
    rw [HE.out] at he hq
    rw [if_neg (by decide)] at hq
    subst he
    refine ⟨_, rfl, ?_⟩
    have hF : Fr (Zc V1 C1 (c + 1)) V1 w2 := (Fr.below (Below.refl _ _).drew).trans hq.2
    obtain ⟨C2, hC2⟩ : ∃ D, D = upC V1 C1 (c + 1) := ⟨_, rfl⟩
    have hX2 := HX1.out.snd ⟨hq.1, hF⟩
    rw [← hC2] at hX2
    have HX2 := hid hX2
    have HOb2 := hid (HBx.out.but hF fun e => e ⟨HBx.out.lt, by rw [HCob.out]; omega⟩)
    have HX2b : Hid (BS.In w2 (fun _ => True) ⟨bp, bc, bz⟩) := ((HX1b.out.mono fun k hk hl => (⟨hl, by omega⟩ : Zc V1 C1 (c + 1) k)).kept hF.size (fun k hk hl => hF.block k hl fun e => e hk)).mono fun _ _ _ => trivial
    clear hq hF hC2 hX2 HPt
    go_simp
    refine hK1 _ _ (fun h => by cases h) ?_
    clear hK1 K1
    refine wpPre_e rfl rfl (fun K1 hK1 => ?_)
    apply Exists.intro
    refine And.intro (fun wx hx => ?_) ?_
    · go_simp
      try rfl
    go_simp
    refine hK1 _ ?_
    clear hK1 K1
    refine wpPre_nil ?_
    refine wpTr_done ?_
    clear c0 cl k0 k4 kl
    have k4 := HOb2.out.cell 4
    have kl := HOb2.out.lt
    simp at k4
    go_wp2
    exact bodyPost_ret (v := .bool true) (by simp [results, Tryd.results20, go_sem]) rfl ⟨rfl, by rw [HS.out]; exact HX2.out.lq⟩
  · as_aux_lemma =>
    obtain ⟨hE, hp30⟩ := hok hlong
    have hbl : ¬ (4096 : Int) < (bn : Int) := by omega
    have HE := hid hE
    have HP30 := hid hp30
    have HS : Hid (stPut S bz = { S with A := { S.A with q := S.A.q ++ [bz] }, P := S.P ++ [bz] }) := by show stPut S bz = _; unfold stPut; rw [if_neg hlong]
    clear hM hV1 hob hb1 hOb hC1 hX1 hn hok hx hbn hlong hE hcob hx1 hp30 hpl
    go_enter Tryd.func20, Tryd.ntmps20
    go_upto_region 1 with fail
    rw [← HV1.out, ← HOb.out]
    go_upto_region 3 with fail
    refine wp_region_calmE 30 (fun wx => Below V1.heap.size V1 wx) [(0, true), (1, true), (2, true), (3, false), (4, true), (5, false)] (.one 6 false [(7, true)] .done) (by kernel_rfl) (by kernel_rfl) (Below.refl _ _).drew ?_
    refine wpPre_e rfl rfl (fun K1 hK1 => ?_)
    apply Exists.intro
    refine And.intro (fun wx hx => ?_) ?_
    · go_simp
      try rfl
    go_simp
    refine hK1 _ ?_
    clear hK1 K1
    refine wpPre_e rfl rfl (fun K1 hK1 => ?_)
    apply Exists.intro
    refine And.intro (fun wx hx => ?_) ?_
    · go_simp
      try rfl
    go_simp
    refine hK1 _ ?_
    clear hK1 K1
    refine wpPre_e rfl rfl (fun K1 hK1 => ?_)
    apply Exists.intro
    refine And.intro (fun wx hx => ?_) ?_
    · go_simp
      try rfl
    go_simp
    refine hK1 _ ?_
    clear hK1 K1
    refine wpPre_e rfl rfl (fun K1 hK1 => ?_)
    apply Exists.intro
    refine And.intro (fun wx hx => ?_) ?_
    · have e0 := below_fact hx rfl c0
      have e1 := below_fact hx rfl k4
      go_simp
      try rfl
    go_simp
    refine hK1 _ ?_
    clear hK1 K1
    refine wpPre_e rfl rfl (fun K1 hK1 => ?_)
    apply Exists.intro
    refine And.intro (fun wx hx => ?_) ?_
    · go_simp
      try rfl
    go_simp
    refine hK1 _ ?_
    clear hK1 K1
    refine wpPre_e rfl rfl (fun K1 hK1 => ?_)
    apply Exists.intro
    refine And.intro (fun wx hx => ?_) ?_
    · have e0 := below_fact hx rfl c0
      have e1 := below_fact hx rfl k4
      go_simp
      try rfl
    go_simp
    refine hK1 _ ?_
    clear hK1 K1
    refine wpPre_nil ?_
    refine wpTr_e rfl (fun K1 hK1 => ?_)
    refine step_callG (by first | rfl | go_simp) 9 #[.tmp 19, .tmp 21] _ rfl Tryd.f9 Tryd.func9 (by kernel_rfl) rfl #[.pointer (some ⟨sb, 0, none⟩), .slice bp bn bc] rfl _ (HPt.out) ?_
    rintro e_ w2 ⟨he, hq⟩
    have he : e_ = .returned (.int .i64 (putE S.A bz)) := he
    have hq : SndQ V1.drew (Zc V1 C1 (c + 1)) sb (if putE S.A bz = 0 then { S.A with q := S.A.q ++ [bz] } else S.A) w2 := hq
    rw [HE.out] at he hq
    rw [if_pos rfl] at hq
    subst he
    refine ⟨_, rfl, ?_⟩
    have hF : Fr (Zc V1 C1 (c + 1)) V1 w2 := (Fr.below (Below.refl _ _).drew).trans hq.2
    obtain ⟨C2, hC2⟩ : ∃ D, D = upC V1 C1 (c + 1) := ⟨_, rfl⟩
    have hX2 := HX1.out.snd ⟨hq.1, hF⟩
    rw [← hC2] at hX2
    have HX2 := hid hX2
    have HOb2 := hid (HBx.out.but hF fun e => e ⟨HBx.out.lt, by rw [HCob.out]; omega⟩)
    have HX2b : Hid (BS.In w2 (fun _ => True) ⟨bp, bc, bz⟩) := ((HX1b.out.mono fun k hk hl => (⟨hl, by omega⟩ : Zc V1 C1 (c + 1) k)).kept hF.size (fun k hk hl => hF.block k hl fun e => e hk)).mono fun _ _ _ => trivial
    clear hq hF hC2 hX2 HPt
    go_simp
    refine hK1 _ _ (fun h => by cases h) ?_
    clear hK1 K1
    refine wpPre_e rfl rfl (fun K1 hK1 => ?_)
    apply Exists.intro
    refine And.intro (fun wx hx => ?_) ?_
    · go_simp
      try rfl
    go_simp
    refine hK1 _ ?_
    clear hK1 K1
    refine wpPre_nil ?_
    refine wpTr_done ?_
    clear c0 cl k0 k4 kl
    obtain ⟨pp, pc, hpv⟩ := HX2.out.m.p.slice
    have c5 := HX2.out.m.bx.cell 5
    have cl := HX2.out.m.bx.lt
    have k4 := HOb2.out.cell 4
    have kl := HOb2.out.lt
    simp at c5 k4
    rw [hpv] at c5
    have HPv := hid hpv
    clear hpv
    go_upto_region 6 with fail
    refine wp_region_calmE 30 (fun wx => Below w2.heap.size w2 wx) [(0, true), (1, true), (2, true), (3, true), (4, false), (5, true), (6, false)] (.one 7 true [] (.one 8 true [] (.one 9 false [(10, true), (11, true)] (.one 12 false [] .done)))) (by kernel_rfl) (by kernel_rfl) (Below.refl _ _).drew ?_
    refine wpPre_e rfl rfl (fun K1 hK1 => ?_)
    apply Exists.intro
    refine And.intro (fun wx hx => ?_) ?_
    · go_simp
      try rfl
    go_simp
    refine hK1 _ ?_
    clear hK1 K1
    refine wpPre_e rfl rfl (fun K1 hK1 => ?_)
    apply Exists.intro
    refine And.intro (fun wx hx => ?_) ?_
    · go_simp
      try rfl
    go_simp
    refine hK1 _ ?_
    clear hK1 K1
    refine wpPre_e rfl rfl (fun K1 hK1 => ?_)
    apply Exists.intro
    refine And.intro (fun wx hx => ?_) ?_
    · go_simp
      try rfl
    go_simp
    refine hK1 _ ?_
    clear hK1 K1
    refine wpPre_e rfl rfl (fun K1 hK1 => ?_)
    apply Exists.intro
    refine And.intro (fun wx hx => ?_) ?_
    · go_simp
      try rfl
    go_simp
    refine hK1 _ ?_
    clear hK1 K1
    refine wpPre_e rfl rfl (fun K1 hK1 => ?_)
    apply Exists.intro
    refine And.intro (fun wx hx => ?_) ?_
    · have e0 := below_fact hx rfl c5
      have e1 := below_fact hx rfl k4
      go_simp
      try rfl
    go_simp
    refine hK1 _ ?_
    clear hK1 K1
    refine wpPre_e rfl rfl (fun K1 hK1 => ?_)
    apply Exists.intro
    refine And.intro (fun wx hx => ?_) ?_
    · go_simp
      try rfl
    go_simp
    refine hK1 _ ?_
    clear hK1 K1
    refine wpPre_e rfl rfl (fun K1 hK1 => ?_)
    apply Exists.intro
    refine And.intro (fun wx hx => ?_) ?_
    · have e0 := below_fact hx rfl c5
      have e1 := below_fact hx rfl k4
      go_simp
      try rfl
    go_simp
    refine hK1 _ ?_
    clear hK1 K1
    refine wpPre_nil ?_
    refine wpTr_e rfl (fun K1 hK1 => ?_)
    refine step_cpB rfl (.const (.slice none 0 0)) (.tmp 35) rfl ⟨bp, bc, bz⟩ _ rfl (by rw [BS.val, ← HBn.out]; rfl) (HX2b.out.below (Below.refl _ _).drew) ?_
    rintro ⟨yp, yc, yz⟩ w3 hy1 hy2 hb2
    dsimp only [BS.val]
    have hb2w : Below w2.heap.size w2 w3 := (Below.refl _ _).drew.trans (hb2.mono (Nat.le_refl _))
    have HB2 := hid hb2w
    have HY := hid hy2
    have HYz := hid hy1
    clear hb2 hb2w hy1 hy2
    refine hK1 _ _ (fun _ => HB2.out) ?_
    clear hK1 K1
    refine wpPre_nil ?_
    refine wpTr_e rfl (fun K1 hK1 => ?_)
    obtain ⟨V3, hV3⟩ : ∃ V, V = w3.alloc (.cells #[.slice yp yz.length yc] 36) := ⟨_, rfl⟩
    have hb3 : Below w3.heap.size w3 V3 := by rw [hV3]; exact (Below.refl _ _).alloc (Nat.le_refl _) _
    have hX3 : Box V3 w3.heap.size #[.slice yp yz.length yc] 36 := by rw [hV3]; exact Box.new _ _ _
    have HB3 : Hid (Below w2.heap.size w2 V3) := HB2.out.trans (hb3.mono HB2.out.size)
    have HX3 := hid hX3
    have HV3 := hid hV3
    have HY3 := hid (HY.out.below hb3)
    have hV3c := hV3
    clear hb3 hX3 hV3
    go_simp
    rw [← hV3c]
    refine hK1 _ _ (fun _ => HB3.out) ?_
    clear hV3c
    clear hK1 K1
    refine wpPre_nil ?_
    refine wpTr_e rfl (fun K1 hK1 => ?_)
    have HRow := hid (HX2.out.m.p.below HB3.out fun _ _ h => h)
    obtain ⟨nb, hnb⟩ : ∃ nb, nb = w3.heap.size := ⟨_, rfl⟩
    rw [← hnb]
    have hy0 : V3.cell? ⟨nb, 0, none⟩ = some (.slice yp yz.length yc) := by rw [hnb]; exact HX3.out.cell 0
    have hrow := HRow.out.row
    rw [HPv.out] at hrow
    refine step_appQ rfl (.tmp 33) (.tmp 37) rfl _ (P.map BS.val) rfl hrow ⟨nb, 0, none⟩ 1 (.slice yp yz.length yc) rfl hy0 rfl (by rw [List.length_map, HPl.out]; have h9 := HP30.out; omega) ?_
    intro v4 w4 hr4 hg4 hn4
    rw [← HPv.out] at hg4 hn4
    have hpush := HRow.out.push (x := ⟨yp, yc, yz⟩) hr4 hg4 hn4 (HY3.out.mono fun k hk hl => by
      have hk' : w2.heap.size ≤ k := hk
      exact ⟨fun e => by have := e.1; omega, fun e => by have := (HX2.out.m.p.row.lt e).1; omega⟩) (fun k hk => by
      have h3 := HB3.out.size
      have := hk.1
      omega)
    obtain ⟨p4, c4, hv4⟩ := hpush.slice
    subst hv4
    have HX4 := hid ((HX2.out.m.bx.below HB3.out).but (But.grow hg4) (fun e => HX2.out.m.p.z lb e ⟨HX2.out.m.bx.lt, by rw [HX2.out.m.cl]; omega⟩))
    have HP := hid hpush
    rw [HPv.out] at hg4
    have HG4 := hid (But.grow hg4)
    have df : w4.frozen? ⟨lb, 5, none⟩ = false := HX4.out.frozen 5
    have dc : w4.cell? ⟨lb, 5, none⟩ = some pv := by rw [HX4.out.cell]; rfl
    have dl := HX4.out.lt
    clear hr4 hg4 hn4 hpush hnb hy0 hrow
    refine hK1 _ _ (fun h => by cases h) ?_
    clear hK1 K1
    refine wpPre_e rfl rfl (fun K1 hK1 => ?_)
    apply Exists.intro
    refine And.intro (fun wx hx => ?_) ?_
    · go_simp
      try rfl
    go_simp
    refine hK1 _ ?_
    clear hK1 K1
    refine wpPre_e rfl rfl (fun K1 hK1 => ?_)
    apply Exists.intro
    refine And.intro (fun wx hx => ?_) ?_
    · go_simp
      try rfl
    go_simp
    refine hK1 _ ?_
    clear hK1 K1
    refine wpPre_nil ?_
    refine wpTr_e rfl (fun K1 hK1 => ?_)
    go_simp
    refine hK1 _ _ (fun h => by cases h) ?_
    clear hK1 K1
    refine wpPre_nil ?_
    refine wpTr_done ?_
    clear c5 cl k4 kl
    obtain ⟨W5, hW5⟩ : ∃ W, W = w4.setCell ⟨lb, 5, none⟩ (.slice p4 (P.length + 1) c4) := ⟨_, rfl⟩
    have hbt : But (fun k => k = lb) w4 W5 := by rw [hW5]; exact (But.one _ _).setAt _ _
    have HQ : Hid (LQ w C c lb (stPut S bz) W5) := by
      have hm2 := HX2.out.m
      have hX5 := HX4.out.set 5 (.slice p4 (P.length + 1) c4)
      rw [← hW5] at hX5
      have hR5 : Rw W5 (Zc w2 C2 (c + 5)) (.slice p4 (P.length + 1) c4) (P ++ [⟨yp, yc, yz⟩]) := by
        have h := HP.out
        rw [List.length_append] at h
        exact h.but (hbt.mono fun k _ e => by rw [show k = lb from e]; exact ⟨hm2.bx.lt, by rw [hm2.cl]; omega⟩) fun _ _ h => h
      obtain ⟨p1, p2, p3, p4'⟩ := hm2.pts (l' := S.P ++ [bz]) hX5 hR5 (by have e : yz = bz := HYz.out; rw [List.map_append, hm2.hp, e]; rfl)
        (((But.ofBelow HB3.out).trans (HG4.out.mono fun k _ e => .inr (hm2.p.z k (by rw [HPv.out]; exact e)))).trans (hbt.mono fun k _ e => .inl e))
      rw [HS.out]
      exact (HX2.out.on p1 p2 p3 p4').lq
    rw [← hW5]
    clear hW5 hbt
    go_wp2
    exact bodyPost_ret (v := .bool true) (by simp [results, Tryd.results20, go_sem]) rfl ⟨rfl, HQ.out⟩
end Go.Proofs.YtgnamngnmbaeeaaDoor

namespace Go.Proofs.YtgnamngnmbaeeaaDoor
open Go.RowKit
set_option maxRecDepth 8000
theorem LX.out8 {w w1 : World} {C C1 : Nat → Nat} {c lb sb rb : Nat} {dv nv bv pv wv : Value} {D N P : List BS} {S : LS} (h : LX w C c lb sb rb dv nv bv pv wv D N P S w1 C1) (hT : Tab w) (hO : Out8 C c) : Out8 C1 c := by
  have := h.old 0 hT.1
  unfold Out8 In8 at *
  omega
/-- all of a pool are frames -/
def Frs (l : List (List Int)) : Prop := ∀ z ∈ l, Frm z
theorem Frs.at_ {l : List (List Int)} (h : Frs l) (i : Int) : atZ l i = [] ∨ Frm (atZ l i) := by
  by_cases h0 : l = []
  · left; subst h0; rfl
  · right
    have hp : 0 < l.length := List.length_pos_iff.2 h0
    have hl : idxP i l.length < l.length := Nat.mod_lt _ hp
    unfold atZ
    rw [List.getD_eq_getElem?_getD, List.getElem?_eq_getElem hl, Option.getD_some]
    exact h _ (List.getElem_mem _)
set_option maxHeartbeats 16000000 in
theorem step_flip (w : World) (C : Nat → Nat) (c lb : Nat) (S : LS) (h : LI w C c lb S) (hn : ∀ k, w.heap.size ≤ k → In8 C c k) (hT : Tab w) (hO : Out8 C c) (s2 : Bool) (i bit : Int) (hi : Fit64 i) (hbit : Fit64 bit) (bp : Option Addr) (bn bc : Nat)
    (hfD : Frs S.D) (hfN : Frs S.N) : Calls Tryd.prog 20 #[.pointer (some ⟨lb, 0, none⟩), .agg #[.int .i64 9, .bool s2, .int .i64 i, .int .i64 bit, .slice bp bn bc]] w fun e w' => e = .returned (.bool true) ∧ LQ w C c lb S w' := by
  obtain ⟨sb, rb, dv, nv, bv, pv, wv, D, N, P, hM⟩ := h
  obtain ⟨V1, hV1⟩ : ∃ V, V = w.alloc (.cells #[.int .i64 9, .bool s2, .int .i64 i, .int .i64 bit, .slice bp bn bc] 46) := ⟨_, rfl⟩
  obtain ⟨ob, hob⟩ : ∃ b, b = w.heap.size := ⟨_, rfl⟩
  have hb1 : Below w.heap.size w V1 := by rw [hV1]; exact (Below.refl _ _).alloc (Nat.le_refl _) _
  have hOb : Box V1 ob #[.int .i64 9, .bool s2, .int .i64 i, .int .i64 bit, .slice bp bn bc] 46 := by rw [hV1, hob]; exact Box.new _ _ _
  obtain ⟨C1, hC1⟩ : ∃ D, D = upC w C (c + 7) := ⟨_, rfl⟩
  have hX1 := (LX.refl hM hn).below hb1
  rw [← hC1] at hX1
  have HX1 := hid hX1
  have HV1 := hid hV1
  have HOb := hid hob
  have HT := hid hT
  have HO := hid hO
  have HBx := hid hOb
  have hcob : C1 ob = c + 7 := by rw [hC1, hob]; exact upC_new (Nat.le_refl _)
  have hd := hM.hd
  have c2 := hX1.m.bx.cell 2
  simp at c2
  have k0 := hOb.cell 0
  have kl := hOb.lt
  simp at k0
  have HAt := hid (at_any V1.drew (Zc V1 C1 (c + 3)) lb 2 dv D hX1.m.bx.lt c2 (hX1.m.d.below (Below.refl _ _).drew fun _ _ h => h) i hi)
  have hzz : (atP D i).zs = atZ S.D i := by rw [atP_zs, hd]
  have hfd : (atP D i).zs = [] ∨ Frm (atP D i).zs := by rw [hzz]; exact hfD.at_ i
  obtain ⟨xv, hxv⟩ : ∃ v, v = (atP D i).val := ⟨_, rfl⟩
  rw [← hxv] at HAt
  have HXv := hid hxv
  have HFd := hid hfd
  have HFn := hid hfN
  have HI := hid hi
  have HBit := hid hbit
  have HCob := hid hcob
  clear hM hV1 hob hb1 hOb hC1 hX1 hd hT hO hi hbit hn hzz hfd hfD hfN hxv c2 hcob
  go_enter Tryd.func20, Tryd.ntmps20
  go_upto_region 1 with fail
  rw [← HV1.out, ← HOb.out]
  go_upto_region 35 with fail
  refine wp_region_calmE 30 (fun wx => Box wx ob #[.int .i64 9, .bool s2, .int .i64 i, .int .i64 bit, .slice bp bn bc] 46) [(0, true), (1, true), (2, true), (3, true), (4, true), (5, false), (7, true), (8, false)] (.one 6 true [] (.one 9 true [(10, true), (11, true), (12, true), (13, true), (14, true), (15, true), (16, false), (18, true), (19, false)] (.one 17 true [] (.one 20 false [(21, true), (22, true)] .done)))) (by kernel_rfl) (by kernel_rfl) (HBx.out.below (Below.refl _ _).drew) ?_
  refine wpPre_e rfl rfl (fun K1 hK1 => ?_)
  apply Exists.intro
  refine And.intro (fun wx hx => ?_) ?_
  · go_simp
    try rfl
  go_simp
  refine hK1 _ ?_
  clear hK1 K1
  refine wpPre_e rfl rfl (fun K1 hK1 => ?_)
  apply Exists.intro
  refine And.intro (fun wx hx => ?_) ?_
  · go_simp
    try rfl
  go_simp
  refine hK1 _ ?_
  clear hK1 K1
  refine wpPre_e rfl rfl (fun K1 hK1 => ?_)
  apply Exists.intro
  refine And.intro (fun wx hx => ?_) ?_
  · go_simp
    try rfl
  go_simp
  refine hK1 _ ?_
  clear hK1 K1
  refine wpPre_e rfl rfl (fun K1 hK1 => ?_)
  apply Exists.intro
  refine And.intro (fun wx hx => ?_) ?_
  · go_simp
    try rfl
  go_simp
  refine hK1 _ ?_
  clear hK1 K1
  refine wpPre_e rfl rfl (fun K1 hK1 => ?_)
  apply Exists.intro
  refine And.intro (fun wx hx => ?_) ?_
  · go_simp
    try rfl
  go_simp
  refine hK1 _ ?_
  clear hK1 K1
  refine wpPre_e rfl rfl (fun K1 hK1 => ?_)
  apply Exists.intro
  refine And.intro (fun wx hx => ?_) ?_
  · have hx2 := hx.resolve_left (by simp)
    have e0 := hx2.cell 2
    simp at e0
    go_simp
    try rfl
  go_simp
  refine hK1 _ ?_
  clear hK1 K1
  refine wpPre_e rfl rfl (fun K1 hK1 => ?_)
  apply Exists.intro
  refine And.intro (fun wx hx => ?_) ?_
  · go_simp
    try rfl
  go_simp
  refine hK1 _ ?_
  clear hK1 K1
  refine wpPre_e rfl rfl (fun K1 hK1 => ?_)
  apply Exists.intro
  refine And.intro (fun wx hx => ?_) ?_
  · have hx2 := hx.resolve_left (by simp)
    have e0 := hx2.cell 3
    simp at e0
    go_simp
    try rfl
  go_simp
  refine hK1 _ ?_
  clear hK1 K1
  refine wpPre_nil ?_
  refine wpTr_e rfl (fun K1 hK1 => ?_)
  refine step_callG (by first | rfl | go_simp) 15 #[.tmp 174, .tmp 176] _ rfl Tryd.f15 Tryd.func15 (by kernel_rfl) rfl #[.pointer (some ⟨lb, 2, none⟩), .int .i64 i] rfl _ (HAt.out) ?_
  rintro e_ w2 ⟨rfl, hb2⟩
  refine ⟨_, rfl, ?_⟩
  have hb12 : Below V1.heap.size V1 w2 := (Below.refl _ _).drew.trans (hb2.mono (Nat.le_refl _))
  obtain ⟨C2, hC2⟩ : ∃ D, D = upC V1 C1 (c + 7) := ⟨_, rfl⟩
  have hX2 := HX1.out.below hb12
  have hco2 : C2 ob = c + 7 := by rw [hC2, upC_old HBx.out.lt]; exact HCob.out
  rw [← hC2] at hX2
  have hIn : (atP D i).In w2 (fun k => C2 k = c + 3 ∧ k < w2.heap.size) := ((atP_in hX2.m.d i).mono fun k hk hl => ⟨Classical.byContradiction fun e => hk ⟨hl, e⟩, hl⟩)
  have HTu := hid (turned_any w2 C2 c lb S ⟨sb, rb, dv, nv, bv, pv, wv, D, N, P, hX2.m⟩ hX2.newc (atP D i) _ hIn bit HBit.out HFd.out (hX2.tab HT.out HO.out) (hX2.out8 HT.out HO.out))
  rw [← HXv.out] at HTu
  have HOb2 := hid (HBx.out.below hb12)
  have HCo2 := hid hco2
  have HX2 := hid hX2
  clear hb2 hb12 hC2 hX2 hIn hco2
  go_simp
  refine hK1 _ _ (fun _ => HOb2.out) ?_
  clear hK1 K1
  refine wpPre_nil ?_
  refine wpTr_e rfl (fun K1 hK1 => ?_)
  refine step_callG (by first | rfl | go_simp) 51 #[.tmp 171, .tmp 177, .tmp 179] _ rfl Tryd.f51 Tryd.func51 (by kernel_rfl) rfl #[.pointer (some ⟨lb, 0, none⟩), xv, .int .i64 bit] rfl _ (HTu.out) ?_
  rintro e_ w3 ⟨rfl, C3, ⟨sb3, rb3, dv3, nv3, bv3, pv3, wv3, D3, N3, P3, hm3⟩, ho3, hn3, hb3⟩
  refine ⟨_, rfl, ?_⟩
  have hX3 := HX2.out.on hm3 ho3 hn3 hb3
  have hob3 := HOb2.out.but hb3 (fun e => by unfold In7 at e; have := HCo2.out; omega)
  have hco3 : C3 ob = c + 7 := by rw [ho3 ob HOb2.out.lt]; exact HCo2.out
  have c3 := hm3.bx.cell 3
  simp at c3
  have HAt3 := hid (at_any w3 (Zc w3 C3 (c + 4)) lb 3 nv3 N3 hm3.bx.lt c3 hm3.n i HI.out)
  obtain ⟨yv, hyv⟩ : ∃ v, v = (atP N3 i).val := ⟨_, rfl⟩
  rw [← hyv] at HAt3
  have HYv := hid hyv
  have hfn : (atP N3 i).zs = [] ∨ Frm (atP N3 i).zs := by rw [atP_zs, hm3.hn]; exact HFn.out.at_ i
  have HFn3 := hid hfn
  have HX3 := hid hX3
  have HOb3 := hid hob3
  have HCo3 := hid hco3
  clear hX3 hob3 hco3 c3 hyv hfn hm3 ho3 hn3 hb3 HTu
  go_simp
  refine hK1 _ _ (fun _ => HOb3.out) ?_
  clear hK1 K1
  refine wpPre_e rfl rfl (fun K1 hK1 => ?_)
  apply Exists.intro
  refine And.intro (fun wx hx => ?_) ?_
  · go_simp
    try rfl
  go_simp
  refine hK1 _ ?_
  clear hK1 K1
  refine wpPre_i rfl (fun K1 hK1 => ?_)
  rw [if_pos (by go_simp)]
  apply Exists.intro
  refine And.intro (fun wx hx => ?_) ?_
  · go_simp
    try rfl
  go_simp
  refine hK1 _ ?_
  clear hK1 K1
  refine wpPre_i rfl (fun K1 hK1 => ?_)
  rw [if_pos (by go_simp)]
  apply Exists.intro
  refine And.intro (fun wx hx => ?_) ?_
  · go_simp
    try rfl
  go_simp
  refine hK1 _ ?_
  clear hK1 K1
  refine wpPre_i rfl (fun K1 hK1 => ?_)
  rw [if_pos (by go_simp)]
  apply Exists.intro
  refine And.intro (fun wx hx => ?_) ?_
  · go_simp
    try rfl
  go_simp
  refine hK1 _ ?_
  clear hK1 K1
  refine wpPre_i rfl (fun K1 hK1 => ?_)
  rw [if_pos (by go_simp)]
  apply Exists.intro
  refine And.intro (fun wx hx => ?_) ?_
  · go_simp
    try rfl
  go_simp
  refine hK1 _ ?_
  clear hK1 K1
  refine wpPre_i rfl (fun K1 hK1 => ?_)
  rw [if_pos (by go_simp)]
  apply Exists.intro
  refine And.intro (fun wx hx => ?_) ?_
  · go_simp
    try rfl
  go_simp
  refine hK1 _ ?_
  clear hK1 K1
  refine wpPre_i rfl (fun K1 hK1 => ?_)
  rw [if_pos (by go_simp)]
  apply Exists.intro
  refine And.intro (fun wx hx => ?_) ?_
  · have hx2 := hx.resolve_left (by simp)
    have e0 := hx2.cell 2
    simp at e0
    go_simp
    try rfl
  go_simp
  refine hK1 _ ?_
  clear hK1 K1
  refine wpPre_i rfl (fun K1 hK1 => ?_)
  rw [if_pos (by go_simp)]
  apply Exists.intro
  refine And.intro (fun wx hx => ?_) ?_
  · go_simp
    try rfl
  go_simp
  refine hK1 _ ?_
  clear hK1 K1
  refine wpPre_i rfl (fun K1 hK1 => ?_)
  rw [if_pos (by go_simp)]
  apply Exists.intro
  refine And.intro (fun wx hx => ?_) ?_
  · have hx2 := hx.resolve_left (by simp)
    have e0 := hx2.cell 3
    simp at e0
    go_simp
    try rfl
  go_simp
  refine hK1 _ ?_
  clear hK1 K1
  refine wpPre_nil ?_
  refine wpTr_e rfl (fun K1 hK1 => ?_)
  refine step_callG (by first | rfl | go_simp) 15 #[.tmp 185, .tmp 187] _ rfl Tryd.f15 Tryd.func15 (by kernel_rfl) rfl #[.pointer (some ⟨lb, 3, none⟩), .int .i64 i] rfl _ (HAt3.out) ?_
  rintro e_ w4 ⟨rfl, hb4⟩
  refine ⟨_, rfl, ?_⟩
  obtain ⟨C4, hC4⟩ : ∃ D, D = upC w3 C3 (c + 7) := ⟨_, rfl⟩
  have hX4 := HX3.out.below hb4
  have hco4 : C4 ob = c + 7 := by rw [hC4, upC_old HOb3.out.lt]; exact HCo3.out
  rw [← hC4] at hX4
  have hIn : (atP N3 i).In w4 (fun k => C4 k = c + 4 ∧ k < w4.heap.size) := ((atP_in hX4.m.n i).mono fun k hk hl => ⟨Classical.byContradiction fun e => hk ⟨hl, e⟩, hl⟩)
  have HTu4 := hid (turned_any w4 C4 c lb S ⟨sb3, rb3, dv3, nv3, bv3, pv3, wv3, D3, N3, P3, hX4.m⟩ hX4.newc (atP N3 i) _ hIn bit HBit.out HFn3.out (hX4.tab HT.out HO.out) (hX4.out8 HT.out HO.out))
  rw [← HYv.out] at HTu4
  have HOb4 := hid (HOb3.out.below hb4)
  have HCo4 := hid hco4
  have HX4 := hid hX4
  clear hb4 hC4 hX4 hIn hco4
  go_simp
  refine hK1 _ _ (fun _ => HOb4.out) ?_
  clear hK1 K1
  refine wpPre_nil ?_
  refine wpTr_e rfl (fun K1 hK1 => ?_)
  refine step_callG (by first | rfl | go_simp) 51 #[.tmp 182, .tmp 188, .tmp 190] _ rfl Tryd.f51 Tryd.func51 (by kernel_rfl) rfl #[.pointer (some ⟨lb, 0, none⟩), yv, .int .i64 bit] rfl _ (HTu4.out) ?_
  rintro e_ w5 ⟨rfl, hq5⟩
  refine ⟨_, rfl, ?_⟩
  have HQ := hid (HX4.out.more hq5)
  clear hq5
  go_simp
  refine hK1 _ _ (fun h => by cases h) ?_
  clear hK1 K1
  refine wpPre_e rfl rfl (fun K1 hK1 => ?_)
  apply Exists.intro
  refine And.intro (fun wx hx => ?_) ?_
  · go_simp
    try rfl
  go_simp
  refine hK1 _ ?_
  clear hK1 K1
  refine wpPre_e rfl rfl (fun K1 hK1 => ?_)
  apply Exists.intro
  refine And.intro (fun wx hx => ?_) ?_
  · go_simp
    try rfl
  go_simp
  refine hK1 _ ?_
  clear hK1 K1
  refine wpPre_nil ?_
  refine wpTr_done ?_
  clear k0 kl
  go_wp2
  exact bodyPost_ret (v := .bool true) (by simp [results, Tryd.results20, go_sem]) rfl ⟨rfl, HQ.out⟩
end Go.Proofs.YtgnamngnmbaeeaaDoor
