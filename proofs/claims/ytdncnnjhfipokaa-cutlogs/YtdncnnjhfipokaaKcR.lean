import Derived.Test.YtdncnnjhfipokaaPack12
namespace Go.Proofs.Ytdncnnjhfipokaa
open Go.RowKit
set_option maxRecDepth 8000
theorem OpT.at_ {w : World} {S : Nat → Prop} {s : LT OpT} (h : LT.In elOp w S s) {k : Nat} (hk : k < s.n) : OpT.In w S (s.item k) := h.each k hk
set_option maxHeartbeats 16000000 in
theorem rises_walk (mode ports back : Int) (s : LT OpT) (w : World) (hin : LT.In elOp w (fun b => b < w.heap.size) s) : Calls Try.prog 3 #[.int .i64 mode, .int .i64 ports, .int .i64 back, .slice s.p s.n s.c] w fun e w' => e = .returned (.bool true) ∧ Below w.heap.size w w' := by
  have HI := hid hin
  have hnn := hin.nn
  clear hin
  rcases hlg : legalB mode ports back with _ | _
  · have HL := hid (legal_any mode ports back w)
    unfold LegP at HL
    rw [hlg] at HL
    go_enter Try.func3, Try.ntmps3
    go_wp2_with fail
    refine HL.out.mono ?_
    rintro e w1 ⟨rfl, rfl⟩
    go_wp2
    exact bodyPost_ret (v := .bool true) (by simp [results, Try.results3, go_sem]) rfl ⟨rfl, Below.refl _ _⟩
  have HL := hid (legal_any mode ports back w)
  unfold LegP at HL
  rw [hlg] at HL
  have hm : 1 ≤ mode ∧ mode ≤ 3 := by have := of_decide_eq_true hlg; omega
  have HNw := hid (new_any mode ports back w)
  have HLg := hid hlg
  have HKi := hid (Bok.fresh mode ports back w hlg)
  clear hlg
  go_enter Try.func3, Try.ntmps3
  go_wp2_with fail
  refine HL.out.mono ?_
  rintro e w1 ⟨rfl, hw1⟩
  rw [hw1]
  clear hw1 w1
  go_wp2_with fail
  refine HNw.out.mono ?_
  rintro e w2 hnew
  obtain ⟨rfl, hw2⟩ := hnew.1 HLg.out
  have H2 : Hid (Bok w w2 w.heap.size (Bk.fresh mode ports back)) := by unfold Hid; rw [hw2]; exact HKi.out
  clear hnew hw2 HNw HKi HL
  go_wp2_with (first | (go_at_call 11; refine (num_any _ _).mono ?_; rintro e w3 ⟨rfl, rfl⟩) | (go_at_call 12; refine (known_any mode hm.1 hm.2 _).mono ?_; rintro e w4 ⟨rfl, hb4⟩; have H4 := hid (H2.out.below hb4); clear hb4))
  have HIn4 : Hid (LT.In elOp w4 (fun b => b < w.heap.size) s) := HI.out.kept H4.out.bel.size (fun b hb _ => H4.out.bel.block b hb)
  refine (inside_any s w4 (HIn4.out.mono (fun b _ hl => hl))).mono ?_
  rintro e w5 ⟨hb5, r5, rfl, hsz⟩
  have H5 := hid (H4.out.below hb5)
  have HSz := hid hsz
  clear hb5 hsz H4 H2 HIn4
  rcases r5 with _ | _
  · go_wp2
    exact bodyPost_ret (v := .bool true) (by simp [results, Try.results3, go_sem]) rfl ⟨rfl, H5.out.bel⟩
  have HSz2 := hid (HSz.out rfl)
  clear HSz
  go_wp2_with fail
  go_loopw [11, 12, 13] (fun xc xh xi wr => ∃ (k : Nat) (c h : Int) (K : Bk), k ≤ s.n ∧ k ≤ 600 ∧ xc = .int .i64 c ∧ xh = .int .i64 h ∧ xi = .int .i64 (k : Int) ∧ Bok w wr w.heap.size K ∧ RJ K c h ∧ LgN K (10000 * k)) (fun _ _ x _ => s.n - (intOf x).toNat)
  case atStart => exact ⟨0, 0, 0, Bk.fresh mode ports back, Nat.zero_le _, by omega, rfl, rfl, rfl, H5.out, ⟨Int.le_refl _, Int.le_refl _, Int.le_refl _, fun e => (by cases e), fun _ => .inl rfl⟩, fun _ _ => Nat.zero_le _⟩
  case round =>
    obtain ⟨k, c, h, K, hk, hk6, rfl, rfl, rfl, hBok, hRJ, hLg⟩ := hrel
    have HBok := hid hBok
    have HRJ := hid hRJ
    have HLgN := hid hLg
    have hbl := hBok.i.box.lt
    clear hBok hRJ hLg H5
    by_cases hlt : k < s.n
    rotate_left
    · have hlt' : ¬ (k : Int) < (s.n : Int) := by omega
      go_wp2
      exact bodyPost_ret (v := .bool true) (by simp [results, Try.results3, go_sem]) rfl ⟨rfl, HBok.out.bel⟩
    have hlt' : (k : Int) < (s.n : Int) := by omega
    by_cases hlt6 : k < 600
    rotate_left
    · have hlt6' : ¬ (k : Int) < 600 := by omega
      go_wp2
      exact bodyPost_ret (v := .bool true) (by simp [results, Try.results3, go_sem]) rfl ⟨rfl, HBok.out.bel⟩
    have hlt6' : (k : Int) < 600 := by omega
    obtain ⟨bb, o, hp, hSb, hbb, hat⟩ := HI.out.at_ (by omega)
    rw [hp]
    have hcell : ∀ r u, (elOp.cells (s.item k))[r]? = some u → wr.cell? ⟨bb, o + k * 14 + r, none⟩ = some u := fun r u hu => (World.cell?_of_block (a := ⟨bb, o + k * 14 + r, none⟩) (HBok.out.bel.block bb hbb)).trans (hat k hlt r u hu)
    have c0 : wr.cell? ⟨bb, o + k * 14, none⟩ = some (.int .i64 (s.item k).kind) := hcell 0 _ rfl
    have c1 : wr.cell? ⟨bb, o + k * 14 + 1, none⟩ = some (.int .i64 (s.item k).which) := hcell 1 _ rfl
    have c2 : wr.cell? ⟨bb, o + k * 14 + 2, none⟩ = some (.int .i64 (s.item k).port) := hcell 2 _ rfl
    have c3 : wr.cell? ⟨bb, o + k * 14 + 3, none⟩ = some (.int .i64 (s.item k).id) := hcell 3 _ rfl
    have c4 : wr.cell? ⟨bb, o + k * 14 + 4, none⟩ = some (.string (s.item k).r.key) := hcell 4 _ rfl
    have c5 : wr.cell? ⟨bb, o + k * 14 + 5, none⟩ = some (.int .i64 (s.item k).r.v.kind) := hcell 5 _ rfl
    have c6 : wr.cell? ⟨bb, o + k * 14 + 6, none⟩ = some (.int .i64 (s.item k).r.v.int) := hcell 6 _ rfl
    have c7 : wr.cell? ⟨bb, o + k * 14 + 7, none⟩ = some (.string (s.item k).r.v.text) := hcell 7 _ rfl
    have c8 : wr.cell? ⟨bb, o + k * 14 + 8, none⟩ = some (.slice (s.item k).r.v.p (s.item k).r.v.n (s.item k).r.v.c) := hcell 8 _ rfl
    have c9 : wr.cell? ⟨bb, o + k * 14 + 9, none⟩ = some (.slice (s.item k).r.p (s.item k).r.n (s.item k).r.c) := hcell 9 _ rfl
    have c10 : wr.cell? ⟨bb, o + k * 14 + 10, none⟩ = some (.slice (s.item k).a.p (s.item k).a.n (s.item k).a.c) := hcell 10 _ rfl
    have c11 : wr.cell? ⟨bb, o + k * 14 + 11, none⟩ = some (.slice (s.item k).q.p (s.item k).q.n (s.item k).q.c) := hcell 11 _ rfl
    have c12 : wr.cell? ⟨bb, o + k * 14 + 12, none⟩ = some (.int .i64 (s.item k).num) := hcell 12 _ rfl
    have c13 : wr.cell? ⟨bb, o + k * 14 + 13, none⟩ = some (.slice (s.item k).l.p (s.item k).l.n (s.item k).l.c) := hcell 13 _ rfl
    have HIn : Hid (∀ V, Below w.heap.size w V → OpT.In V (fun b => b < w.heap.size) (s.item k)) := fun V hV => (OpT.at_ HI.out hlt).kept hV.size (fun b hb _ => hV.block b hb)
    have HOs := hid (HSz2.out k hlt)
    clear hcell hat
    have hal : Below wr.heap.size wr (wr.alloc (.cells #[.int .i64 (s.item k).kind, .int .i64 (s.item k).which, .int .i64 (s.item k).port, .int .i64 (s.item k).id, .string (s.item k).r.key, .int .i64 (s.item k).r.v.kind, .int .i64 (s.item k).r.v.int, .string (s.item k).r.v.text, .slice (s.item k).r.v.p (s.item k).r.v.n (s.item k).r.v.c, .slice (s.item k).r.p (s.item k).r.n (s.item k).r.c, .slice (s.item k).a.p (s.item k).a.n (s.item k).a.c, .slice (s.item k).q.p (s.item k).q.n (s.item k).q.c, .int .i64 (s.item k).num, .slice (s.item k).l.p (s.item k).l.n (s.item k).l.c] 42)) := (Below.refl _ _).alloc (Nat.le_refl _) _
    have H3 := hid (HBok.out.below hal)
    have HX3 := hid (Box.new wr #[.int .i64 (s.item k).kind, .int .i64 (s.item k).which, .int .i64 (s.item k).port, .int .i64 (s.item k).id, .string (s.item k).r.key, .int .i64 (s.item k).r.v.kind, .int .i64 (s.item k).r.v.int, .string (s.item k).r.v.text, .slice (s.item k).r.v.p (s.item k).r.v.n (s.item k).r.v.c, .slice (s.item k).r.p (s.item k).r.n (s.item k).r.c, .slice (s.item k).a.p (s.item k).a.n (s.item k).a.c, .slice (s.item k).q.p (s.item k).q.n (s.item k).q.c, .int .i64 (s.item k).num, .slice (s.item k).l.p (s.item k).l.n (s.item k).l.c] 42)
    have hnC : ¬ K.C w.heap.size wr.heap.size := fun e => by have := HBok.out.i.lt e; omega
    have HnC := hid hnC
    clear hal hnC
    by_cases k1 : (s.item k).kind = 1
    · rw [k1] at c0
      have HT := hid (took_any (s.item k).port (s.item k).r _ (fun b => b < w.heap.size) w.heap.size K H3.out.i (HIn.out _ H3.out.bel).r HOs.out.r (fun i hi => by have := HLgN.out i hi; omega))
      rw [k1] at HT
      go_wp2_with fail
      refine HT.out.mono ?_
      rintro e w4 ⟨K4, rfl, hQ⟩
      rw [k1] at H3
      have H4 := hid (H3.out.step hQ.s)
      have HJ4 := hid (HRJ.out.took hQ)
      have HL4 := hid (HLgN.out.took hQ)
      clear hQ HT
      go_wp2
      go_roundw
      case rel => exact ⟨k + 1, c, h, K4, by omega, by omega, rfl, rfl, by go_num, H4.out, HJ4.out, HL4.out.le (by omega)⟩
      case measure => simp [intOf]; omega
    have k1' : ((s.item k).kind == 1) = false := by simp [k1]
    by_cases k2 : (s.item k).kind = 2
    · rw [k2] at c0 k1'
      have HT := hid (mark_any (s.item k).port (s.item k).id (s.item k).a (s.item k).num (s.item k).l (s.item k).q _ (fun b => b < w.heap.size) w.heap.size K H3.out.i (fun x hx e => by have := HBok.out.c x e; omega) (HIn.out _ H3.out.bel).l (HIn.out _ H3.out.bel).q HOs.out.l HOs.out.q (HIn.out _ H3.out.bel).a HOs.out.a (fun i hi => by have := HLgN.out i hi; omega))
      rw [k2] at HT H3 HX3
      go_wp2_with fail
      refine HT.out.mono ?_
      rintro e w4 ⟨K4, r4, rfl, hQ⟩
      have H4 := hid (H3.out.step hQ.s)
      have hJ4 := HRJ.out.mark hQ
      have HL4 := hid (HLgN.out.mark HOs.out.a hQ)
      have hX4 := HX3.out.kept (hQ.s.but.block _ HX3.out.lt HnC.out)
      have y3 := hX4.cell 3
      have hl4 := hX4.lt
      have hbl4 := H4.out.i.box.lt
      simp at y3
      clear hQ HT hX4 c0 c1 c2 c3 c4 c5 c6 c7 c8 c9 c10 c11 c12 c13
      rcases r4 with _ | _
      · have HJ4 := hid (hJ4.2 rfl)
        clear hJ4
        go_wp2_with fail
        refine wp_region_calmE 30 (fun wx => Below w4.heap.size w4 wx) [(0, true), (1, true), (2, true), (3, false), (4, true), (5, true), (6, true), (7, true), (9, true), (10, false)] (.one 8 true [(11, true), (12, true), (13, true)] .done) (by kernel_rfl) (by kernel_rfl) (Below.refl _ _).drew ?_
        refine wpPre_e rfl rfl (fun K1 hK1 => ?_)
        apply Exists.intro
        refine And.intro (fun wx hx => ?_) ?_
        · go_simp
          try rfl
        go_simp
        refine hK1 _ ?_
        clear hK1 K1
        refine wpPre_e rfl rfl (fun K1 hK1 => ?_)
        apply Exists.intro
        refine And.intro (fun wx hx => ?_) ?_
        · go_simp
          try rfl
        go_simp
        refine hK1 _ ?_
        clear hK1 K1
        refine wpPre_i rfl (fun K1 hK1 => ?_)
        rw [if_neg (by go_simp; all_goals (intro h; cases h))]
        go_simp
        refine hK1 _ ?_
        clear hK1 K1
        refine wpPre_i rfl (fun K1 hK1 => ?_)
        rw [if_neg (by go_simp; all_goals (intro h; cases h))]
        go_simp
        refine hK1 _ ?_
        clear hK1 K1
        refine wpPre_i rfl (fun K1 hK1 => ?_)
        rw [if_neg (by go_simp; all_goals (intro h; cases h))]
        go_simp
        refine hK1 _ ?_
        clear hK1 K1
        refine wpPre_i rfl (fun K1 hK1 => ?_)
        rw [if_neg (by go_simp; all_goals (intro h; cases h))]
        go_simp
        refine hK1 _ ?_
        clear hK1 K1
        refine wpPre_i rfl (fun K1 hK1 => ?_)
        rw [if_neg (by go_simp; all_goals (intro h; cases h))]
        go_simp
        refine hK1 _ ?_
        clear hK1 K1
        refine wpPre_i rfl (fun K1 hK1 => ?_)
        rw [if_neg (by go_simp; all_goals (intro h; cases h))]
        go_simp
        refine hK1 _ ?_
        clear hK1 K1
        refine wpPre_i rfl (fun K1 hK1 => ?_)
        rw [if_neg (by go_simp; all_goals (intro h; cases h))]
        go_simp
        refine hK1 _ ?_
        clear hK1 K1
        refine wpPre_i rfl (fun K1 hK1 => ?_)
        rw [if_neg (by go_simp; all_goals (intro h; cases h))]
        go_simp
        refine hK1 _ ?_
        clear hK1 K1
        refine wpPre_nil ?_
        refine wpTr_e rfl (fun K1 hK1 => ?_)
        rw [if_neg (by go_simp; all_goals (intro h; cases h))]
        go_simp
        refine hK1 _ _ (fun _ => (Below.refl _ _).drew) ?_
        clear hK1 K1
        refine wpPre_i rfl (fun K1 hK1 => ?_)
        rw [if_neg (by go_simp; all_goals (intro h; cases h))]
        go_simp
        refine hK1 _ ?_
        clear hK1 K1
        refine wpPre_i rfl (fun K1 hK1 => ?_)
        rw [if_neg (by go_simp; all_goals (intro h; cases h))]
        go_simp
        refine hK1 _ ?_
        clear hK1 K1
        refine wpPre_e rfl rfl (fun K1 hK1 => ?_)
        apply Exists.intro
        refine And.intro (fun wx hx => ?_) ?_
        · go_simp
          try rfl
        go_simp
        refine hK1 _ ?_
        clear hK1 K1
        refine wpPre_nil ?_
        refine wpTr_done ?_
        go_wp2
        go_roundw
        case rel => exact ⟨k + 1, c, h, K4, by omega, by omega, rfl, rfl, by go_num, H4.out.below (Below.refl _ _).drew, HJ4.out, HL4.out.le (by omega)⟩
        case measure => simp [intOf]; omega
      · obtain ⟨hlt4, hnow, hJ4⟩ := hJ4.1 rfl
        have HJ4 := hid hJ4
        have hle4 : ¬ (s.item k).id ≤ c := by omega
        have HNo := hid (now_any w4.drew w.heap.size K4 (H4.out.i.below (Below.refl _ _).drew))
        clear hJ4
        go_wp2_with fail
        refine wp_region_calmE 30 (fun wx => Below w4.heap.size w4 wx) [(0, true), (1, true), (2, true), (3, false), (4, true), (5, true), (6, true), (7, true), (9, true), (10, false)] (.one 8 true [(11, true), (12, true), (13, true)] .done) (by kernel_rfl) (by kernel_rfl) (Below.refl _ _).drew ?_
        refine wpPre_e rfl rfl (fun K1 hK1 => ?_)
        apply Exists.intro
        refine And.intro (fun wx hx => ?_) ?_
        · go_simp
          try rfl
        go_simp
        refine hK1 _ ?_
        clear hK1 K1
        refine wpPre_e rfl rfl (fun K1 hK1 => ?_)
        apply Exists.intro
        refine And.intro (fun wx hx => ?_) ?_
        · go_simp
          try rfl
        go_simp
        refine hK1 _ ?_
        clear hK1 K1
        refine wpPre_i rfl (fun K1 hK1 => ?_)
        rw [if_pos (by go_simp)]
        apply Exists.intro
        refine And.intro (fun wx hx => ?_) ?_
        · go_simp
          try rfl
        go_simp
        refine hK1 _ ?_
        clear hK1 K1
        refine wpPre_i rfl (fun K1 hK1 => ?_)
        rw [if_pos (by go_simp)]
        apply Exists.intro
        refine And.intro (fun wx hx => ?_) ?_
        · have e0 := below_fact hx rfl y3
          go_simp
          try rfl
        go_simp
        refine hK1 _ ?_
        clear hK1 K1
        refine wpPre_i rfl (fun K1 hK1 => ?_)
        rw [if_pos (by go_simp)]
        apply Exists.intro
        refine And.intro (fun wx hx => ?_) ?_
        · go_simp
          try rfl
        go_simp
        refine hK1 _ ?_
        clear hK1 K1
        refine wpPre_i rfl (fun K1 hK1 => ?_)
        rw [if_pos (by go_simp)]
        apply Exists.intro
        refine And.intro (fun wx hx => ?_) ?_
        · go_simp
          try rfl
        go_simp
        refine hK1 _ ?_
        clear hK1 K1
        refine wpPre_i rfl (fun K1 hK1 => ?_)
        rw [if_pos (by go_simp)]
        apply Exists.intro
        refine And.intro (fun wx hx => ?_) ?_
        · go_simp
          try rfl
        go_simp
        refine hK1 _ ?_
        clear hK1 K1
        refine wpPre_i rfl (fun K1 hK1 => ?_)
        rw [if_pos (by go_simp)]
        apply Exists.intro
        refine And.intro (fun wx hx => ?_) ?_
        · go_simp
          try rfl
        go_simp
        refine hK1 _ ?_
        clear hK1 K1
        refine wpPre_i rfl (fun K1 hK1 => ?_)
        rw [if_pos (by go_simp)]
        apply Exists.intro
        refine And.intro (fun wx hx => ?_) ?_
        · go_simp
          try rfl
        go_simp
        refine hK1 _ ?_
        clear hK1 K1
        refine wpPre_i rfl (fun K1 hK1 => ?_)
        rw [if_pos (by go_simp)]
        apply Exists.intro
        refine And.intro (fun wx hx => ?_) ?_
        · have e0 := below_fact hx rfl y3
          go_simp
          try rfl
        go_simp
        refine hK1 _ ?_
        clear hK1 K1
        refine wpPre_nil ?_
        refine wpTr_e rfl (fun K1 hK1 => ?_)
        rw [if_pos (by go_simp)]
        refine wp_callG 16 #[.tmp 95] _ rfl Try.f16 Try.func16 (by kernel_rfl) rfl #[.pointer (some ⟨w.heap.size, 0, none⟩)] rfl _ HNo.out (fun e w5 h5 => ?_)
        obtain ⟨rfl, rfl⟩ := h5
        refine ⟨_, rfl, ?_⟩
        rw [hnow]
        go_simp
        refine hK1 _ _ (fun _ => (Below.refl _ _).drew) ?_
        clear hK1 K1
        refine wpPre_i rfl (fun K1 hK1 => ?_)
        rw [if_pos (by go_simp)]
        apply Exists.intro
        refine And.intro (fun wx hx => ?_) ?_
        · go_simp
          try rfl
        go_simp
        refine hK1 _ ?_
        clear hK1 K1
        refine wpPre_i rfl (fun K1 hK1 => ?_)
        rw [if_pos (by go_simp)]
        apply Exists.intro
        refine And.intro (fun wx hx => ?_) ?_
        · go_simp
          try rfl
        go_simp
        refine hK1 _ ?_
        clear hK1 K1
        refine wpPre_e rfl rfl (fun K1 hK1 => ?_)
        apply Exists.intro
        refine And.intro (fun wx hx => ?_) ?_
        · go_simp
          try rfl
        go_simp
        refine hK1 _ ?_
        clear hK1 K1
        refine wpPre_nil ?_
        refine wpTr_done ?_
        go_wp2
        go_roundw
        case rel => exact ⟨k + 1, (s.item k).id, h, K4, by omega, by omega, rfl, rfl, by go_num, H4.out.below (Below.refl _ _).drew, HJ4.out, HL4.out.le (by omega)⟩
        case measure => simp [intOf]; omega
    have k2' : ((s.item k).kind == 2) = false := by simp [k2]
    by_cases k3 : (s.item k).kind = 3
    · rw [k3] at c0 k1' k2'
      have HT := hid (part_any _ w.heap.size K H3.out.i)
      rw [k3] at HT H3
      go_wp2_with fail
      refine HT.out.mono ?_
      rintro e w4 ⟨K4, hP⟩
      have H4 := hid (H3.out.step hP.s)
      rcases hd : (K.cp && !K.opn) with _ | _
      · obtain ⟨rfl, rfl⟩ := hP.n hd
        have H5 := hid (H4.out.below ((Below.refl w4.heap.size w4).alloc (Nat.le_refl _) (.cells #[.int .i64 0, .slice none 0 0, .slice none 0 0, .slice none 0 0] 49)))
        clear hP HT c0 c1 c2 c3 c4 c5 c6 c7 c8 c9 c10 c11 c12 c13
        go_wp2
        go_roundw
        case rel => exact ⟨k + 1, c, h, K4, by omega, by omega, rfl, rfl, by go_num, H5.out, HRJ.out, HLgN.out.le (by omega)⟩
        case measure => simp [intOf]; omega
      · obtain ⟨hK4, pL, cL, rfl, _⟩ := hP.y hd
        subst hK4
        obtain ⟨j1, j2, j3⟩ := HRJ.out.part hd
        have HJ4 := hid j3
        have j2' : ¬ K.now ≤ h := by omega
        have j1' : (K.now != c) = false := by simp [j1]
        have H5 := hid (H4.out.below ((Below.refl w4.heap.size w4).alloc (Nat.le_refl _) (.cells #[.int .i64 K.num, .slice K.cl.p K.cl.n K.cl.c, .slice pL K.ports.toNat cL, .slice K.pd.p K.pd.n K.pd.c] 49)))
        clear hP HT c0 c1 c2 c3 c4 c5 c6 c7 c8 c9 c10 c11 c12 c13 j3 j1 j2
        go_wp2
        go_roundw
        case rel => exact ⟨k + 1, c, K.now, K.part, by omega, by omega, rfl, rfl, by go_num, H5.out, HJ4.out, LgN.part _⟩
        case measure => simp [intOf]; omega
    have k3' : ((s.item k).kind == 3) = false := by simp [k3]
    go_wp2
    go_roundw
    case rel => exact ⟨k + 1, c, h, K, by omega, by omega, rfl, rfl, by go_num, H3.out, HRJ.out, HLgN.out.le (by omega)⟩
    case measure => simp [intOf]; omega
end Go.Proofs.Ytdncnnjhfipokaa
