import Derived.Test.YtdncnnjhfipokaaPack35
import Derived.Test.YtdncnnjhfipokaaKdB
import Derived.Deep.DeepCutAuto
namespace Go.Proofs.Ytdncnnjhfipokaa
open Go.RowKit
set_option maxRecDepth 8000
theorem MarkQ.pm {x id : Int} {a : LT RT} {num : Int} {l : LT VT} {q : LT RT} {w w' : World} {b : Nat} {K K' : Bk} {r : Bool} {mode ports back : Int} (m : MarkQ x id a num l q w b K w' K' r) (h : K.mode = mode ∧ K.ports = ports ∧ K.back = back) : K'.mode = mode ∧ K'.ports = ports ∧ K'.back = back := by
  rcases e : K.marks x id with _ | _
  · rw [(m.n e).1]; exact h
  · obtain ⟨w1, _, _, hQ⟩ := m.y e
    have hb : (K.base id).mode = K.mode ∧ (K.base id).ports = K.ports ∧ (K.base id).back = K.back := by unfold Bk.base; split <;> exact ⟨rfl, rfl, rfl⟩
    exact ⟨hQ.b.mode.trans (hb.1.trans h.1), hQ.b.ports.trans (hb.2.1.trans h.2.1), hQ.b.back.trans (hb.2.2.trans h.2.2)⟩
set_option maxHeartbeats 32000000 in
theorem logs_walk (mode ports back : Int) (s : LT OpT) (w : World) (hin : LT.In elOp w (fun b => b < w.heap.size) s) : Calls Try.prog 6 #[.int .i64 mode, .int .i64 ports, .int .i64 back, .slice s.p s.n s.c] w fun e w' => e = .returned (.bool true) ∧ Below w.heap.size w w' := by
  have HI := hid hin
  have hnn := hin.nn
  clear hin
  have HL := hid (legal_any mode ports back w)
  unfold LegP at HL
  have HNw := hid (new_any mode ports back w)
  rcases hlg : legalB mode ports back with _ | _
  · rw [hlg] at HL
    have HLg := hid hlg
    clear hlg
    go_enter Try.func6, Try.ntmps6
    go_wp2_with fail
    refine HL.out.mono ?_
    rintro e w1 ⟨rfl, hw1⟩
    rw [hw1]
    clear hw1 w1
    go_wp2_with fail
    refine HNw.out.mono ?_
    rintro e w2 hnew
    obtain ⟨hw2, kk, hkk, rfl⟩ := hnew.2 HLg.out
    rw [hw2]
    clear hnew hw2 HNw HL
    rcases hkk with rfl | rfl
    · go_wp2_with (go_at_call 11; refine (num_any _ _).mono ?_; rintro e w3 ⟨rfl, rfl⟩)
      exact bodyPost_ret (v := .bool true) (by simp [results, Try.results6, go_sem]) rfl ⟨rfl, Below.refl _ _⟩
    · go_wp2_with (go_at_call 11; refine (num_any _ _).mono ?_; rintro e w3 ⟨rfl, rfl⟩)
      exact bodyPost_ret (v := .bool true) (by simp [results, Try.results6, go_sem]) rfl ⟨rfl, Below.refl _ _⟩
  rw [hlg] at HL
  have hm : 1 ≤ mode ∧ mode ≤ 3 ∧ 1 ≤ ports ∧ ports ≤ 4 := by have := of_decide_eq_true hlg; omega
  obtain ⟨N, rfl⟩ : ∃ N : Nat, ports = (N : Int) := ⟨ports.toNat, by omega⟩
  have hN4 : N ≤ 4 := by omega
  have HLg := hid hlg
  have HKi := hid (Bok.fresh mode N back w hlg)
  clear hlg
  go_enter Try.func6, Try.ntmps6
  go_wp2_with fail
  refine HL.out.mono ?_
  rintro e w1 ⟨rfl, hw1⟩
  rw [hw1]
  clear hw1 w1
  go_wp2_with fail
  refine HNw.out.mono ?_
  rintro e w2 hnew
  obtain ⟨rfl, hw2⟩ := hnew.1 HLg.out
  have H2 : Hid (Bok w w2 w.heap.size (Bk.fresh mode N back)) := by unfold Hid; rw [hw2]; exact HKi.out
  clear hnew hw2 HNw HKi HL
  go_wp2_with (first | (go_at_call 11; refine (num_any _ _).mono ?_; rintro e w3 ⟨rfl, rfl⟩) | (go_at_call 12; refine (known_any mode hm.1 hm.2.1 _).mono ?_; rintro e w4 ⟨rfl, hb4⟩; have H4 := hid (H2.out.below hb4); clear hb4))
  have HIn4 : Hid (LT.In elOp w4 (fun b => b < w.heap.size) s) := HI.out.kept H4.out.bel.size (fun b hb _ => H4.out.bel.block b hb)
  refine (inside_any s w4 (HIn4.out.mono (fun b _ hl => hl))).mono ?_
  rintro e w5 ⟨hb5, r5, rfl, hsz⟩
  have H5 := hid (H4.out.below hb5)
  have HSz := hid hsz
  clear hb5 hsz H4 H2 HIn4
  rcases r5 with _ | _
  · go_wp2
    exact bodyPost_ret (v := .bool true) (by simp [results, Try.results6, go_sem]) rfl ⟨rfl, H5.out.bel⟩
  have HSz2 := hid (HSz.out rfl)
  clear HSz
  go_wp2_with fail
  obtain ⟨vb, hvb⟩ : ∃ x, x = w5.heap.size := ⟨_, rfl⟩
  obtain ⟨b, hb⟩ : ∃ x, x = w.heap.size := ⟨_, rfl⟩
  have HBV0 : Hid (BV w (w5.alloc (.cells (Vw.fresh 0).arr 59)) b vb (Bk.fresh mode N back) (Vw.fresh 0)) := by
    unfold Hid
    rw [hb]
    refine ⟨H5.out.below ((Below.refl _ _).alloc (Nat.le_refl _) _), Vw.start w5 vb hvb, fun k hk e => ?_, fun k hk => ?_⟩
    · have h1 := H5.out.i.lt hk
      rcases e with e | ⟨j, _, e⟩
      · omega
      · cases e
    · rcases hk with e | ⟨j, _, e⟩
      · have := H5.out.bel.size; omega
      · cases e
  rw [show (Vw.fresh 0).arr = #[.int .i64 0, .bool false, .int .i64 0, .slice none 0 0, .slice none 0 0, .bool false, .bool false, .bool false, .bool false, .slice none 0 0, .slice none 0 0, .slice none 0 0, .slice none 0 0, .bool false] from rfl] at HBV0
  rw [← hvb, ← hb]
  generalize w5.alloc (.cells #[.int .i64 0, .bool false, .int .i64 0, .slice none 0 0, .slice none 0 0, .bool false, .bool false, .bool false, .bool false, .slice none 0 0, .slice none 0 0, .slice none 0 0, .slice none 0 0, .bool false] 59) = w6 at HBV0 ⊢
  clear hvb hb H5
  go_loopw [14] (fun xi wr => ∃ (k : Nat) (K : Bk) (V : Vw), k ≤ s.n ∧ k ≤ 600 ∧ xi = .int .i64 (k : Int) ∧ BV w wr b vb K V ∧ LP N K V ∧ LM w.heap.size wr b vb K V ∧ (K.mode = mode ∧ K.ports = (N : Int) ∧ K.back = back) ∧ LgN K (10000 * k) ∧ VLn V (10000 * k)) (fun x _ => s.n - (intOf x).toNat)
  case atStart => exact ⟨0, Bk.fresh mode N back, Vw.fresh 0, Nat.zero_le _, by omega, rfl, HBV0.out, LP.fresh _ _ _ _, LM.fresh _ _ _ _ _ _ _, ⟨rfl, rfl, rfl⟩, fun _ _ => Nat.zero_le _, fun _ _ => Nat.zero_le _⟩
  case round =>
    obtain ⟨k, K, V, hk, hk6, rfl, hBV, hJ, hM, hPm, hLg, hVl⟩ := hrel
    have HBV := hid hBV
    have HJ1 := hid hJ
    have HLM := hid hM
    have HPm := hid hPm
    have HLgN := hid hLg
    have HVln := hid hVl
    have hbl := hBV.bok.i.box.lt
    clear hBV hJ hM hPm hLg hVl HBV0
    by_cases hlt : k < s.n
    rotate_left
    · have hlt' : ¬ (k : Int) < (s.n : Int) := by omega
      go_wp2
      exact bodyPost_ret (v := .bool true) (by simp [results, Try.results6, go_sem]) rfl ⟨rfl, HBV.out.bok.bel⟩
    have hlt' : (k : Int) < (s.n : Int) := by omega
    by_cases hlt6 : k < 600
    rotate_left
    · have hlt6' : ¬ (k : Int) < 600 := by omega
      go_wp2
      exact bodyPost_ret (v := .bool true) (by simp [results, Try.results6, go_sem]) rfl ⟨rfl, HBV.out.bok.bel⟩
    have hlt6' : (k : Int) < 600 := by omega
    obtain ⟨bb, o, hp, hSb, hbb, hat⟩ := HI.out.at_ (by omega)
    rw [hp]
    have hcell : ∀ r u, (elOp.cells (s.item k))[r]? = some u → wr.cell? ⟨bb, o + k * 14 + r, none⟩ = some u := fun r u hu => (World.cell?_of_block (a := ⟨bb, o + k * 14 + r, none⟩) (HBV.out.bok.bel.block bb hbb)).trans (hat k hlt r u hu)
    have c0 : wr.cell? ⟨bb, o + k * 14, none⟩ = some (.int .i64 (s.item k).kind) := hcell 0 _ rfl
    have c1 : wr.cell? ⟨bb, o + k * 14 + 1, none⟩ = some (.int .i64 (s.item k).which) := hcell 1 _ rfl
    have c2 : wr.cell? ⟨bb, o + k * 14 + 2, none⟩ = some (.int .i64 (s.item k).port) := hcell 2 _ rfl
    have c3 : wr.cell? ⟨bb, o + k * 14 + 3, none⟩ = some (.int .i64 (s.item k).id) := hcell 3 _ rfl
    have c4 : wr.cell? ⟨bb, o + k * 14 + 4, none⟩ = some (.string (s.item k).r.key) := hcell 4 _ rfl
    have c5 : wr.cell? ⟨bb, o + k * 14 + 5, none⟩ = some (.int .i64 (s.item k).r.v.kind) := hcell 5 _ rfl
    have c6 : wr.cell? ⟨bb, o + k * 14 + 6, none⟩ = some (.int .i64 (s.item k).r.v.int) := hcell 6 _ rfl
    have c7 : wr.cell? ⟨bb, o + k * 14 + 7, none⟩ = some (.string (s.item k).r.v.text) := hcell 7 _ rfl
    have c8 : wr.cell? ⟨bb, o + k * 14 + 8, none⟩ = some (.slice (s.item k).r.v.p (s.item k).r.v.n (s.item k).r.v.c) := hcell 8 _ rfl
    have c9 : wr.cell? ⟨bb, o + k * 14 + 9, none⟩ = some (.slice (s.item k).r.p (s.item k).r.n (s.item k).r.c) := hcell 9 _ rfl
    have c10 : wr.cell? ⟨bb, o + k * 14 + 10, none⟩ = some (.slice (s.item k).a.p (s.item k).a.n (s.item k).a.c) := hcell 10 _ rfl
    have c11 : wr.cell? ⟨bb, o + k * 14 + 11, none⟩ = some (.slice (s.item k).q.p (s.item k).q.n (s.item k).q.c) := hcell 11 _ rfl
    have c12 : wr.cell? ⟨bb, o + k * 14 + 12, none⟩ = some (.int .i64 (s.item k).num) := hcell 12 _ rfl
    have c13 : wr.cell? ⟨bb, o + k * 14 + 13, none⟩ = some (.slice (s.item k).l.p (s.item k).l.n (s.item k).l.c) := hcell 13 _ rfl
    have HIn : Hid (∀ V, Below w.heap.size w V → OpT.In V (fun b => b < w.heap.size) (s.item k)) := fun V hV => (OpT.at_ HI.out hlt).kept hV.size (fun b hb _ => hV.block b hb)
    have HOs := hid (HSz2.out k hlt)
    clear hcell hat hp
    have hal : Below wr.heap.size wr (wr.alloc (.cells #[.int .i64 (s.item k).kind, .int .i64 (s.item k).which, .int .i64 (s.item k).port, .int .i64 (s.item k).id, .string (s.item k).r.key, .int .i64 (s.item k).r.v.kind, .int .i64 (s.item k).r.v.int, .string (s.item k).r.v.text, .slice (s.item k).r.v.p (s.item k).r.v.n (s.item k).r.v.c, .slice (s.item k).r.p (s.item k).r.n (s.item k).r.c, .slice (s.item k).a.p (s.item k).a.n (s.item k).a.c, .slice (s.item k).q.p (s.item k).q.n (s.item k).q.c, .int .i64 (s.item k).num, .slice (s.item k).l.p (s.item k).l.n (s.item k).l.c] 42)) := (Below.refl _ _).alloc (Nat.le_refl _) _
    have HBV1 := hid (HBV.out.below hal)
    have HXo := hid (Box.new wr #[.int .i64 (s.item k).kind, .int .i64 (s.item k).which, .int .i64 (s.item k).port, .int .i64 (s.item k).id, .string (s.item k).r.key, .int .i64 (s.item k).r.v.kind, .int .i64 (s.item k).r.v.int, .string (s.item k).r.v.text, .slice (s.item k).r.v.p (s.item k).r.v.n (s.item k).r.v.c, .slice (s.item k).r.p (s.item k).r.n (s.item k).r.c, .slice (s.item k).a.p (s.item k).a.n (s.item k).a.c, .slice (s.item k).q.p (s.item k).q.n (s.item k).q.c, .int .i64 (s.item k).num, .slice (s.item k).l.p (s.item k).l.n (s.item k).l.c] 42)
    have HnK : Hid (¬ K.C b wr.heap.size) := fun e => by have := HBV.out.bok.i.lt e; omega
    have HnV : Hid (¬ V.C vb wr.heap.size) := fun e => by have := HBV.out.v.lt e; omega
    obtain ⟨ob, hob⟩ : ∃ x, x = wr.heap.size := ⟨_, rfl⟩
    have HLM1 := hid (HLM.out.below HBV.out hal)
    clear hal
    go_upto_region 14 with fail
    obtain ⟨W1, hW1⟩ : ∃ x, x = wr.alloc (.cells #[.int .i64 (s.item k).kind, .int .i64 (s.item k).which, .int .i64 (s.item k).port, .int .i64 (s.item k).id, .string (s.item k).r.key, .int .i64 (s.item k).r.v.kind, .int .i64 (s.item k).r.v.int, .string (s.item k).r.v.text, .slice (s.item k).r.v.p (s.item k).r.v.n (s.item k).r.v.c, .slice (s.item k).r.p (s.item k).r.n (s.item k).r.c, .slice (s.item k).a.p (s.item k).a.n (s.item k).a.c, .slice (s.item k).q.p (s.item k).q.n (s.item k).q.c, .int .i64 (s.item k).num, .slice (s.item k).l.p (s.item k).l.n (s.item k).l.c] 42) := ⟨_, rfl⟩
    rw [← hW1] at HBV1 HLM1 HXo ⊢
    rw [← hob] at HXo HnK HnV ⊢
    have z0 := HXo.out.cell 0
    have z1 := HXo.out.cell 1
    have z2 := HXo.out.cell 2
    have z3 := HXo.out.cell 3
    have z4 := HXo.out.cell 4
    have z5 := HXo.out.cell 5
    have z6 := HXo.out.cell 6
    have z7 := HXo.out.cell 7
    have z8 := HXo.out.cell 8
    have z9 := HXo.out.cell 9
    have z10 := HXo.out.cell 10
    have z11 := HXo.out.cell 11
    have z12 := HXo.out.cell 12
    have z13 := HXo.out.cell 13
    simp at z0 z1 z2 z3 z4 z5 z6 z7 z8 z9 z10 z11 z12 z13
    have ol := HXo.out.lt
    have bl := HBV1.out.bok.i.box.lt
    clear hW1 hob c0 c1 c2 c3 c4 c5 c6 c7 c8 c9 c10 c11 c12 c13
    by_cases k1 : (s.item k).kind = 1
    · rw [k1] at z0
      by_cases hte : K.tookE (s.item k).port = 0
      rotate_left
      · as_aux_lemma =>
          have hte' : (K.tookE (s.item k).port == 0) = false := by simp [hte]
          have HLy := hid (Bk.lays_no hte)
          clear hte
          have HT := hid (took_any (s.item k).port (s.item k).r W1 (fun b => b < w.heap.size) b K HBV1.out.bok.i (HIn.out _ HBV1.out.bok.bel).r HOs.out.r (fun i hi => by have := HLgN.out i hi; omega))
          go_wp2_with (first | (go_at_call 14; refine HT.out.mono ?_; rintro e w4 ⟨K4, rfl, hQ⟩) | (go_at_call 11; refine (num_any _ _).mono ?_; rintro e w5 ⟨rfl, hw5⟩; rw [hw5]; clear hw5 w5))
          obtain rfl : K4 = K := hQ.n HLy.out
          have HA := hid (And.intro (HBV1.out.bstep hQ.s) (HLM1.out.took HBV1.out hQ))
          clear hQ HT HLy z0 z1 z2 z3 z4 z5 z6 z7 z8 z9 z10 z11 z12 z13
          refine wp_region_calmD 30 (fun wx => Below w4.heap.size w4 wx) [(0, true), (1, true), (2, true), (3, true), (4, true), (5, true), (6, false), (7, true), (8, true), (9, true), (10, true), (11, false), (12, true), (13, true), (14, true), (15, false), (16, true), (17, true)] [] (by kernel_rfl) (by kernel_rfl) (Below.refl _ _).drew ?_
          refine wpPre_e rfl rfl (fun K1 hK1 => ?_)
          apply Exists.intro
          refine And.intro (fun wx hx => ?_) ?_
          · go_simp
            try rfl
          go_simp
          refine hK1 _ ?_
          clear hK1 K1
          refine wpPre_e rfl rfl (fun K1 hK1 => ?_)
          apply Exists.intro
          refine And.intro (fun wx hx => ?_) ?_
          · go_simp
            try rfl
          go_simp
          refine hK1 _ ?_
          clear hK1 K1
          refine wpPre_e rfl rfl (fun K1 hK1 => ?_)
          apply Exists.intro
          refine And.intro (fun wx hx => ?_) ?_
          · go_simp
            try rfl
          go_simp
          refine hK1 _ ?_
          clear hK1 K1
          refine wpPre_i rfl (fun K1 hK1 => ?_)
          rw [if_neg (by go_simp; all_goals (intro h; cases h))]
          go_simp
          refine hK1 _ ?_
          clear hK1 K1
          refine wpPre_i rfl (fun K1 hK1 => ?_)
          rw [if_neg (by go_simp; all_goals (intro h; cases h))]
          go_simp
          refine hK1 _ ?_
          clear hK1 K1
          refine wpPre_i rfl (fun K1 hK1 => ?_)
          rw [if_neg (by go_simp; all_goals (intro h; cases h))]
          go_simp
          refine hK1 _ ?_
          clear hK1 K1
          refine wpPre_i rfl (fun K1 hK1 => ?_)
          rw [if_neg (by go_simp; all_goals (intro h; cases h))]
          go_simp
          refine hK1 _ ?_
          clear hK1 K1
          refine wpPre_e rfl rfl (fun K1 hK1 => ?_)
          apply Exists.intro
          refine And.intro (fun wx hx => ?_) ?_
          · go_simp
            try rfl
          go_simp
          refine hK1 _ ?_
          clear hK1 K1
          refine wpPre_e rfl rfl (fun K1 hK1 => ?_)
          apply Exists.intro
          refine And.intro (fun wx hx => ?_) ?_
          · go_simp
            try rfl
          go_simp
          refine hK1 _ ?_
          clear hK1 K1
          refine wpPre_i rfl (fun K1 hK1 => ?_)
          rw [if_neg (by go_simp; all_goals (intro h; cases h))]
          go_simp
          refine hK1 _ ?_
          clear hK1 K1
          refine wpPre_i rfl (fun K1 hK1 => ?_)
          rw [if_neg (by go_simp; all_goals (intro h; cases h))]
          go_simp
          refine hK1 _ ?_
          clear hK1 K1
          refine wpPre_i rfl (fun K1 hK1 => ?_)
          rw [if_neg (by go_simp; all_goals (intro h; cases h))]
          go_simp
          refine hK1 _ ?_
          clear hK1 K1
          refine wpPre_i rfl (fun K1 hK1 => ?_)
          rw [if_neg (by go_simp; all_goals (intro h; cases h))]
          go_simp
          refine hK1 _ ?_
          clear hK1 K1
          refine wpPre_i rfl (fun K1 hK1 => ?_)
          rw [if_neg (by go_simp; all_goals (intro h; cases h))]
          go_simp
          refine hK1 _ ?_
          clear hK1 K1
          refine wpPre_i rfl (fun K1 hK1 => ?_)
          rw [if_neg (by go_simp; all_goals (intro h; cases h))]
          go_simp
          refine hK1 _ ?_
          clear hK1 K1
          refine wpPre_i rfl (fun K1 hK1 => ?_)
          rw [if_neg (by go_simp; all_goals (intro h; cases h))]
          go_simp
          refine hK1 _ ?_
          clear hK1 K1
          refine wpPre_i rfl (fun K1 hK1 => ?_)
          rw [if_neg (by go_simp; all_goals (intro h; cases h))]
          go_simp
          refine hK1 _ ?_
          clear hK1 K1
          refine wpPre_e rfl rfl (fun K1 hK1 => ?_)
          apply Exists.intro
          refine And.intro (fun wx hx => ?_) ?_
          · go_simp
            try rfl
          go_simp
          refine hK1 _ ?_
          clear hK1 K1
          refine wpPre_nil ?_
          refine wpStg_nil ?_
          obtain ⟨wc, hwc⟩ : ∃ x, x = w4.drew := ⟨_, rfl⟩
          rw [← hwc]
          have H6 : Hid (BV w wc b vb K4 V ∧ LM w.heap.size wc b vb K4 V ∧ LP N K4 V ∧ (K4.mode = mode ∧ K4.ports = (N : Int) ∧ K4.back = back) ∧ LgN K4 (10000 * k + 10000) ∧ VLn V (10000 * k + 10000)) := by
            unfold Hid
            rw [hwc]
            exact ⟨HA.out.1.below (Below.refl _ _).drew, HA.out.2.below HA.out.1 (Below.refl _ _).drew, HJ1.out, HPm.out, HLgN.out.le (by omega), HVln.out.le (by omega)⟩
          clear hwc HA
          have v0 := H6.out.1.v.box.cell 0
          simp [Vw.arr] at v0
          rw [H6.out.2.2.1.id] at v0
          have vl6 := H6.out.1.v.box.lt
          have HNw := hid (now_any wc.drew b K4 (H6.out.1.bok.i.below (Below.refl _ _).drew))
          go_wp2_with fail
          refine wp_region_calmE 30 (fun wx => Below wc.heap.size wc wx) [(0, true), (2, true), (3, true), (4, true), (5, false)] (.one 1 true [(6, true)] .done) (by kernel_rfl) (by kernel_rfl) (Below.refl _ _).drew ?_
          refine wpPre_e rfl rfl (fun K1 hK1 => ?_)
          apply Exists.intro
          refine And.intro (fun wx hx => ?_) ?_
          · go_simp
            try rfl
          go_simp
          refine hK1 _ ?_
          clear hK1 K1
          refine wpPre_e rfl rfl (fun K1 hK1 => ?_)
          apply Exists.intro
          refine And.intro (fun wx hx => ?_) ?_
          · go_simp
            try rfl
          go_simp
          refine hK1 _ ?_
          clear hK1 K1
          refine wpPre_e rfl rfl (fun K1 hK1 => ?_)
          apply Exists.intro
          refine And.intro (fun wx hx => ?_) ?_
          · go_simp
            try rfl
          go_simp
          refine hK1 _ ?_
          clear hK1 K1
          refine wpPre_e rfl rfl (fun K1 hK1 => ?_)
          apply Exists.intro
          refine And.intro (fun wx hx => ?_) ?_
          · go_simp
            try rfl
          go_simp
          refine hK1 _ ?_
          clear hK1 K1
          refine wpPre_e rfl rfl (fun K1 hK1 => ?_)
          apply Exists.intro
          refine And.intro (fun wx hx => ?_) ?_
          · have e0 := below_fact hx rfl v0
            go_simp
            try rfl
          go_simp
          refine hK1 _ ?_
          clear hK1 K1
          refine wpPre_nil ?_
          refine wpTr_e rfl (fun K1 hK1 => ?_)
          refine step_call rfl 16 #[.tmp 227] _ rfl Try.f16 Try.func16 (by kernel_rfl) rfl #[.pointer (some ⟨b, 0, none⟩)] rfl _ HNw.out (fun e w9 h9 => ?_)
          obtain ⟨rfl, rfl⟩ := h9
          refine ⟨_, rfl, ?_⟩
          clear HNw
          go_simp
          refine hK1 _ _ (fun _ => (Below.refl _ _).drew) ?_
          clear hK1 K1
          refine wpPre_e rfl rfl (fun K1 hK1 => ?_)
          apply Exists.intro
          refine And.intro (fun wx hx => ?_) ?_
          · go_simp
            try rfl
          go_simp
          refine hK1 _ ?_
          clear hK1 K1
          refine wpPre_nil ?_
          refine wpTr_done ?_
          go_wp2
          go_roundw
          case rel => exact ⟨k + 1, K4, V, by omega, by omega, by go_num, H6.out.1.below (Below.refl _ _).drew, H6.out.2.2.1, H6.out.2.1.below H6.out.1 (Below.refl _ _).drew, H6.out.2.2.2.1, H6.out.2.2.2.2.1.le (by omega), H6.out.2.2.2.2.2.le (by omega)⟩
          case measure => simp [intOf]; omega
      have hhas := Bk.has_took hte
      obtain ⟨i, hpi, hiN⟩ : ∃ i : Nat, (s.item k).port = (i : Int) ∧ i < N := by
        have h := hhas
        simp only [Bk.has, Bool.and_eq_true, decide_eq_true_eq] at h
        have := HPm.out.2.1
        exact ⟨(s.item k).port.toNat, by omega, by omega⟩
      have hi : i < 4 := by omega
      have hi4 : (i : Int) < 4 := by omega
      have hiN' : (i : Int) < (N : Int) := by omega
      clear hhas
      rw [hpi] at hte z2
      have HTe := hid hte
      clear hte
      have HT := hid (took_any (i : Int) (s.item k).r W1 (fun b => b < w.heap.size) b K HBV1.out.bok.i (HIn.out _ HBV1.out.bok.bel).r HOs.out.r (fun i hi => by have := HLgN.out i hi; omega))
      rcases hcp : V.cp with _ | _
      · rcases hcd : V.cd i with _ | _
        · as_aux_lemma =>
            have HCd := hid hcd
            have HCp := hid hcp
            have HLy : Hid (K.lays (i : Int) = false) := by unfold Hid; rw [HJ1.out.lays hi hiN HTe.out, hcp, hcd]; rfl
            clear hcp hcd
            go_wp2_with (first | (go_at_call 14; refine HT.out.mono ?_; rintro e w4 ⟨K4, rfl, hQ⟩; rw [HTe.out]; have hX4 := HXo.out.kept (hQ.s.out HXo.out.lt HnK.out).1; have x2 := hX4.cell 2; have xl := hX4.lt; simp at x2; rw [hpi] at x2; have hV4 := (HBV1.out.bstep hQ.s).v; have v1 := hV4.box.cell 1; have vc := hV4.cs hi; have vl4 := hV4.box.lt; simp [Vw.arr] at v1; rw [HCp.out] at v1; rw [HCd.out] at vc) | (go_at_call 11; refine (num_any _ _).mono ?_; rintro e w5 ⟨rfl, hw5⟩; rw [hw5]; clear hw5 w5))
            have HX4 := hid hX4
            clear hX4 hV4 HT z0 z1 z2 z3 z4 z5 z6 z7 z8 z9 z10 z11 z12 z13
            obtain rfl : K4 = K := hQ.n HLy.out
            have HA := hid (And.intro (HBV1.out.bstep hQ.s) (HLM1.out.took HBV1.out hQ))
            clear hQ
            refine wp_region_calmD 30 (fun wx => Below w4.heap.size w4 wx) [(0, true), (1, true), (2, true), (3, true), (4, true), (5, true), (6, false), (7, true), (8, true), (9, true), (10, true), (11, false), (12, true), (13, true), (14, true), (15, false), (16, true), (17, true)] [] (by kernel_rfl) (by kernel_rfl) (Below.refl _ _).drew ?_
            refine wpPre_e rfl rfl (fun K1 hK1 => ?_)
            apply Exists.intro
            refine And.intro (fun wx hx => ?_) ?_
            · go_simp
              try rfl
            go_simp
            refine hK1 _ ?_
            clear hK1 K1
            refine wpPre_e rfl rfl (fun K1 hK1 => ?_)
            apply Exists.intro
            refine And.intro (fun wx hx => ?_) ?_
            · go_simp
              try rfl
            go_simp
            refine hK1 _ ?_
            clear hK1 K1
            refine wpPre_e rfl rfl (fun K1 hK1 => ?_)
            apply Exists.intro
            refine And.intro (fun wx hx => ?_) ?_
            · go_simp
              try rfl
            go_simp
            refine hK1 _ ?_
            clear hK1 K1
            refine wpPre_i rfl (fun K1 hK1 => ?_)
            rw [if_pos (by go_simp)]
            apply Exists.intro
            refine And.intro (fun wx hx => ?_) ?_
            · go_simp
              try rfl
            go_simp
            refine hK1 _ ?_
            clear hK1 K1
            refine wpPre_i rfl (fun K1 hK1 => ?_)
            rw [if_pos (by go_simp)]
            apply Exists.intro
            refine And.intro (fun wx hx => ?_) ?_
            · go_simp
              try rfl
            go_simp
            refine hK1 _ ?_
            clear hK1 K1
            refine wpPre_i rfl (fun K1 hK1 => ?_)
            rw [if_pos (by go_simp)]
            apply Exists.intro
            refine And.intro (fun wx hx => ?_) ?_
            · go_simp
              try rfl
            go_simp
            refine hK1 _ ?_
            clear hK1 K1
            refine wpPre_i rfl (fun K1 hK1 => ?_)
            rw [if_pos (by go_simp)]
            apply Exists.intro
            refine And.intro (fun wx hx => ?_) ?_
            · have e0 := below_fact hx rfl v1
              go_simp
              try rfl
            go_simp
            refine hK1 _ ?_
            clear hK1 K1
            refine wpPre_e rfl rfl (fun K1 hK1 => ?_)
            apply Exists.intro
            refine And.intro (fun wx hx => ?_) ?_
            · go_simp
              try rfl
            go_simp
            refine hK1 _ ?_
            clear hK1 K1
            refine wpPre_e rfl rfl (fun K1 hK1 => ?_)
            apply Exists.intro
            refine And.intro (fun wx hx => ?_) ?_
            · go_simp
              try rfl
            go_simp
            refine hK1 _ ?_
            clear hK1 K1
            refine wpPre_i rfl (fun K1 hK1 => ?_)
            rw [if_neg (by go_simp; all_goals (intro h; cases h))]
            go_simp
            refine hK1 _ ?_
            clear hK1 K1
            refine wpPre_i rfl (fun K1 hK1 => ?_)
            rw [if_neg (by go_simp; all_goals (intro h; cases h))]
            go_simp
            refine hK1 _ ?_
            clear hK1 K1
            refine wpPre_i rfl (fun K1 hK1 => ?_)
            rw [if_neg (by go_simp; all_goals (intro h; cases h))]
            go_simp
            refine hK1 _ ?_
            clear hK1 K1
            refine wpPre_i rfl (fun K1 hK1 => ?_)
            rw [if_neg (by go_simp; all_goals (intro h; cases h))]
            go_simp
            refine hK1 _ ?_
            clear hK1 K1
            refine wpPre_i rfl (fun K1 hK1 => ?_)
            rw [if_neg (by go_simp; all_goals (intro h; cases h))]
            go_simp
            refine hK1 _ ?_
            clear hK1 K1
            refine wpPre_i rfl (fun K1 hK1 => ?_)
            rw [if_neg (by go_simp; all_goals (intro h; cases h))]
            go_simp
            refine hK1 _ ?_
            clear hK1 K1
            refine wpPre_i rfl (fun K1 hK1 => ?_)
            rw [if_neg (by go_simp; all_goals (intro h; cases h))]
            go_simp
            refine hK1 _ ?_
            clear hK1 K1
            refine wpPre_i rfl (fun K1 hK1 => ?_)
            rw [if_neg (by go_simp; all_goals (intro h; cases h))]
            go_simp
            refine hK1 _ ?_
            clear hK1 K1
            refine wpPre_e rfl rfl (fun K1 hK1 => ?_)
            apply Exists.intro
            refine And.intro (fun wx hx => ?_) ?_
            · go_simp
              try rfl
            go_simp
            refine hK1 _ ?_
            clear hK1 K1
            refine wpPre_nil ?_
            refine wpStg_nil ?_
            obtain ⟨wc, hwc⟩ : ∃ x, x = w4.drew := ⟨_, rfl⟩
            rw [← hwc]
            have H6 : Hid (BV w wc b vb K4 V ∧ LM w.heap.size wc b vb K4 V ∧ LP N K4 V ∧ (K4.mode = mode ∧ K4.ports = (N : Int) ∧ K4.back = back) ∧ LgN K4 (10000 * k + 10000) ∧ VLn V (10000 * k + 10000)) := by
              unfold Hid
              rw [hwc]
              exact ⟨HA.out.1.below (Below.refl _ _).drew, HA.out.2.below HA.out.1 (Below.refl _ _).drew, HJ1.out, HPm.out, HLgN.out.le (by omega), HVln.out.le (by omega)⟩
            clear hwc HA x2 v1 vc xl vl4
            have v0 := H6.out.1.v.box.cell 0
            simp [Vw.arr] at v0
            rw [H6.out.2.2.1.id] at v0
            have vl6 := H6.out.1.v.box.lt
            have HNw := hid (now_any wc.drew b K4 (H6.out.1.bok.i.below (Below.refl _ _).drew))
            go_wp2_with fail
            refine wp_region_calmE 30 (fun wx => Below wc.heap.size wc wx) [(0, true), (2, true), (3, true), (4, true), (5, false)] (.one 1 true [(6, true)] .done) (by kernel_rfl) (by kernel_rfl) (Below.refl _ _).drew ?_
            refine wpPre_e rfl rfl (fun K1 hK1 => ?_)
            apply Exists.intro
            refine And.intro (fun wx hx => ?_) ?_
            · go_simp
              try rfl
            go_simp
            refine hK1 _ ?_
            clear hK1 K1
            refine wpPre_e rfl rfl (fun K1 hK1 => ?_)
            apply Exists.intro
            refine And.intro (fun wx hx => ?_) ?_
            · go_simp
              try rfl
            go_simp
            refine hK1 _ ?_
            clear hK1 K1
            refine wpPre_e rfl rfl (fun K1 hK1 => ?_)
            apply Exists.intro
            refine And.intro (fun wx hx => ?_) ?_
            · go_simp
              try rfl
            go_simp
            refine hK1 _ ?_
            clear hK1 K1
            refine wpPre_e rfl rfl (fun K1 hK1 => ?_)
            apply Exists.intro
            refine And.intro (fun wx hx => ?_) ?_
            · go_simp
              try rfl
            go_simp
            refine hK1 _ ?_
            clear hK1 K1
            refine wpPre_e rfl rfl (fun K1 hK1 => ?_)
            apply Exists.intro
            refine And.intro (fun wx hx => ?_) ?_
            · have e0 := below_fact hx rfl v0
              go_simp
              try rfl
            go_simp
            refine hK1 _ ?_
            clear hK1 K1
            refine wpPre_nil ?_
            refine wpTr_e rfl (fun K1 hK1 => ?_)
            refine step_call rfl 16 #[.tmp 227] _ rfl Try.f16 Try.func16 (by kernel_rfl) rfl #[.pointer (some ⟨b, 0, none⟩)] rfl _ HNw.out (fun e w9 h9 => ?_)
            obtain ⟨rfl, rfl⟩ := h9
            refine ⟨_, rfl, ?_⟩
            clear HNw
            go_simp
            refine hK1 _ _ (fun _ => (Below.refl _ _).drew) ?_
            clear hK1 K1
            refine wpPre_e rfl rfl (fun K1 hK1 => ?_)
            apply Exists.intro
            refine And.intro (fun wx hx => ?_) ?_
            · go_simp
              try rfl
            go_simp
            refine hK1 _ ?_
            clear hK1 K1
            refine wpPre_nil ?_
            refine wpTr_done ?_
            go_wp2
            go_roundw
            case rel => exact ⟨k + 1, K4, V, by omega, by omega, by go_num, H6.out.1.below (Below.refl _ _).drew, H6.out.2.2.1, H6.out.2.1.below H6.out.1 (Below.refl _ _).drew, H6.out.2.2.2.1, H6.out.2.2.2.2.1.le (by omega), H6.out.2.2.2.2.2.le (by omega)⟩
            case measure => simp [intOf]; omega
        · as_aux_lemma =>
            have HCd := hid hcd
            have HCp := hid hcp
            have HLy : Hid (K.lays (i : Int) = false) := by unfold Hid; rw [HJ1.out.lays hi hiN HTe.out, hcp, hcd]; rfl
            clear hcp hcd
            go_wp2_with (first | (go_at_call 14; refine HT.out.mono ?_; rintro e w4 ⟨K4, rfl, hQ⟩; rw [HTe.out]; have hX4 := HXo.out.kept (hQ.s.out HXo.out.lt HnK.out).1; have x2 := hX4.cell 2; have xl := hX4.lt; simp at x2; rw [hpi] at x2; have hV4 := (HBV1.out.bstep hQ.s).v; have v1 := hV4.box.cell 1; have vc := hV4.cs hi; have vl4 := hV4.box.lt; simp [Vw.arr] at v1; rw [HCp.out] at v1; rw [HCd.out] at vc) | (go_at_call 11; refine (num_any _ _).mono ?_; rintro e w5 ⟨rfl, hw5⟩; rw [hw5]; clear hw5 w5))
            have HX4 := hid hX4
            clear hX4 hV4 HT z0 z1 z2 z3 z4 z5 z6 z7 z8 z9 z10 z11 z12 z13
            obtain rfl : K4 = K := hQ.n HLy.out
            have HA := hid (And.intro (HBV1.out.bstep hQ.s) (HLM1.out.took HBV1.out hQ))
            clear hQ
            refine wp_region_calmD 30 (fun wx => Below w4.heap.size w4 wx) [(0, true), (1, true), (2, true), (3, true), (4, true), (5, true), (6, false), (7, true), (8, true), (9, true), (10, true), (11, false), (12, true), (13, true), (14, true), (15, false), (16, true), (17, true)] [] (by kernel_rfl) (by kernel_rfl) (Below.refl _ _).drew ?_
            refine wpPre_e rfl rfl (fun K1 hK1 => ?_)
            apply Exists.intro
            refine And.intro (fun wx hx => ?_) ?_
            · go_simp
              try rfl
            go_simp
            refine hK1 _ ?_
            clear hK1 K1
            refine wpPre_e rfl rfl (fun K1 hK1 => ?_)
            apply Exists.intro
            refine And.intro (fun wx hx => ?_) ?_
            · go_simp
              try rfl
            go_simp
            refine hK1 _ ?_
            clear hK1 K1
            refine wpPre_e rfl rfl (fun K1 hK1 => ?_)
            apply Exists.intro
            refine And.intro (fun wx hx => ?_) ?_
            · go_simp
              try rfl
            go_simp
            refine hK1 _ ?_
            clear hK1 K1
            refine wpPre_i rfl (fun K1 hK1 => ?_)
            rw [if_pos (by go_simp)]
            apply Exists.intro
            refine And.intro (fun wx hx => ?_) ?_
            · go_simp
              try rfl
            go_simp
            refine hK1 _ ?_
            clear hK1 K1
            refine wpPre_i rfl (fun K1 hK1 => ?_)
            rw [if_pos (by go_simp)]
            apply Exists.intro
            refine And.intro (fun wx hx => ?_) ?_
            · go_simp
              try rfl
            go_simp
            refine hK1 _ ?_
            clear hK1 K1
            refine wpPre_i rfl (fun K1 hK1 => ?_)
            rw [if_pos (by go_simp)]
            apply Exists.intro
            refine And.intro (fun wx hx => ?_) ?_
            · go_simp
              try rfl
            go_simp
            refine hK1 _ ?_
            clear hK1 K1
            refine wpPre_i rfl (fun K1 hK1 => ?_)
            rw [if_pos (by go_simp)]
            apply Exists.intro
            refine And.intro (fun wx hx => ?_) ?_
            · have e0 := below_fact hx rfl v1
              go_simp
              try rfl
            go_simp
            refine hK1 _ ?_
            clear hK1 K1
            refine wpPre_e rfl rfl (fun K1 hK1 => ?_)
            apply Exists.intro
            refine And.intro (fun wx hx => ?_) ?_
            · go_simp
              try rfl
            go_simp
            refine hK1 _ ?_
            clear hK1 K1
            refine wpPre_e rfl rfl (fun K1 hK1 => ?_)
            apply Exists.intro
            refine And.intro (fun wx hx => ?_) ?_
            · go_simp
              try rfl
            go_simp
            refine hK1 _ ?_
            clear hK1 K1
            refine wpPre_i rfl (fun K1 hK1 => ?_)
            rw [if_neg (by go_simp; all_goals (intro h; cases h))]
            go_simp
            refine hK1 _ ?_
            clear hK1 K1
            refine wpPre_i rfl (fun K1 hK1 => ?_)
            rw [if_neg (by go_simp; all_goals (intro h; cases h))]
            go_simp
            refine hK1 _ ?_
            clear hK1 K1
            refine wpPre_i rfl (fun K1 hK1 => ?_)
            rw [if_neg (by go_simp; all_goals (intro h; cases h))]
            go_simp
            refine hK1 _ ?_
            clear hK1 K1
            refine wpPre_i rfl (fun K1 hK1 => ?_)
            rw [if_neg (by go_simp; all_goals (intro h; cases h))]
            go_simp
            refine hK1 _ ?_
            clear hK1 K1
            refine wpPre_i rfl (fun K1 hK1 => ?_)
            rw [if_neg (by go_simp; all_goals (intro h; cases h))]
            go_simp
            refine hK1 _ ?_
            clear hK1 K1
            refine wpPre_i rfl (fun K1 hK1 => ?_)
            rw [if_neg (by go_simp; all_goals (intro h; cases h))]
            go_simp
            refine hK1 _ ?_
            clear hK1 K1
            refine wpPre_i rfl (fun K1 hK1 => ?_)
            rw [if_neg (by go_simp; all_goals (intro h; cases h))]
            go_simp
            refine hK1 _ ?_
            clear hK1 K1
            refine wpPre_i rfl (fun K1 hK1 => ?_)
            rw [if_neg (by go_simp; all_goals (intro h; cases h))]
            go_simp
            refine hK1 _ ?_
            clear hK1 K1
            refine wpPre_e rfl rfl (fun K1 hK1 => ?_)
            apply Exists.intro
            refine And.intro (fun wx hx => ?_) ?_
            · go_simp
              try rfl
            go_simp
            refine hK1 _ ?_
            clear hK1 K1
            refine wpPre_nil ?_
            refine wpStg_nil ?_
            obtain ⟨wc, hwc⟩ : ∃ x, x = w4.drew := ⟨_, rfl⟩
            rw [← hwc]
            have H6 : Hid (BV w wc b vb K4 V ∧ LM w.heap.size wc b vb K4 V ∧ LP N K4 V ∧ (K4.mode = mode ∧ K4.ports = (N : Int) ∧ K4.back = back) ∧ LgN K4 (10000 * k + 10000) ∧ VLn V (10000 * k + 10000)) := by
              unfold Hid
              rw [hwc]
              exact ⟨HA.out.1.below (Below.refl _ _).drew, HA.out.2.below HA.out.1 (Below.refl _ _).drew, HJ1.out, HPm.out, HLgN.out.le (by omega), HVln.out.le (by omega)⟩
            clear hwc HA x2 v1 vc xl vl4
            have v0 := H6.out.1.v.box.cell 0
            simp [Vw.arr] at v0
            rw [H6.out.2.2.1.id] at v0
            have vl6 := H6.out.1.v.box.lt
            have HNw := hid (now_any wc.drew b K4 (H6.out.1.bok.i.below (Below.refl _ _).drew))
            go_wp2_with fail
            refine wp_region_calmE 30 (fun wx => Below wc.heap.size wc wx) [(0, true), (2, true), (3, true), (4, true), (5, false)] (.one 1 true [(6, true)] .done) (by kernel_rfl) (by kernel_rfl) (Below.refl _ _).drew ?_
            refine wpPre_e rfl rfl (fun K1 hK1 => ?_)
            apply Exists.intro
            refine And.intro (fun wx hx => ?_) ?_
            · go_simp
              try rfl
            go_simp
            refine hK1 _ ?_
            clear hK1 K1
            refine wpPre_e rfl rfl (fun K1 hK1 => ?_)
            apply Exists.intro
            refine And.intro (fun wx hx => ?_) ?_
            · go_simp
              try rfl
            go_simp
            refine hK1 _ ?_
            clear hK1 K1
            refine wpPre_e rfl rfl (fun K1 hK1 => ?_)
            apply Exists.intro
            refine And.intro (fun wx hx => ?_) ?_
            · go_simp
              try rfl
            go_simp
            refine hK1 _ ?_
            clear hK1 K1
            refine wpPre_e rfl rfl (fun K1 hK1 => ?_)
            apply Exists.intro
            refine And.intro (fun wx hx => ?_) ?_
            · go_simp
              try rfl
            go_simp
            refine hK1 _ ?_
            clear hK1 K1
            refine wpPre_e rfl rfl (fun K1 hK1 => ?_)
            apply Exists.intro
            refine And.intro (fun wx hx => ?_) ?_
            · have e0 := below_fact hx rfl v0
              go_simp
              try rfl
            go_simp
            refine hK1 _ ?_
            clear hK1 K1
            refine wpPre_nil ?_
            refine wpTr_e rfl (fun K1 hK1 => ?_)
            refine step_call rfl 16 #[.tmp 227] _ rfl Try.f16 Try.func16 (by kernel_rfl) rfl #[.pointer (some ⟨b, 0, none⟩)] rfl _ HNw.out (fun e w9 h9 => ?_)
            obtain ⟨rfl, rfl⟩ := h9
            refine ⟨_, rfl, ?_⟩
            clear HNw
            go_simp
            refine hK1 _ _ (fun _ => (Below.refl _ _).drew) ?_
            clear hK1 K1
            refine wpPre_e rfl rfl (fun K1 hK1 => ?_)
            apply Exists.intro
            refine And.intro (fun wx hx => ?_) ?_
            · go_simp
              try rfl
            go_simp
            refine hK1 _ ?_
            clear hK1 K1
            refine wpPre_nil ?_
            refine wpTr_done ?_
            go_wp2
            go_roundw
            case rel => exact ⟨k + 1, K4, V, by omega, by omega, by go_num, H6.out.1.below (Below.refl _ _).drew, H6.out.2.2.1, H6.out.2.1.below H6.out.1 (Below.refl _ _).drew, H6.out.2.2.2.1, H6.out.2.2.2.2.1.le (by omega), H6.out.2.2.2.2.2.le (by omega)⟩
            case measure => simp [intOf]; omega
      rcases hcd : V.cd i with _ | _
      · as_aux_lemma =>
          have HCd := hid hcd
          have HCp := hid hcp
          have HLy : Hid (K.lays (i : Int) = true) := by unfold Hid; rw [HJ1.out.lays hi hiN HTe.out, hcp, hcd]; rfl
          clear hcp hcd
          go_wp2_with (first | (go_at_call 14; refine HT.out.mono ?_; rintro e w4 ⟨K4, rfl, hQ⟩; rw [HTe.out]; have hX4 := HXo.out.kept (hQ.s.out HXo.out.lt HnK.out).1; have x2 := hX4.cell 2; have xl := hX4.lt; simp at x2; rw [hpi] at x2; have hV4 := (HBV1.out.bstep hQ.s).v; have v1 := hV4.box.cell 1; have vc := hV4.cs hi; have vl4 := hV4.box.lt; simp [Vw.arr] at v1; rw [HCp.out] at v1; rw [HCd.out] at vc) | (go_at_call 11; refine (num_any _ _).mono ?_; rintro e w5 ⟨rfl, hw5⟩; rw [hw5]; clear hw5 w5))
          have HX4 := hid hX4
          clear hX4 hV4 HT z0 z1 z2 z3 z4 z5 z6 z7 z8 z9 z10 z11 z12 z13
          obtain ⟨u1, p1, c1, hal1, hin1, hK4⟩ := hQ.y HLy.out
          rw [show ((i : Int)).toNat = i by omega] at hK4
          have hJ4 : LP N K V := HJ1.out
          have HD0 := hid (hJ4.nolay hi hiN HCd.out)
          have HA := hid (And.intro (HBV1.out.bstep hQ.s) (And.intro (HLM1.out.took HBV1.out hQ) (And.intro hal1 (And.intro hin1 (And.intro hK4 (HLgN.out.took hQ))))))
          clear hQ hal1 hin1 hK4 hJ4
          refine wp_region_calmD 30 (fun wx => Below w4.heap.size w4 wx) [(0, true), (1, true), (2, true), (3, true), (4, true), (5, true), (6, false), (7, true), (8, true), (9, true), (10, true), (11, false), (12, true), (13, true), (14, true), (15, false), (16, true), (17, true)] [] (by kernel_rfl) (by kernel_rfl) (Below.refl _ _).drew ?_
          refine wpPre_e rfl rfl (fun K1 hK1 => ?_)
          apply Exists.intro
          refine And.intro (fun wx hx => ?_) ?_
          · go_simp
            try rfl
          go_simp
          refine hK1 _ ?_
          clear hK1 K1
          refine wpPre_e rfl rfl (fun K1 hK1 => ?_)
          apply Exists.intro
          refine And.intro (fun wx hx => ?_) ?_
          · go_simp
            try rfl
          go_simp
          refine hK1 _ ?_
          clear hK1 K1
          refine wpPre_e rfl rfl (fun K1 hK1 => ?_)
          apply Exists.intro
          refine And.intro (fun wx hx => ?_) ?_
          · go_simp
            try rfl
          go_simp
          refine hK1 _ ?_
          clear hK1 K1
          refine wpPre_i rfl (fun K1 hK1 => ?_)
          rw [if_pos (by go_simp)]
          apply Exists.intro
          refine And.intro (fun wx hx => ?_) ?_
          · go_simp
            try rfl
          go_simp
          refine hK1 _ ?_
          clear hK1 K1
          refine wpPre_i rfl (fun K1 hK1 => ?_)
          rw [if_pos (by go_simp)]
          apply Exists.intro
          refine And.intro (fun wx hx => ?_) ?_
          · go_simp
            try rfl
          go_simp
          refine hK1 _ ?_
          clear hK1 K1
          refine wpPre_i rfl (fun K1 hK1 => ?_)
          rw [if_pos (by go_simp)]
          apply Exists.intro
          refine And.intro (fun wx hx => ?_) ?_
          · go_simp
            try rfl
          go_simp
          refine hK1 _ ?_
          clear hK1 K1
          refine wpPre_i rfl (fun K1 hK1 => ?_)
          rw [if_pos (by go_simp)]
          apply Exists.intro
          refine And.intro (fun wx hx => ?_) ?_
          · have e0 := below_fact hx rfl x2
            have e1 := below_fact hx rfl v1
            have e2 := below_fact hx rfl vc
            go_simp
            try rfl
          go_simp
          refine hK1 _ ?_
          clear hK1 K1
          refine wpPre_e rfl rfl (fun K1 hK1 => ?_)
          apply Exists.intro
          refine And.intro (fun wx hx => ?_) ?_
          · go_simp
            try rfl
          go_simp
          refine hK1 _ ?_
          clear hK1 K1
          refine wpPre_e rfl rfl (fun K1 hK1 => ?_)
          apply Exists.intro
          refine And.intro (fun wx hx => ?_) ?_
          · go_simp
            try rfl
          go_simp
          refine hK1 _ ?_
          clear hK1 K1
          refine wpPre_i rfl (fun K1 hK1 => ?_)
          rw [if_pos (by go_simp)]
          apply Exists.intro
          refine And.intro (fun wx hx => ?_) ?_
          · go_simp
            try rfl
          go_simp
          refine hK1 _ ?_
          clear hK1 K1
          refine wpPre_i rfl (fun K1 hK1 => ?_)
          rw [if_pos (by go_simp)]
          apply Exists.intro
          refine And.intro (fun wx hx => ?_) ?_
          · go_simp
            try rfl
          go_simp
          refine hK1 _ ?_
          clear hK1 K1
          refine wpPre_i rfl (fun K1 hK1 => ?_)
          rw [if_pos (by go_simp)]
          apply Exists.intro
          refine And.intro (fun wx hx => ?_) ?_
          · have e0 := below_fact hx rfl x2
            have e1 := below_fact hx rfl v1
            have e2 := below_fact hx rfl vc
            go_simp
            try rfl
          go_simp
          refine hK1 _ ?_
          clear hK1 K1
          refine wpPre_i rfl (fun K1 hK1 => ?_)
          rw [if_pos (by go_simp)]
          apply Exists.intro
          refine And.intro (fun wx hx => ?_) ?_
          · go_simp
            try rfl
          go_simp
          refine hK1 _ ?_
          clear hK1 K1
          refine wpPre_i rfl (fun K1 hK1 => ?_)
          rw [if_pos (by go_simp)]
          apply Exists.intro
          refine And.intro (fun wx hx => ?_) ?_
          · go_simp
            try rfl
          go_simp
          refine hK1 _ ?_
          clear hK1 K1
          refine wpPre_i rfl (fun K1 hK1 => ?_)
          rw [if_pos (by go_simp)]
          apply Exists.intro
          refine And.intro (fun wx hx => ?_) ?_
          · go_simp
            try rfl
          go_simp
          refine hK1 _ ?_
          clear hK1 K1
          refine wpPre_i rfl (fun K1 hK1 => ?_)
          rw [if_pos (by go_simp)]
          apply Exists.intro
          refine And.intro (fun wx hx => ?_) ?_
          · have e0 := below_fact hx rfl x2
            have e1 := below_fact hx rfl v1
            have e2 := below_fact hx rfl vc
            go_simp
            try rfl
          go_simp
          refine hK1 _ ?_
          clear hK1 K1
          refine wpPre_i rfl (fun K1 hK1 => ?_)
          rw [if_pos (by go_simp)]
          apply Exists.intro
          refine And.intro (fun wx hx => ?_) ?_
          · go_simp
            try rfl
          go_simp
          refine hK1 _ ?_
          clear hK1 K1
          refine wpPre_e rfl rfl (fun K1 hK1 => ?_)
          apply Exists.intro
          refine And.intro (fun wx hx => ?_) ?_
          · go_simp
            try rfl
          go_simp
          refine hK1 _ ?_
          clear hK1 K1
          refine wpPre_nil ?_
          refine wpStg_nil ?_
          go_upto_region 20 with fail
          obtain ⟨W5, hW5⟩ : ∃ x, x = w4.drew := ⟨_, rfl⟩
          rw [← hW5]
          have hbd : Below w4.heap.size w4 W5 := by rw [hW5]; exact (Below.refl _ _).drew
          have HB5 := hid (And.intro (HA.out.1.below hbd) (HA.out.2.1.below HA.out.1 hbd))
          have hX5 := HX4.out.below hbd
          clear x2 v1 vc xl vl4
          have x0 := hX5.cell 0
          have x1 := hX5.cell 1
          have x2 := hX5.cell 2
          have x3 := hX5.cell 3
          have x4 := hX5.cell 4
          have x5 := hX5.cell 5
          have x6 := hX5.cell 6
          have x7 := hX5.cell 7
          have x8 := hX5.cell 8
          have x9 := hX5.cell 9
          have x10 := hX5.cell 10
          have x11 := hX5.cell 11
          have x12 := hX5.cell 12
          have x13 := hX5.cell 13
          simp at x0 x1 x2 x3 x4 x5 x6 x7 x8 x9 x10 x11 x12 x13
          rw [hpi] at x2
          have xl := hX5.lt
          have vlc := HB5.out.1.v.cl_ hi
          have vl5 := HB5.out.1.v.box.lt
          have HF : Hid (∀ Z, Below W5.heap.size W5 Z → Calls Try.prog 22 #[.agg #[.string (s.item k).r.key, .int .i64 (s.item k).r.v.kind, .int .i64 (s.item k).r.v.int, .string (s.item k).r.v.text, .slice (s.item k).r.v.p (s.item k).r.v.n (s.item k).r.v.c, .slice (s.item k).r.p (s.item k).r.n (s.item k).r.c]] Z fun e w' => ∃ u : RT, e = .returned (.agg #[.string u.key, .int .i64 u.v.kind, .int .i64 u.v.int, .string u.v.text, .slice u.v.p u.v.n u.v.c, .slice u.p u.n u.c]) ∧ RT.Alike (s.item k).r u ∧ RT.In w' (fun b => Z.heap.size ≤ b) u ∧ Below Z.heap.size Z w') := fun Z hZ =>
            copyR (s.item k).r Z (fun b => b < w.heap.size) (HIn.out _ (HB5.out.1.below hZ).bok.bel).r HOs.out.r
          obtain ⟨i0, Kd⟩ := kindRs
          have HKd := hid Kd
          have hni : (V.lg i).n ≤ 1000000000 := by have := HVln.out i hi; omega
          clear hX5 hbd hW5 Kd
          refine wp_region_calmE 30 (fun wx => wx.cell? ⟨ob, 2, none⟩ = some (.int .i64 (i : Int)) ∧ wx.cell? ⟨ob, 4, none⟩ = some (.string (s.item k).r.key) ∧ wx.cell? ⟨ob, 5, none⟩ = some (.int .i64 (s.item k).r.v.kind) ∧ wx.cell? ⟨ob, 6, none⟩ = some (.int .i64 (s.item k).r.v.int) ∧ wx.cell? ⟨ob, 7, none⟩ = some (.string (s.item k).r.v.text) ∧ wx.cell? ⟨ob, 8, none⟩ = some (.slice (s.item k).r.v.p (s.item k).r.v.n (s.item k).r.v.c) ∧ wx.cell? ⟨ob, 9, none⟩ = some (.slice (s.item k).r.p (s.item k).r.n (s.item k).r.c) ∧ wx.cell? ⟨vb, 9 + i, none⟩ = some (.slice (V.lg i).p (V.lg i).n (V.lg i).c)) [(0, true), (1, true), (2, false), (3, true), (4, true), (5, false), (6, true), (7, true), (8, true), (9, false), (10, true), (11, false), (15, true), (16, true)] (.one 12 true [] (.one 13 true [] (.one 14 true [(17, true)] (.one 18 false [] .done)))) (by kernel_rfl) (by kernel_rfl) ⟨x2, x4, x5, x6, x7, x8, x9, vlc⟩ ?_
          refine wpPre_e rfl rfl (fun K1 hK1 => ?_)
          apply Exists.intro
          refine And.intro (fun wx hx => ?_) ?_
          · go_simp
            try rfl
          go_simp
          refine hK1 _ ?_
          clear hK1 K1
          refine wpPre_e rfl rfl (fun K1 hK1 => ?_)
          apply Exists.intro
          refine And.intro (fun wx hx => ?_) ?_
          · go_simp
            try rfl
          go_simp
          refine hK1 _ ?_
          clear hK1 K1
          refine wpPre_e rfl rfl (fun K1 hK1 => ?_)
          apply Exists.intro
          refine And.intro (fun wx hx => ?_) ?_
          · have hc := hx.resolve_left (by simp)
            have e0 := hc.1
            have e1 := hc.2.1
            have e2 := hc.2.2.1
            have e3 := hc.2.2.2.1
            have e4 := hc.2.2.2.2.1
            have e5 := hc.2.2.2.2.2.1
            have e6 := hc.2.2.2.2.2.2.1
            have e7 := hc.2.2.2.2.2.2.2
            go_simp
            try rfl
          go_simp
          refine hK1 _ ?_
          clear hK1 K1
          refine wpPre_e rfl rfl (fun K1 hK1 => ?_)
          apply Exists.intro
          refine And.intro (fun wx hx => ?_) ?_
          · go_simp
            try rfl
          go_simp
          refine hK1 _ ?_
          clear hK1 K1
          refine wpPre_e rfl rfl (fun K1 hK1 => ?_)
          apply Exists.intro
          refine And.intro (fun wx hx => ?_) ?_
          · go_simp
            try rfl
          go_simp
          refine hK1 _ ?_
          clear hK1 K1
          refine wpPre_e rfl rfl (fun K1 hK1 => ?_)
          apply Exists.intro
          refine And.intro (fun wx hx => ?_) ?_
          · have hc := hx.resolve_left (by simp)
            have e0 := hc.1
            have e1 := hc.2.1
            have e2 := hc.2.2.1
            have e3 := hc.2.2.2.1
            have e4 := hc.2.2.2.2.1
            have e5 := hc.2.2.2.2.2.1
            have e6 := hc.2.2.2.2.2.2.1
            have e7 := hc.2.2.2.2.2.2.2
            go_simp
            try rfl
          go_simp
          refine hK1 _ ?_
          clear hK1 K1
          refine wpPre_e rfl rfl (fun K1 hK1 => ?_)
          apply Exists.intro
          refine And.intro (fun wx hx => ?_) ?_
          · go_simp
            try rfl
          go_simp
          refine hK1 _ ?_
          clear hK1 K1
          refine wpPre_e rfl rfl (fun K1 hK1 => ?_)
          apply Exists.intro
          refine And.intro (fun wx hx => ?_) ?_
          · go_simp
            try rfl
          go_simp
          refine hK1 _ ?_
          clear hK1 K1
          refine wpPre_e rfl rfl (fun K1 hK1 => ?_)
          apply Exists.intro
          refine And.intro (fun wx hx => ?_) ?_
          · go_simp
            try rfl
          go_simp
          refine hK1 _ ?_
          clear hK1 K1
          refine wpPre_e rfl rfl (fun K1 hK1 => ?_)
          apply Exists.intro
          refine And.intro (fun wx hx => ?_) ?_
          · have hc := hx.resolve_left (by simp)
            have e0 := hc.1
            have e1 := hc.2.1
            have e2 := hc.2.2.1
            have e3 := hc.2.2.2.1
            have e4 := hc.2.2.2.2.1
            have e5 := hc.2.2.2.2.2.1
            have e6 := hc.2.2.2.2.2.2.1
            have e7 := hc.2.2.2.2.2.2.2
            go_simp
            try rfl
          go_simp
          refine hK1 _ ?_
          clear hK1 K1
          refine wpPre_e rfl rfl (fun K1 hK1 => ?_)
          apply Exists.intro
          refine And.intro (fun wx hx => ?_) ?_
          · go_simp
            try rfl
          go_simp
          refine hK1 _ ?_
          clear hK1 K1
          refine wpPre_e rfl rfl (fun K1 hK1 => ?_)
          apply Exists.intro
          refine And.intro (fun wx hx => ?_) ?_
          · have hc := hx.resolve_left (by simp)
            have e0 := hc.1
            have e1 := hc.2.1
            have e2 := hc.2.2.1
            have e3 := hc.2.2.2.1
            have e4 := hc.2.2.2.2.1
            have e5 := hc.2.2.2.2.2.1
            have e6 := hc.2.2.2.2.2.2.1
            have e7 := hc.2.2.2.2.2.2.2
            go_simp
            try rfl
          go_simp
          refine hK1 _ ?_
          clear hK1 K1
          refine wpPre_e rfl rfl (fun K1 hK1 => ?_)
          apply Exists.intro
          refine And.intro (fun wx hx => ?_) ?_
          · go_simp
            try rfl
          go_simp
          refine hK1 _ ?_
          clear hK1 K1
          refine wpPre_e rfl rfl (fun K1 hK1 => ?_)
          apply Exists.intro
          refine And.intro (fun wx hx => ?_) ?_
          · go_simp
            try rfl
          go_simp
          refine hK1 _ ?_
          clear hK1 K1
          refine wpPre_nil ?_
          refine wpTr_e rfl (fun K1 hK1 => ?_)
          refine step_call rfl 22 #[.tmp 134] _ rfl Try.f22 Try.func22 (by kernel_rfl) rfl #[.agg #[.string (s.item k).r.key, .int .i64 (s.item k).r.v.kind, .int .i64 (s.item k).r.v.int, .string (s.item k).r.v.text, .slice (s.item k).r.v.p (s.item k).r.v.n (s.item k).r.v.c, .slice (s.item k).r.p (s.item k).r.n (s.item k).r.c]] rfl _ (HF.out _ (Below.refl _ _).drew) (fun e w6 h6 => ?_)
          obtain ⟨u, rfl, hal6, hin6, hb6⟩ := h6
          refine ⟨_, rfl, ?_⟩
          have hb6' : Below W5.heap.size W5 w6 := (Below.refl W5.heap.size W5).drew.trans hb6
          have hin6' : RT.In w6 (fun b => W5.heap.size ≤ b) u := hin6
          have HU := hid (And.intro hal6 (And.intro hin6' hb6'))
          clear hal6 hin6 hin6' hb6 HF
          go_simp
          refine hK1 _ _ (fun _ => ⟨(hb6'.cell (p := ⟨ob, 2, none⟩) xl).trans x2, (hb6'.cell (p := ⟨ob, 4, none⟩) xl).trans x4, (hb6'.cell (p := ⟨ob, 5, none⟩) xl).trans x5, (hb6'.cell (p := ⟨ob, 6, none⟩) xl).trans x6, (hb6'.cell (p := ⟨ob, 7, none⟩) xl).trans x7, (hb6'.cell (p := ⟨ob, 8, none⟩) xl).trans x8, (hb6'.cell (p := ⟨ob, 9, none⟩) xl).trans x9, (hb6'.cell (p := ⟨vb, 9 + i, none⟩) vl5).trans vlc⟩) ?_
          clear hK1 K1
          refine wpPre_nil ?_
          refine wpTr_e rfl (fun K1 hK1 => ?_)
          refine step_build1 rfl 135 rfl u rfl ?_
          have hb7 : Below W5.heap.size W5 (w6.alloc (.cells #[.string u.key, .int .i64 u.v.kind, .int .i64 u.v.int, .string u.v.text, .slice u.v.p u.v.n u.v.c, .slice u.p u.n u.c] 36)) := hb6'.alloc hb6'.size _
          refine hK1 _ _ (fun _ => ⟨(hb7.cell (p := ⟨ob, 2, none⟩) xl).trans x2, (hb7.cell (p := ⟨ob, 4, none⟩) xl).trans x4, (hb7.cell (p := ⟨ob, 5, none⟩) xl).trans x5, (hb7.cell (p := ⟨ob, 6, none⟩) xl).trans x6, (hb7.cell (p := ⟨ob, 7, none⟩) xl).trans x7, (hb7.cell (p := ⟨ob, 8, none⟩) xl).trans x8, (hb7.cell (p := ⟨ob, 9, none⟩) xl).trans x9, (hb7.cell (p := ⟨vb, 9 + i, none⟩) vl5).trans vlc⟩) ?_
          clear hK1 K1
          refine wpPre_nil ?_
          refine wpTr_e rfl (fun K1 hK1 => ?_)
          have hV7 := HB5.out.1.v.below hb7
          have hnews : ∀ j u', (elRec.cells u)[j]? = some u' → (w6.alloc (.cells #[.string u.key, .int .i64 u.v.kind, .int .i64 u.v.int, .string u.v.text, .slice u.v.p u.v.n u.v.c, .slice u.p u.n u.c] 36)).cell? ((⟨w6.heap.size, 0, none⟩ : Addr).add j) = some u' := fun j u' hu => by
            rw [Go.WideShapes.add_plain, (Box.new w6 #[.string u.key, .int .i64 u.v.kind, .int .i64 u.v.int, .string u.v.text, .slice u.v.p u.v.n u.v.c, .slice u.p u.n u.c] 36).cell]
            rw [show 0 + j = j by omega]
            simpa [elRec, RT.cells] using hu
          have HX7 := hid (And.intro hV7 (And.intro hb7 hnews))
          clear hV7 hnews
          refine step_app rfl (.tmp 132) (.tmp 136) 37 36 i0 _ 6 96 HKd.out rfl 0 (.slice (V.lg i).p (V.lg i).n (V.lg i).c) (V.lg i).n (rowsR (V.lg i)) rfl (HX7.out.1.own i hi) ⟨w6.heap.size, 0, none⟩ 1 1 (elRec.cells u) rfl rfl HX7.out.2.2 (elRec.one u) (by omega) (by omega) (Nat.zero_le _) ?_
          intro v8 w8 ho8 hg8 hn8
          obtain ⟨p8, c8, rfl⟩ := ownsRow_slice ho8
          have hb8 : Box w8 vb V.arr 59 := HX7.out.1.box.kept (hg8.block vb HX7.out.1.box.lt (fun e => HX7.out.1.ne i hi e.symm))
          have y1 : ∃ z, w8.cell? ⟨vb, 9 + i, none⟩ = some z := by
            rw [hb8.cell]
            rcases (by omega : i = 0 ∨ i = 1 ∨ i = 2 ∨ i = 3) with rfl | rfl | rfl | rfl <;> exact ⟨_, rfl⟩
          obtain ⟨z1, y1⟩ := y1
          have g1 := hb8.frozen (9 + i)
          have hlt8 := hb8.lt
          rw [← rowsR_push (V.lg i) p8 c8 u] at ho8
          have HS8 := hid (HB5.out.1.v.setLog (w1 := w6.alloc (.cells #[.string u.key, .int .i64 u.v.kind, .int .i64 u.v.int, .string u.v.text, .slice u.v.p u.v.n u.v.c, .slice u.p u.n u.c] 36)) (w2 := w8) (i := i) (l := (V.lg i).push p8 c8 u) hi HX7.out.2.1 ho8 hg8 hn8)
          have HR8 := hid (RT.In.apartV (l := (V.lg i).push p8 c8 u) HB5.out.1.v hi ((HU.out.2.1.below ((Below.refl _ _).alloc (Nat.le_refl _) _))) hg8 hn8)
          have hC8 : w8.cell? ⟨ob, 2, none⟩ = some (.int .i64 (i : Int)) ∧ w8.cell? ⟨ob, 4, none⟩ = some (.string (s.item k).r.key) ∧ w8.cell? ⟨ob, 5, none⟩ = some (.int .i64 (s.item k).r.v.kind) ∧ w8.cell? ⟨ob, 6, none⟩ = some (.int .i64 (s.item k).r.v.int) ∧ w8.cell? ⟨ob, 7, none⟩ = some (.string (s.item k).r.v.text) ∧ w8.cell? ⟨ob, 8, none⟩ = some (.slice (s.item k).r.v.p (s.item k).r.v.n (s.item k).r.v.c) ∧ w8.cell? ⟨ob, 9, none⟩ = some (.slice (s.item k).r.p (s.item k).r.n (s.item k).r.c) ∧ w8.cell? ⟨vb, 9 + i, none⟩ = some (.slice (V.lg i).p (V.lg i).n (V.lg i).c) := by
            have k1 := hg8.block ob (Nat.lt_of_lt_of_le xl hb7.size) (fun e => HnV.out (.inr ⟨i, hi, e.symm⟩))
            have k2 := hg8.block vb HX7.out.1.box.lt (fun e => HX7.out.1.ne i hi e.symm)
            exact ⟨(World.cell?_of_block (a := ⟨ob, 2, none⟩) k1).trans ((hb7.cell (p := ⟨ob, 2, none⟩) xl).trans x2), (World.cell?_of_block (a := ⟨ob, 4, none⟩) k1).trans ((hb7.cell (p := ⟨ob, 4, none⟩) xl).trans x4), (World.cell?_of_block (a := ⟨ob, 5, none⟩) k1).trans ((hb7.cell (p := ⟨ob, 5, none⟩) xl).trans x5), (World.cell?_of_block (a := ⟨ob, 6, none⟩) k1).trans ((hb7.cell (p := ⟨ob, 6, none⟩) xl).trans x6), (World.cell?_of_block (a := ⟨ob, 7, none⟩) k1).trans ((hb7.cell (p := ⟨ob, 7, none⟩) xl).trans x7), (World.cell?_of_block (a := ⟨ob, 8, none⟩) k1).trans ((hb7.cell (p := ⟨ob, 8, none⟩) xl).trans x8), (World.cell?_of_block (a := ⟨ob, 9, none⟩) k1).trans ((hb7.cell (p := ⟨ob, 9, none⟩) xl).trans x9), (World.cell?_of_block (a := ⟨vb, 9 + i, none⟩) k2).trans ((hb7.cell (p := ⟨vb, 9 + i, none⟩) vl5).trans vlc)⟩
          clear ho8 hg8 hn8 hb8 HX7
          go_simp
          refine hK1 _ _ (fun _ => hC8) ?_
          clear hK1 K1
          refine wpPre_e rfl rfl (fun K1 hK1 => ?_)
          apply Exists.intro
          refine And.intro (fun wx hx => ?_) ?_
          · go_simp
            try rfl
          go_simp
          refine hK1 _ ?_
          clear hK1 K1
          refine wpPre_nil ?_
          refine wpTr_e rfl (fun K1 hK1 => ?_)
          go_simp
          refine hK1 _ _ (fun h => by cases h) ?_
          clear hK1 K1
          refine wpPre_nil ?_
          refine wpTr_done ?_
          obtain ⟨wc, hwc⟩ : ∃ x, x = w8.setCell ⟨vb, 9 + i, none⟩ (.slice p8 ((V.lg i).n + 1) c8) := ⟨_, rfl⟩
          rw [← hwc]
          have H6 : Hid (BV w wc b vb K4 (V.setLog i ((V.lg i).push p8 c8 u)) ∧ LM w.heap.size wc b vb K4 (V.setLog i ((V.lg i).push p8 c8 u)) ∧ LP N K4 (V.setLog i ((V.lg i).push p8 c8 u)) ∧ (K4.mode = mode ∧ K4.ports = (N : Int) ∧ K4.back = back) ∧ LgN K4 (10000 * k + 10000) ∧ VLn (V.setLog i ((V.lg i).push p8 c8 u)) (10000 * k + 10000)) := by
            unfold Hid
            rw [hwc]
            refine ⟨HB5.out.1.vstep HS8.out, HB5.out.2.push HB5.out.1 HS8.out HR8.out, ?_, ?_, HA.out.2.2.2.2.2.le (by omega), HVln.out.push⟩
            · have hk4 := HA.out.2.2.2.2.1
              have hin4 := HA.out.2.2.2.1
              rw [hk4]
              exact HJ1.out.push HD0.out hin4 HA.out.2.2.1 HU.out.1
            · rw [HA.out.2.2.2.2.1]; exact HPm.out
          clear hwc HA HB5 HU HS8 HR8 x0 x1 x2 x3 x4 x5 x6 x7 x8 x9 x10 x11 x12 x13 vlc y1 g1 hlt8 z1 hb6' hb7 hC8
          have v0 := H6.out.1.v.box.cell 0
          simp [Vw.arr] at v0
          rw [H6.out.2.2.1.id] at v0
          have vl6 := H6.out.1.v.box.lt
          have HNw := hid (now_any wc.drew b K4 (H6.out.1.bok.i.below (Below.refl _ _).drew))
          go_wp2_with fail
          refine wp_region_calmE 30 (fun wx => Below wc.heap.size wc wx) [(0, true), (2, true), (3, true), (4, true), (5, false)] (.one 1 true [(6, true)] .done) (by kernel_rfl) (by kernel_rfl) (Below.refl _ _).drew ?_
          refine wpPre_e rfl rfl (fun K1 hK1 => ?_)
          apply Exists.intro
          refine And.intro (fun wx hx => ?_) ?_
          · go_simp
            try rfl
          go_simp
          refine hK1 _ ?_
          clear hK1 K1
          refine wpPre_e rfl rfl (fun K1 hK1 => ?_)
          apply Exists.intro
          refine And.intro (fun wx hx => ?_) ?_
          · go_simp
            try rfl
          go_simp
          refine hK1 _ ?_
          clear hK1 K1
          refine wpPre_e rfl rfl (fun K1 hK1 => ?_)
          apply Exists.intro
          refine And.intro (fun wx hx => ?_) ?_
          · go_simp
            try rfl
          go_simp
          refine hK1 _ ?_
          clear hK1 K1
          refine wpPre_e rfl rfl (fun K1 hK1 => ?_)
          apply Exists.intro
          refine And.intro (fun wx hx => ?_) ?_
          · go_simp
            try rfl
          go_simp
          refine hK1 _ ?_
          clear hK1 K1
          refine wpPre_e rfl rfl (fun K1 hK1 => ?_)
          apply Exists.intro
          refine And.intro (fun wx hx => ?_) ?_
          · have e0 := below_fact hx rfl v0
            go_simp
            try rfl
          go_simp
          refine hK1 _ ?_
          clear hK1 K1
          refine wpPre_nil ?_
          refine wpTr_e rfl (fun K1 hK1 => ?_)
          refine step_call rfl 16 #[.tmp 227] _ rfl Try.f16 Try.func16 (by kernel_rfl) rfl #[.pointer (some ⟨b, 0, none⟩)] rfl _ HNw.out (fun e w9 h9 => ?_)
          obtain ⟨rfl, rfl⟩ := h9
          refine ⟨_, rfl, ?_⟩
          clear HNw
          go_simp
          refine hK1 _ _ (fun _ => (Below.refl _ _).drew) ?_
          clear hK1 K1
          refine wpPre_e rfl rfl (fun K1 hK1 => ?_)
          apply Exists.intro
          refine And.intro (fun wx hx => ?_) ?_
          · go_simp
            try rfl
          go_simp
          refine hK1 _ ?_
          clear hK1 K1
          refine wpPre_nil ?_
          refine wpTr_done ?_
          go_wp2
          go_roundw
          case rel => exact ⟨k + 1, K4, (V.setLog i ((V.lg i).push p8 c8 u)), by omega, by omega, by go_num, H6.out.1.below (Below.refl _ _).drew, H6.out.2.2.1, H6.out.2.1.below H6.out.1 (Below.refl _ _).drew, H6.out.2.2.2.1, H6.out.2.2.2.2.1.le (by omega), H6.out.2.2.2.2.2.le (by omega)⟩
          case measure => simp [intOf]; omega
      as_aux_lemma =>
        have HCd := hid hcd
        have HCp := hid hcp
        have HLy : Hid (K.lays (i : Int) = false) := by unfold Hid; rw [HJ1.out.lays hi hiN HTe.out, hcp, hcd]; rfl
        clear hcp hcd
        go_wp2_with (first | (go_at_call 14; refine HT.out.mono ?_; rintro e w4 ⟨K4, rfl, hQ⟩; rw [HTe.out]; have hX4 := HXo.out.kept (hQ.s.out HXo.out.lt HnK.out).1; have x2 := hX4.cell 2; have xl := hX4.lt; simp at x2; rw [hpi] at x2; have hV4 := (HBV1.out.bstep hQ.s).v; have v1 := hV4.box.cell 1; have vc := hV4.cs hi; have vl4 := hV4.box.lt; simp [Vw.arr] at v1; rw [HCp.out] at v1; rw [HCd.out] at vc) | (go_at_call 11; refine (num_any _ _).mono ?_; rintro e w5 ⟨rfl, hw5⟩; rw [hw5]; clear hw5 w5))
        have HX4 := hid hX4
        clear hX4 hV4 HT z0 z1 z2 z3 z4 z5 z6 z7 z8 z9 z10 z11 z12 z13
        obtain rfl : K4 = K := hQ.n HLy.out
        have HA := hid (And.intro (HBV1.out.bstep hQ.s) (HLM1.out.took HBV1.out hQ))
        clear hQ
        refine wp_region_calmD 30 (fun wx => Below w4.heap.size w4 wx) [(0, true), (1, true), (2, true), (3, true), (4, true), (5, true), (6, false), (7, true), (8, true), (9, true), (10, true), (11, false), (12, true), (13, true), (14, true), (15, false), (16, true), (17, true)] [] (by kernel_rfl) (by kernel_rfl) (Below.refl _ _).drew ?_
        refine wpPre_e rfl rfl (fun K1 hK1 => ?_)
        apply Exists.intro
        refine And.intro (fun wx hx => ?_) ?_
        · go_simp
          try rfl
        go_simp
        refine hK1 _ ?_
        clear hK1 K1
        refine wpPre_e rfl rfl (fun K1 hK1 => ?_)
        apply Exists.intro
        refine And.intro (fun wx hx => ?_) ?_
        · go_simp
          try rfl
        go_simp
        refine hK1 _ ?_
        clear hK1 K1
        refine wpPre_e rfl rfl (fun K1 hK1 => ?_)
        apply Exists.intro
        refine And.intro (fun wx hx => ?_) ?_
        · go_simp
          try rfl
        go_simp
        refine hK1 _ ?_
        clear hK1 K1
        refine wpPre_i rfl (fun K1 hK1 => ?_)
        rw [if_pos (by go_simp)]
        apply Exists.intro
        refine And.intro (fun wx hx => ?_) ?_
        · go_simp
          try rfl
        go_simp
        refine hK1 _ ?_
        clear hK1 K1
        refine wpPre_i rfl (fun K1 hK1 => ?_)
        rw [if_pos (by go_simp)]
        apply Exists.intro
        refine And.intro (fun wx hx => ?_) ?_
        · go_simp
          try rfl
        go_simp
        refine hK1 _ ?_
        clear hK1 K1
        refine wpPre_i rfl (fun K1 hK1 => ?_)
        rw [if_pos (by go_simp)]
        apply Exists.intro
        refine And.intro (fun wx hx => ?_) ?_
        · go_simp
          try rfl
        go_simp
        refine hK1 _ ?_
        clear hK1 K1
        refine wpPre_i rfl (fun K1 hK1 => ?_)
        rw [if_pos (by go_simp)]
        apply Exists.intro
        refine And.intro (fun wx hx => ?_) ?_
        · have e0 := below_fact hx rfl x2
          have e1 := below_fact hx rfl v1
          have e2 := below_fact hx rfl vc
          go_simp
          try rfl
        go_simp
        refine hK1 _ ?_
        clear hK1 K1
        refine wpPre_e rfl rfl (fun K1 hK1 => ?_)
        apply Exists.intro
        refine And.intro (fun wx hx => ?_) ?_
        · go_simp
          try rfl
        go_simp
        refine hK1 _ ?_
        clear hK1 K1
        refine wpPre_e rfl rfl (fun K1 hK1 => ?_)
        apply Exists.intro
        refine And.intro (fun wx hx => ?_) ?_
        · go_simp
          try rfl
        go_simp
        refine hK1 _ ?_
        clear hK1 K1
        refine wpPre_i rfl (fun K1 hK1 => ?_)
        rw [if_pos (by go_simp)]
        apply Exists.intro
        refine And.intro (fun wx hx => ?_) ?_
        · go_simp
          try rfl
        go_simp
        refine hK1 _ ?_
        clear hK1 K1
        refine wpPre_i rfl (fun K1 hK1 => ?_)
        rw [if_pos (by go_simp)]
        apply Exists.intro
        refine And.intro (fun wx hx => ?_) ?_
        · go_simp
          try rfl
        go_simp
        refine hK1 _ ?_
        clear hK1 K1
        refine wpPre_i rfl (fun K1 hK1 => ?_)
        rw [if_pos (by go_simp)]
        apply Exists.intro
        refine And.intro (fun wx hx => ?_) ?_
        · have e0 := below_fact hx rfl x2
          have e1 := below_fact hx rfl v1
          have e2 := below_fact hx rfl vc
          go_simp
          try rfl
        go_simp
        refine hK1 _ ?_
        clear hK1 K1
        refine wpPre_i rfl (fun K1 hK1 => ?_)
        rw [if_pos (by go_simp)]
        apply Exists.intro
        refine And.intro (fun wx hx => ?_) ?_
        · go_simp
          try rfl
        go_simp
        refine hK1 _ ?_
        clear hK1 K1
        refine wpPre_i rfl (fun K1 hK1 => ?_)
        rw [if_pos (by go_simp)]
        apply Exists.intro
        refine And.intro (fun wx hx => ?_) ?_
        · go_simp
          try rfl
        go_simp
        refine hK1 _ ?_
        clear hK1 K1
        refine wpPre_i rfl (fun K1 hK1 => ?_)
        rw [if_pos (by go_simp)]
        apply Exists.intro
        refine And.intro (fun wx hx => ?_) ?_
        · go_simp
          try rfl
        go_simp
        refine hK1 _ ?_
        clear hK1 K1
        refine wpPre_i rfl (fun K1 hK1 => ?_)
        rw [if_pos (by go_simp)]
        apply Exists.intro
        refine And.intro (fun wx hx => ?_) ?_
        · have e0 := below_fact hx rfl x2
          have e1 := below_fact hx rfl v1
          have e2 := below_fact hx rfl vc
          go_simp
          try rfl
        go_simp
        refine hK1 _ ?_
        clear hK1 K1
        refine wpPre_i rfl (fun K1 hK1 => ?_)
        rw [if_pos (by go_simp)]
        apply Exists.intro
        refine And.intro (fun wx hx => ?_) ?_
        · go_simp
          try rfl
        go_simp
        refine hK1 _ ?_
        clear hK1 K1
        refine wpPre_e rfl rfl (fun K1 hK1 => ?_)
        apply Exists.intro
        refine And.intro (fun wx hx => ?_) ?_
        · go_simp
          try rfl
        go_simp
        refine hK1 _ ?_
        clear hK1 K1
        refine wpPre_nil ?_
        refine wpStg_nil ?_
        obtain ⟨wc, hwc⟩ : ∃ x, x = w4.drew := ⟨_, rfl⟩
        rw [← hwc]
        have H6 : Hid (BV w wc b vb K4 V ∧ LM w.heap.size wc b vb K4 V ∧ LP N K4 V ∧ (K4.mode = mode ∧ K4.ports = (N : Int) ∧ K4.back = back) ∧ LgN K4 (10000 * k + 10000) ∧ VLn V (10000 * k + 10000)) := by
          unfold Hid
          rw [hwc]
          exact ⟨HA.out.1.below (Below.refl _ _).drew, HA.out.2.below HA.out.1 (Below.refl _ _).drew, HJ1.out, HPm.out, HLgN.out.le (by omega), HVln.out.le (by omega)⟩
        clear hwc HA x2 v1 vc xl vl4
        have v0 := H6.out.1.v.box.cell 0
        simp [Vw.arr] at v0
        rw [H6.out.2.2.1.id] at v0
        have vl6 := H6.out.1.v.box.lt
        have HNw := hid (now_any wc.drew b K4 (H6.out.1.bok.i.below (Below.refl _ _).drew))
        go_wp2_with fail
        refine wp_region_calmE 30 (fun wx => Below wc.heap.size wc wx) [(0, true), (2, true), (3, true), (4, true), (5, false)] (.one 1 true [(6, true)] .done) (by kernel_rfl) (by kernel_rfl) (Below.refl _ _).drew ?_
        refine wpPre_e rfl rfl (fun K1 hK1 => ?_)
        apply Exists.intro
        refine And.intro (fun wx hx => ?_) ?_
        · go_simp
          try rfl
        go_simp
        refine hK1 _ ?_
        clear hK1 K1
        refine wpPre_e rfl rfl (fun K1 hK1 => ?_)
        apply Exists.intro
        refine And.intro (fun wx hx => ?_) ?_
        · go_simp
          try rfl
        go_simp
        refine hK1 _ ?_
        clear hK1 K1
        refine wpPre_e rfl rfl (fun K1 hK1 => ?_)
        apply Exists.intro
        refine And.intro (fun wx hx => ?_) ?_
        · go_simp
          try rfl
        go_simp
        refine hK1 _ ?_
        clear hK1 K1
        refine wpPre_e rfl rfl (fun K1 hK1 => ?_)
        apply Exists.intro
        refine And.intro (fun wx hx => ?_) ?_
        · go_simp
          try rfl
        go_simp
        refine hK1 _ ?_
        clear hK1 K1
        refine wpPre_e rfl rfl (fun K1 hK1 => ?_)
        apply Exists.intro
        refine And.intro (fun wx hx => ?_) ?_
        · have e0 := below_fact hx rfl v0
          go_simp
          try rfl
        go_simp
        refine hK1 _ ?_
        clear hK1 K1
        refine wpPre_nil ?_
        refine wpTr_e rfl (fun K1 hK1 => ?_)
        refine step_call rfl 16 #[.tmp 227] _ rfl Try.f16 Try.func16 (by kernel_rfl) rfl #[.pointer (some ⟨b, 0, none⟩)] rfl _ HNw.out (fun e w9 h9 => ?_)
        obtain ⟨rfl, rfl⟩ := h9
        refine ⟨_, rfl, ?_⟩
        clear HNw
        go_simp
        refine hK1 _ _ (fun _ => (Below.refl _ _).drew) ?_
        clear hK1 K1
        refine wpPre_e rfl rfl (fun K1 hK1 => ?_)
        apply Exists.intro
        refine And.intro (fun wx hx => ?_) ?_
        · go_simp
          try rfl
        go_simp
        refine hK1 _ ?_
        clear hK1 K1
        refine wpPre_nil ?_
        refine wpTr_done ?_
        go_wp2
        go_roundw
        case rel => exact ⟨k + 1, K4, V, by omega, by omega, by go_num, H6.out.1.below (Below.refl _ _).drew, H6.out.2.2.1, H6.out.2.1.below H6.out.1 (Below.refl _ _).drew, H6.out.2.2.2.1, H6.out.2.2.2.2.1.le (by omega), H6.out.2.2.2.2.2.le (by omega)⟩
        case measure => simp [intOf]; omega
    have k1' : ((s.item k).kind == 1) = false := by simp [k1]
    by_cases k2 : (s.item k).kind = 2
    · rw [k2] at z0 k1'
      have HK2 := hid k2
      clear k2
      have HT := hid (mark_any (s.item k).port (s.item k).id (s.item k).a (s.item k).num (s.item k).l (s.item k).q W1 (fun b => b < w.heap.size) b K HBV1.out.bok.i (fun x hx e => by have := HBV1.out.bok.c x e; omega) (HIn.out _ HBV1.out.bok.bel).l (HIn.out _ HBV1.out.bok.bel).q HOs.out.l HOs.out.q (HIn.out _ HBV1.out.bok.bel).a HOs.out.a (fun i hi => by have := HLgN.out i hi; omega))
      by_cases hre : K.refE (s.item k).port (s.item k).id = 0
      rotate_left
      · as_aux_lemma =>
          have hre' : (K.refE (s.item k).port (s.item k).id == 0) = false := by simp [hre]
          have HMk : Hid (K.marks (s.item k).port (s.item k).id = false) := by unfold Hid; simp [Bk.marks, hre]
          clear hre
          go_wp2_with (first | (go_at_call 15; refine HT.out.mono ?_; rintro e w4 ⟨K4, r4, rfl, hQ⟩; obtain ⟨hK4, rfl⟩ := hQ.n HMk.out; subst hK4) | (go_at_call 11; refine (num_any _ _).mono ?_; rintro e w5 ⟨rfl, hw5⟩; rw [hw5]; clear hw5 w5))
          obtain ⟨wc, hwc⟩ : ∃ x, x = w4 := ⟨_, rfl⟩
          rw [← hwc]
          have H6 : Hid (BV w wc b vb K4 V ∧ LM w.heap.size wc b vb K4 V ∧ LP N K4 V ∧ (K4.mode = mode ∧ K4.ports = (N : Int) ∧ K4.back = back) ∧ LgN K4 (10000 * k + 10000) ∧ VLn V (10000 * k + 10000)) := by
            unfold Hid
            rw [hwc]
            exact ⟨HBV1.out.bstep hQ.s, HLM1.out.mark HBV1.out hQ, HJ1.out, HPm.out, HLgN.out.le (by omega), HVln.out.le (by omega)⟩
          clear hwc hQ HT HMk z0 z1 z2 z3 z4 z5 z6 z7 z8 z9 z10 z11 z12 z13
          have v0 := H6.out.1.v.box.cell 0
          simp [Vw.arr] at v0
          rw [H6.out.2.2.1.id] at v0
          have vl6 := H6.out.1.v.box.lt
          have HNw := hid (now_any wc.drew b K4 (H6.out.1.bok.i.below (Below.refl _ _).drew))
          go_wp2_with fail
          refine wp_region_calmE 30 (fun wx => Below wc.heap.size wc wx) [(0, true), (2, true), (3, true), (4, true), (5, false)] (.one 1 true [(6, true)] .done) (by kernel_rfl) (by kernel_rfl) (Below.refl _ _).drew ?_
          refine wpPre_e rfl rfl (fun K1 hK1 => ?_)
          apply Exists.intro
          refine And.intro (fun wx hx => ?_) ?_
          · go_simp
            try rfl
          go_simp
          refine hK1 _ ?_
          clear hK1 K1
          refine wpPre_e rfl rfl (fun K1 hK1 => ?_)
          apply Exists.intro
          refine And.intro (fun wx hx => ?_) ?_
          · go_simp
            try rfl
          go_simp
          refine hK1 _ ?_
          clear hK1 K1
          refine wpPre_e rfl rfl (fun K1 hK1 => ?_)
          apply Exists.intro
          refine And.intro (fun wx hx => ?_) ?_
          · go_simp
            try rfl
          go_simp
          refine hK1 _ ?_
          clear hK1 K1
          refine wpPre_e rfl rfl (fun K1 hK1 => ?_)
          apply Exists.intro
          refine And.intro (fun wx hx => ?_) ?_
          · go_simp
            try rfl
          go_simp
          refine hK1 _ ?_
          clear hK1 K1
          refine wpPre_e rfl rfl (fun K1 hK1 => ?_)
          apply Exists.intro
          refine And.intro (fun wx hx => ?_) ?_
          · have e0 := below_fact hx rfl v0
            go_simp
            try rfl
          go_simp
          refine hK1 _ ?_
          clear hK1 K1
          refine wpPre_nil ?_
          refine wpTr_e rfl (fun K1 hK1 => ?_)
          refine step_call rfl 16 #[.tmp 227] _ rfl Try.f16 Try.func16 (by kernel_rfl) rfl #[.pointer (some ⟨b, 0, none⟩)] rfl _ HNw.out (fun e w9 h9 => ?_)
          obtain ⟨rfl, rfl⟩ := h9
          refine ⟨_, rfl, ?_⟩
          clear HNw
          go_simp
          refine hK1 _ _ (fun _ => (Below.refl _ _).drew) ?_
          clear hK1 K1
          refine wpPre_e rfl rfl (fun K1 hK1 => ?_)
          apply Exists.intro
          refine And.intro (fun wx hx => ?_) ?_
          · go_simp
            try rfl
          go_simp
          refine hK1 _ ?_
          clear hK1 K1
          refine wpPre_nil ?_
          refine wpTr_done ?_
          go_wp2
          go_roundw
          case rel => exact ⟨k + 1, K4, V, by omega, by omega, by go_num, H6.out.1.below (Below.refl _ _).drew, H6.out.2.2.1, H6.out.2.1.below H6.out.1 (Below.refl _ _).drew, H6.out.2.2.2.1, H6.out.2.2.2.2.1.le (by omega), H6.out.2.2.2.2.2.le (by omega)⟩
          case measure => simp [intOf]; omega
      as_aux_lemma =>
        have hhas := Bk.has_ref hre
        obtain ⟨i, hpi, hiN⟩ : ∃ i : Nat, (s.item k).port = (i : Int) ∧ i < N := by
          have h := hhas
          simp only [Bk.has, Bool.and_eq_true, decide_eq_true_eq] at h
          have := HPm.out.2.1
          exact ⟨(s.item k).port.toNat, by omega, by omega⟩
        have hi : i < 4 := by omega
        have hi4 : (i : Int) < 4 := by omega
        have hiN' : (i : Int) < (N : Int) := by omega
        clear hhas
        have hp0 : ¬ (s.item k).port < 0 := by omega
        have hp1 : ¬ (N : Int) ≤ (s.item k).port := by omega
        have HPi := hid hpi
        have HRe := hid hre
        clear hpi hre
        go_wp2_with (first | (go_at_call 15; refine HT.out.mono ?_; rintro e w4 ⟨K4, r4, rfl, hQ⟩; rw [HRe.out]; have hX4 := HXo.out.kept (hQ.s.out HXo.out.lt HnK.out).1; have x0 := hX4.cell 0; have x1 := hX4.cell 1; have x2 := hX4.cell 2; have x3 := hX4.cell 3; have x4 := hX4.cell 4; have x5 := hX4.cell 5; have x6 := hX4.cell 6; have x7 := hX4.cell 7; have x8 := hX4.cell 8; have x9 := hX4.cell 9; have x10 := hX4.cell 10; have x11 := hX4.cell 11; have x12 := hX4.cell 12; have x13 := hX4.cell 13; simp at x0 x1 x2 x3 x4 x5 x6 x7 x8 x9 x10 x11 x12 x13; have xl := hX4.lt) | (go_at_call 11; refine (num_any _ _).mono ?_; rintro e w5 ⟨rfl, hw5⟩; rw [hw5]; clear hw5 w5))
        have HQ := hid hQ
        have HBV4 := hid (HBV1.out.bstep hQ.s)
        have HLM4 := hid (HLM1.out.mark HBV1.out hQ)
        clear hQ hX4 HT
        refine (sees_any (s.item k) r4 mode i hi HPi.out _ (fun k => k < w.heap.size) vb V HBV4.out.v (fun k hk e => by have := HBV4.out.vc k e; omega) (HIn.out _ HBV4.out.bok.bel) HOs.out (by have := HVln.out i hi; omega)).mono ?_
        rintro e wc ⟨rfl, V6, hS⟩
        have H6 : Hid (BV w wc b vb K4 V6 ∧ LM w.heap.size wc b vb K4 V6 ∧ LP N K4 V6 ∧ (K4.mode = mode ∧ K4.ports = (N : Int) ∧ K4.back = back) ∧ LgN K4 (10000 * k + 10000) ∧ VLn V6 (10000 * k + 10000)) := by
          unfold Hid
          have q := HQ.out
          rw [HPi.out] at q
          exact ⟨HBV4.out.vstep hS.s, HLM4.out.sees HBV4.out hS, HJ1.out.mark hi hiN rfl HPm.out.1 (by rw [← HPi.out]; exact HRe.out) q hS HLM4.out.kl HLM4.out.kc HLM4.out.kp, HQ.out.pm HPm.out, HLgN.out.mark HOs.out.a HQ.out, HVln.out.sees HOs.out.a hS⟩
        clear hS HQ HBV4 HLM4 x0 x1 x2 x3 x4 x5 x6 x7 x8 x9 x10 x11 x12 x13 xl z0 z1 z2 z3 z4 z5 z6 z7 z8 z9 z10 z11 z12 z13
        have v0 := H6.out.1.v.box.cell 0
        simp [Vw.arr] at v0
        rw [H6.out.2.2.1.id] at v0
        have vl6 := H6.out.1.v.box.lt
        have HNw := hid (now_any wc.drew b K4 (H6.out.1.bok.i.below (Below.refl _ _).drew))
        go_wp2_with fail
        refine wp_region_calmE 30 (fun wx => Below wc.heap.size wc wx) [(0, true), (2, true), (3, true), (4, true), (5, false)] (.one 1 true [(6, true)] .done) (by kernel_rfl) (by kernel_rfl) (Below.refl _ _).drew ?_
        refine wpPre_e rfl rfl (fun K1 hK1 => ?_)
        apply Exists.intro
        refine And.intro (fun wx hx => ?_) ?_
        · go_simp
          try rfl
        go_simp
        refine hK1 _ ?_
        clear hK1 K1
        refine wpPre_e rfl rfl (fun K1 hK1 => ?_)
        apply Exists.intro
        refine And.intro (fun wx hx => ?_) ?_
        · go_simp
          try rfl
        go_simp
        refine hK1 _ ?_
        clear hK1 K1
        refine wpPre_e rfl rfl (fun K1 hK1 => ?_)
        apply Exists.intro
        refine And.intro (fun wx hx => ?_) ?_
        · go_simp
          try rfl
        go_simp
        refine hK1 _ ?_
        clear hK1 K1
        refine wpPre_e rfl rfl (fun K1 hK1 => ?_)
        apply Exists.intro
        refine And.intro (fun wx hx => ?_) ?_
        · go_simp
          try rfl
        go_simp
        refine hK1 _ ?_
        clear hK1 K1
        refine wpPre_e rfl rfl (fun K1 hK1 => ?_)
        apply Exists.intro
        refine And.intro (fun wx hx => ?_) ?_
        · have e0 := below_fact hx rfl v0
          go_simp
          try rfl
        go_simp
        refine hK1 _ ?_
        clear hK1 K1
        refine wpPre_nil ?_
        refine wpTr_e rfl (fun K1 hK1 => ?_)
        refine step_call rfl 16 #[.tmp 227] _ rfl Try.f16 Try.func16 (by kernel_rfl) rfl #[.pointer (some ⟨b, 0, none⟩)] rfl _ HNw.out (fun e w9 h9 => ?_)
        obtain ⟨rfl, rfl⟩ := h9
        refine ⟨_, rfl, ?_⟩
        clear HNw
        go_simp
        refine hK1 _ _ (fun _ => (Below.refl _ _).drew) ?_
        clear hK1 K1
        refine wpPre_e rfl rfl (fun K1 hK1 => ?_)
        apply Exists.intro
        refine And.intro (fun wx hx => ?_) ?_
        · go_simp
          try rfl
        go_simp
        refine hK1 _ ?_
        clear hK1 K1
        refine wpPre_nil ?_
        refine wpTr_done ?_
        go_wp2
        go_roundw
        case rel => exact ⟨k + 1, K4, V6, by omega, by omega, by go_num, H6.out.1.below (Below.refl _ _).drew, H6.out.2.2.1, H6.out.2.1.below H6.out.1 (Below.refl _ _).drew, H6.out.2.2.2.1, H6.out.2.2.2.2.1.le (by omega), H6.out.2.2.2.2.2.le (by omega)⟩
        case measure => simp [intOf]; omega
    have k2' : ((s.item k).kind == 2) = false := by simp [k2]
    by_cases k3 : (s.item k).kind = 3
    · rw [k3] at z0 k1' k2'
      have HK3 := hid k3
      clear k3
      rcases hdn : (K.cp && !K.opn) with _ | _
      · as_aux_lemma =>
          have HPt := hid (part_any W1 b K HBV1.out.bok.i)
          have HWh := hid (HJ1.out.whole hN4 HPm.out.2.1)
          rw [hdn] at HWh
          have HDn := hid hdn
          clear hdn
          go_wp2_with (go_at_call 17; refine HPt.out.mono ?_; rintro e w4 ⟨K4, hQ⟩; obtain ⟨hK4, rfl⟩ := hQ.n HDn.out; subst hK4)
          obtain ⟨W6, hW6⟩ : ∃ x, x = w4.alloc (.cells #[.int .i64 0, .slice none 0 0, .slice none 0 0, .slice none 0 0] 49) := ⟨_, rfl⟩
          rw [← hW6]
          have hal6 : Below w4.heap.size w4 W6 := by rw [hW6]; exact (Below.refl _ _).alloc (Nat.le_refl _) _
          have HB6 : Hid (BV w W6 b vb K4 V ∧ LM w.heap.size W6 b vb K4 V) := by
            have h1 := HBV1.out.bstep hQ.s
            have h2 : LM w.heap.size w4 b vb K4 V := LM.of ⟨fun p hp j hj => Sx.b (E := elRec) hQ.s (HLM1.out.kl p hp j hj), Sx.b (E := elCells) hQ.s HLM1.out.kc, Sx.b (E := elRecs) hQ.s HLM1.out.kp⟩ (HLM1.out.vs hQ.s)
            exact ⟨h1.below hal6, h2.below h1 hal6⟩
          have p6 := hal6.size
          clear hQ hal6 HPt z0 z1 z2 z3 z4 z5 z6 z7 z8 z9 z10 z11 z12 z13 hW6
          refine (whole_any N hN4 W6 vb V HB6.out.1.v).mono ?_
          rintro e w7 ⟨rfl, hw7⟩
          rw [hw7]
          clear hw7 w7
          rcases hwb : V.wholeB N with _ | _
          · rcases hhd : V.hd with _ | _
            · have HHd := hid hhd
              clear hhd hwb
              have W6v := HB6.out.1.v.box.cell 13
              have W6f := HB6.out.1.v.box.frozen 13
              have W6l := HB6.out.1.v.box.lt
              simp [Vw.arr] at W6v
              rw [HHd.out] at W6v
              go_upto_region 37 with fail
              obtain ⟨wc, hwc⟩ : ∃ x, x = W6.setCell ⟨vb, 13, none⟩ (.bool false) := ⟨_, rfl⟩
              rw [← hwc]
              have H6 : Hid (BV w wc b vb K4 V ∧ LM w.heap.size wc b vb K4 V ∧ LP N K4 V ∧ (K4.mode = mode ∧ K4.ports = (N : Int) ∧ K4.back = back) ∧ LgN K4 (10000 * k + 10000) ∧ VLn V (10000 * k + 10000)) := by
                unfold Hid
                rw [hwc]
                have hs := HB6.out.1.v.hdSet false (Below.refl _ _)
                have e : V.hdSet false = V := by have e1 := V.hdSame; rw [HHd.out] at e1; exact e1
                rw [e] at hs
                exact ⟨HB6.out.1.vstep hs, LM.of (HB6.out.2.ks hs) ⟨fun p hp j hj => Sx.v (E := elRec) hs (HB6.out.2.vl p hp j hj), Sx.v (E := elCells) hs HB6.out.2.vc, Sx.v (E := elRecs) hs HB6.out.2.vp⟩, HJ1.out, HPm.out, HLgN.out.le (by omega), HVln.out.le (by omega)⟩
              clear hwc HB6 W6v W6f W6l
              have v0 := H6.out.1.v.box.cell 0
              simp [Vw.arr] at v0
              rw [H6.out.2.2.1.id] at v0
              have vl6 := H6.out.1.v.box.lt
              have HNw := hid (now_any wc.drew b K4 (H6.out.1.bok.i.below (Below.refl _ _).drew))
              go_wp2_with fail
              refine wp_region_calmE 30 (fun wx => Below wc.heap.size wc wx) [(0, true), (2, true), (3, true), (4, true), (5, false)] (.one 1 true [(6, true)] .done) (by kernel_rfl) (by kernel_rfl) (Below.refl _ _).drew ?_
              refine wpPre_e rfl rfl (fun K1 hK1 => ?_)
              apply Exists.intro
              refine And.intro (fun wx hx => ?_) ?_
              · go_simp
                try rfl
              go_simp
              refine hK1 _ ?_
              clear hK1 K1
              refine wpPre_e rfl rfl (fun K1 hK1 => ?_)
              apply Exists.intro
              refine And.intro (fun wx hx => ?_) ?_
              · go_simp
                try rfl
              go_simp
              refine hK1 _ ?_
              clear hK1 K1
              refine wpPre_e rfl rfl (fun K1 hK1 => ?_)
              apply Exists.intro
              refine And.intro (fun wx hx => ?_) ?_
              · go_simp
                try rfl
              go_simp
              refine hK1 _ ?_
              clear hK1 K1
              refine wpPre_e rfl rfl (fun K1 hK1 => ?_)
              apply Exists.intro
              refine And.intro (fun wx hx => ?_) ?_
              · go_simp
                try rfl
              go_simp
              refine hK1 _ ?_
              clear hK1 K1
              refine wpPre_e rfl rfl (fun K1 hK1 => ?_)
              apply Exists.intro
              refine And.intro (fun wx hx => ?_) ?_
              · have e0 := below_fact hx rfl v0
                go_simp
                try rfl
              go_simp
              refine hK1 _ ?_
              clear hK1 K1
              refine wpPre_nil ?_
              refine wpTr_e rfl (fun K1 hK1 => ?_)
              refine step_call rfl 16 #[.tmp 227] _ rfl Try.f16 Try.func16 (by kernel_rfl) rfl #[.pointer (some ⟨b, 0, none⟩)] rfl _ HNw.out (fun e w9 h9 => ?_)
              obtain ⟨rfl, rfl⟩ := h9
              refine ⟨_, rfl, ?_⟩
              clear HNw
              go_simp
              refine hK1 _ _ (fun _ => (Below.refl _ _).drew) ?_
              clear hK1 K1
              refine wpPre_e rfl rfl (fun K1 hK1 => ?_)
              apply Exists.intro
              refine And.intro (fun wx hx => ?_) ?_
              · go_simp
                try rfl
              go_simp
              refine hK1 _ ?_
              clear hK1 K1
              refine wpPre_nil ?_
              refine wpTr_done ?_
              go_wp2
              go_roundw
              case rel => exact ⟨k + 1, K4, V, by omega, by omega, by go_num, H6.out.1.below (Below.refl _ _).drew, H6.out.2.2.1, H6.out.2.1.below H6.out.1 (Below.refl _ _).drew, H6.out.2.2.2.1, H6.out.2.2.2.2.1.le (by omega), H6.out.2.2.2.2.2.le (by omega)⟩
              case measure => simp [intOf]; omega
            · have HHd := hid hhd
              clear hhd hwb
              have W6v := HB6.out.1.v.box.cell 13
              have W6f := HB6.out.1.v.box.frozen 13
              have W6l := HB6.out.1.v.box.lt
              simp [Vw.arr] at W6v
              rw [HHd.out] at W6v
              go_upto_region 37 with fail
              obtain ⟨wc, hwc⟩ : ∃ x, x = W6.setCell ⟨vb, 13, none⟩ (.bool true) := ⟨_, rfl⟩
              rw [← hwc]
              have H6 : Hid (BV w wc b vb K4 V ∧ LM w.heap.size wc b vb K4 V ∧ LP N K4 V ∧ (K4.mode = mode ∧ K4.ports = (N : Int) ∧ K4.back = back) ∧ LgN K4 (10000 * k + 10000) ∧ VLn V (10000 * k + 10000)) := by
                unfold Hid
                rw [hwc]
                have hs := HB6.out.1.v.hdSet true (Below.refl _ _)
                have e : V.hdSet true = V := by have e1 := V.hdSame; rw [HHd.out] at e1; exact e1
                rw [e] at hs
                exact ⟨HB6.out.1.vstep hs, LM.of (HB6.out.2.ks hs) ⟨fun p hp j hj => Sx.v (E := elRec) hs (HB6.out.2.vl p hp j hj), Sx.v (E := elCells) hs HB6.out.2.vc, Sx.v (E := elRecs) hs HB6.out.2.vp⟩, HJ1.out, HPm.out, HLgN.out.le (by omega), HVln.out.le (by omega)⟩
              clear hwc HB6 W6v W6f W6l
              have v0 := H6.out.1.v.box.cell 0
              simp [Vw.arr] at v0
              rw [H6.out.2.2.1.id] at v0
              have vl6 := H6.out.1.v.box.lt
              have HNw := hid (now_any wc.drew b K4 (H6.out.1.bok.i.below (Below.refl _ _).drew))
              go_wp2_with fail
              refine wp_region_calmE 30 (fun wx => Below wc.heap.size wc wx) [(0, true), (2, true), (3, true), (4, true), (5, false)] (.one 1 true [(6, true)] .done) (by kernel_rfl) (by kernel_rfl) (Below.refl _ _).drew ?_
              refine wpPre_e rfl rfl (fun K1 hK1 => ?_)
              apply Exists.intro
              refine And.intro (fun wx hx => ?_) ?_
              · go_simp
                try rfl
              go_simp
              refine hK1 _ ?_
              clear hK1 K1
              refine wpPre_e rfl rfl (fun K1 hK1 => ?_)
              apply Exists.intro
              refine And.intro (fun wx hx => ?_) ?_
              · go_simp
                try rfl
              go_simp
              refine hK1 _ ?_
              clear hK1 K1
              refine wpPre_e rfl rfl (fun K1 hK1 => ?_)
              apply Exists.intro
              refine And.intro (fun wx hx => ?_) ?_
              · go_simp
                try rfl
              go_simp
              refine hK1 _ ?_
              clear hK1 K1
              refine wpPre_e rfl rfl (fun K1 hK1 => ?_)
              apply Exists.intro
              refine And.intro (fun wx hx => ?_) ?_
              · go_simp
                try rfl
              go_simp
              refine hK1 _ ?_
              clear hK1 K1
              refine wpPre_e rfl rfl (fun K1 hK1 => ?_)
              apply Exists.intro
              refine And.intro (fun wx hx => ?_) ?_
              · have e0 := below_fact hx rfl v0
                go_simp
                try rfl
              go_simp
              refine hK1 _ ?_
              clear hK1 K1
              refine wpPre_nil ?_
              refine wpTr_e rfl (fun K1 hK1 => ?_)
              refine step_call rfl 16 #[.tmp 227] _ rfl Try.f16 Try.func16 (by kernel_rfl) rfl #[.pointer (some ⟨b, 0, none⟩)] rfl _ HNw.out (fun e w9 h9 => ?_)
              obtain ⟨rfl, rfl⟩ := h9
              refine ⟨_, rfl, ?_⟩
              clear HNw
              go_simp
              refine hK1 _ _ (fun _ => (Below.refl _ _).drew) ?_
              clear hK1 K1
              refine wpPre_e rfl rfl (fun K1 hK1 => ?_)
              apply Exists.intro
              refine And.intro (fun wx hx => ?_) ?_
              · go_simp
                try rfl
              go_simp
              refine hK1 _ ?_
              clear hK1 K1
              refine wpPre_nil ?_
              refine wpTr_done ?_
              go_wp2
              go_roundw
              case rel => exact ⟨k + 1, K4, V, by omega, by omega, by go_num, H6.out.1.below (Below.refl _ _).drew, H6.out.2.2.1, H6.out.2.1.below H6.out.1 (Below.refl _ _).drew, H6.out.2.2.2.1, H6.out.2.2.2.2.1.le (by omega), H6.out.2.2.2.2.2.le (by omega)⟩
              case measure => simp [intOf]; omega
          have HHd : Hid (V.hd = true) := by
            unfold Hid
            have := HWh.out
            rw [hwb] at this
            rcases e : V.hd with _ | _
            · rw [e] at this; cases this
            · rfl
          clear hwb
          have W6v := HB6.out.1.v.box.cell 13
          have W6f := HB6.out.1.v.box.frozen 13
          have W6l := HB6.out.1.v.box.lt
          simp [Vw.arr] at W6v
          rw [HHd.out] at W6v
          go_upto_region 37 with fail
          obtain ⟨wc, hwc⟩ : ∃ x, x = W6.setCell ⟨vb, 13, none⟩ (.bool true) := ⟨_, rfl⟩
          rw [← hwc]
          have H6 : Hid (BV w wc b vb K4 V ∧ LM w.heap.size wc b vb K4 V ∧ LP N K4 V ∧ (K4.mode = mode ∧ K4.ports = (N : Int) ∧ K4.back = back) ∧ LgN K4 (10000 * k + 10000) ∧ VLn V (10000 * k + 10000)) := by
            unfold Hid
            rw [hwc]
            have hs := HB6.out.1.v.hdSet true (Below.refl _ _)
            have e : V.hdSet true = V := by have e1 := V.hdSame; rw [HHd.out] at e1; exact e1
            rw [e] at hs
            exact ⟨HB6.out.1.vstep hs, LM.of (HB6.out.2.ks hs) ⟨fun p hp j hj => Sx.v (E := elRec) hs (HB6.out.2.vl p hp j hj), Sx.v (E := elCells) hs HB6.out.2.vc, Sx.v (E := elRecs) hs HB6.out.2.vp⟩, HJ1.out, HPm.out, HLgN.out.le (by omega), HVln.out.le (by omega)⟩
          clear hwc HB6 W6v W6f W6l
          have v0 := H6.out.1.v.box.cell 0
          simp [Vw.arr] at v0
          rw [H6.out.2.2.1.id] at v0
          have vl6 := H6.out.1.v.box.lt
          have HNw := hid (now_any wc.drew b K4 (H6.out.1.bok.i.below (Below.refl _ _).drew))
          go_wp2_with fail
          refine wp_region_calmE 30 (fun wx => Below wc.heap.size wc wx) [(0, true), (2, true), (3, true), (4, true), (5, false)] (.one 1 true [(6, true)] .done) (by kernel_rfl) (by kernel_rfl) (Below.refl _ _).drew ?_
          refine wpPre_e rfl rfl (fun K1 hK1 => ?_)
          apply Exists.intro
          refine And.intro (fun wx hx => ?_) ?_
          · go_simp
            try rfl
          go_simp
          refine hK1 _ ?_
          clear hK1 K1
          refine wpPre_e rfl rfl (fun K1 hK1 => ?_)
          apply Exists.intro
          refine And.intro (fun wx hx => ?_) ?_
          · go_simp
            try rfl
          go_simp
          refine hK1 _ ?_
          clear hK1 K1
          refine wpPre_e rfl rfl (fun K1 hK1 => ?_)
          apply Exists.intro
          refine And.intro (fun wx hx => ?_) ?_
          · go_simp
            try rfl
          go_simp
          refine hK1 _ ?_
          clear hK1 K1
          refine wpPre_e rfl rfl (fun K1 hK1 => ?_)
          apply Exists.intro
          refine And.intro (fun wx hx => ?_) ?_
          · go_simp
            try rfl
          go_simp
          refine hK1 _ ?_
          clear hK1 K1
          refine wpPre_e rfl rfl (fun K1 hK1 => ?_)
          apply Exists.intro
          refine And.intro (fun wx hx => ?_) ?_
          · have e0 := below_fact hx rfl v0
            go_simp
            try rfl
          go_simp
          refine hK1 _ ?_
          clear hK1 K1
          refine wpPre_nil ?_
          refine wpTr_e rfl (fun K1 hK1 => ?_)
          refine step_call rfl 16 #[.tmp 227] _ rfl Try.f16 Try.func16 (by kernel_rfl) rfl #[.pointer (some ⟨b, 0, none⟩)] rfl _ HNw.out (fun e w9 h9 => ?_)
          obtain ⟨rfl, rfl⟩ := h9
          refine ⟨_, rfl, ?_⟩
          clear HNw
          go_simp
          refine hK1 _ _ (fun _ => (Below.refl _ _).drew) ?_
          clear hK1 K1
          refine wpPre_e rfl rfl (fun K1 hK1 => ?_)
          apply Exists.intro
          refine And.intro (fun wx hx => ?_) ?_
          · go_simp
            try rfl
          go_simp
          refine hK1 _ ?_
          clear hK1 K1
          refine wpPre_nil ?_
          refine wpTr_done ?_
          go_wp2
          go_roundw
          case rel => exact ⟨k + 1, K4, V, by omega, by omega, by go_num, H6.out.1.below (Below.refl _ _).drew, H6.out.2.2.1, H6.out.2.1.below H6.out.1 (Below.refl _ _).drew, H6.out.2.2.2.1, H6.out.2.2.2.2.1.le (by omega), H6.out.2.2.2.2.2.le (by omega)⟩
          case measure => simp [intOf]; omega
      as_aux_lemma =>
        have HPt := hid (part_any W1 b K HBV1.out.bok.i)
        have hwh := HJ1.out.whole hN4 HPm.out.2.1
        rw [hdn] at hwh
        have HWh : Hid (V.wholeB N = true ∧ V.hd = false) := by
          unfold Hid
          rcases e1 : V.wholeB N with _ | _
          · rw [e1] at hwh; cases hwh
          · rcases e2 : V.hd with _ | _
            · exact ⟨rfl, rfl⟩
            · rw [e1, e2] at hwh; cases hwh
        have HDn := hid hdn
        have HNt : Hid (K.ports.toNat = N) := by unfold Hid; have := HPm.out.2.1; omega
        clear hdn hwh
        go_wp2_with (go_at_call 17; refine HPt.out.mono ?_; rintro e w4 ⟨K4, hQ⟩; obtain ⟨hK4, p5, c5, rfl, ho5⟩ := hQ.y HDn.out; rw [HNt.out] at ho5 ⊢)
        obtain ⟨W6, hW6⟩ : ∃ x, x = w4.alloc (.cells #[.int .i64 K.num, .slice K.cl.p K.cl.n K.cl.c, .slice p5 N c5, .slice K.pd.p K.pd.n K.pd.c] 49) := ⟨_, rfl⟩
        rw [← hW6]
        have hal6 : Below w4.heap.size w4 W6 := by rw [hW6]; exact (Below.refl _ _).alloc (Nat.le_refl _) _
        have HLl := hid (part_logs HLM1.out HBV1.out.bok.i hQ.but ho5 hN4 (fun p hp => by have := HLgN.out p hp; omega))
        have HLc : Hid (LT.In elCell w4 (fun _ => True) K.cl ∧ LT.In elRec w4 (fun _ => True) K.pd) := ⟨(Sx.b (E := elCells) hQ.s HLM1.out.kc : LT.In elCell w4 _ K.cl).mono fun _ _ _ => trivial, (Sx.b (E := elRecs) hQ.s HLM1.out.kp : LT.In elRec w4 _ K.pd).mono fun _ _ _ => trivial⟩
        have hs4 := hQ.s
        rw [hK4] at hs4
        have HB6 : Hid (BV w W6 b vb K.part V ∧ LM w.heap.size W6 b vb K.part V) := by
          have h1 := HBV1.out.bstep hs4
          exact ⟨h1.below hal6, (HLM1.out.part hs4).below h1 hal6⟩
        have HX6 : Hid (Box W6 w4.heap.size #[.int .i64 K.num, .slice K.cl.p K.cl.n K.cl.c, .slice p5 N c5, .slice K.pd.p K.pd.n K.pd.c] 49) := by unfold Hid; rw [hW6]; exact Box.new _ _ _
        have HFt : Hid (∀ Z, Below W6.heap.size W6 Z → Calls Try.prog 24 #[.pointer (some ⟨vb, 0, none⟩), .agg #[.int .i64 K.num, .slice K.cl.p K.cl.n K.cl.c, .slice p5 N c5, .slice K.pd.p K.pd.n K.pd.c], .int .i64 (N : Int)] Z fun e w' => e = .returned (.bool true) ∧ Below Z.heap.size Z w') := fun Z hZ => by
          have hz := (Below.refl w4.heap.size w4).trans hal6
          have hm := HB6.out.2.below HB6.out.1 hZ
          have hb := HB6.out.1.below hZ
          exact fits_any N hN4 K.num K.cl ⟨p5, N, c5, K.lg⟩ K.pd Z (fun _ => True) (fun _ => True) vb V hb.v ((HLc.out.1.below hz).below hZ) ((HLc.out.2.below hz).below hZ) ((HLl.out.below hz).below hZ) rfl (hm.vc.mono fun _ _ _ => trivial) (hm.vp.mono fun _ _ _ => trivial) (fun p hp => hm.vlog hb.v (by omega) (by have := HVln.out p (by omega); omega)) (HJ1.out.sn HWh.out.2) (HJ1.out.sc HWh.out.2) (HJ1.out.sp HWh.out.2) (fun p hp => HJ1.out.lg HWh.out.2 p (by omega))
        have hob6 : w4.heap.size < W6.heap.size := HX6.out.lt
        clear hQ hal6 HPt z0 z1 z2 z3 z4 z5 z6 z7 z8 z9 z10 z11 z12 z13 hW6 hs4 ho5 hK4 HLl HLc
        have q0 := HX6.out.cell 0
        have q1 := HX6.out.cell 1
        have q2 := HX6.out.cell 2
        have q3 := HX6.out.cell 3
        simp at q0 q1 q2 q3
        have v0 := HB6.out.1.v.box.cell 0
        have v13 := HB6.out.1.v.box.cell 13
        have vl6 := HB6.out.1.v.box.lt
        simp [Vw.arr] at v0 v13
        rw [HJ1.out.id] at v0
        rw [HWh.out.2] at v13
        refine (whole_any N hN4 W6 vb V HB6.out.1.v).mono ?_
        rintro e w7 ⟨rfl, hw7⟩
        rw [hw7, HWh.out.1]
        clear hw7 w7
        go_wp2_with fail
        refine (HFt.out _ (Below.refl _ _)).mono ?_
        rintro e w8 ⟨rfl, hb8⟩
        have HB8 := hid (And.intro (HB6.out.1.below hb8) (HB6.out.2.below HB6.out.1 hb8))
        clear hb8 q0 q1 q2 q3 v0 v13 vl6 HFt HX6 hob6
        have v13 := HB8.out.1.v.box.cell 13
        have f13 := HB8.out.1.v.box.frozen 13
        have vl8 := HB8.out.1.v.box.lt
        simp [Vw.arr] at v13
        rw [HWh.out.2] at v13
        go_upto_region 37 with fail
        obtain ⟨wc, hwc⟩ : ∃ x, x = w8.setCell ⟨vb, 13, none⟩ (.bool true) := ⟨_, rfl⟩
        rw [← hwc]
        have H6 : Hid (BV w wc b vb K.part V.hand ∧ LM w.heap.size wc b vb K.part V.hand ∧ LP N K.part V.hand ∧ (K.part.mode = mode ∧ K.part.ports = (N : Int) ∧ K.part.back = back) ∧ LgN K.part (10000 * k + 10000) ∧ VLn V.hand (10000 * k + 10000)) := by
          unfold Hid
          rw [hwc]
          have hs := HB8.out.1.v.handed (Below.refl _ _)
          exact ⟨HB8.out.1.vstep hs, HB8.out.2.hand hs, HJ1.out.part HPm.out.2.1 HDn.out HWh.out.2, HPm.out, LgN.part _, fun j hj => by have := HVln.out j hj; show (V.lg j).n ≤ _; omega⟩
        clear hwc HB6 HB8 v13 f13 vl8
        have v0 := H6.out.1.v.box.cell 0
        simp [Vw.arr] at v0
        rw [H6.out.2.2.1.id] at v0
        have vl6 := H6.out.1.v.box.lt
        have HNw := hid (now_any wc.drew b K.part (H6.out.1.bok.i.below (Below.refl _ _).drew))
        go_wp2_with fail
        refine wp_region_calmE 30 (fun wx => Below wc.heap.size wc wx) [(0, true), (2, true), (3, true), (4, true), (5, false)] (.one 1 true [(6, true)] .done) (by kernel_rfl) (by kernel_rfl) (Below.refl _ _).drew ?_
        refine wpPre_e rfl rfl (fun K1 hK1 => ?_)
        apply Exists.intro
        refine And.intro (fun wx hx => ?_) ?_
        · go_simp
          try rfl
        go_simp
        refine hK1 _ ?_
        clear hK1 K1
        refine wpPre_e rfl rfl (fun K1 hK1 => ?_)
        apply Exists.intro
        refine And.intro (fun wx hx => ?_) ?_
        · go_simp
          try rfl
        go_simp
        refine hK1 _ ?_
        clear hK1 K1
        refine wpPre_e rfl rfl (fun K1 hK1 => ?_)
        apply Exists.intro
        refine And.intro (fun wx hx => ?_) ?_
        · go_simp
          try rfl
        go_simp
        refine hK1 _ ?_
        clear hK1 K1
        refine wpPre_e rfl rfl (fun K1 hK1 => ?_)
        apply Exists.intro
        refine And.intro (fun wx hx => ?_) ?_
        · go_simp
          try rfl
        go_simp
        refine hK1 _ ?_
        clear hK1 K1
        refine wpPre_e rfl rfl (fun K1 hK1 => ?_)
        apply Exists.intro
        refine And.intro (fun wx hx => ?_) ?_
        · have e0 := below_fact hx rfl v0
          go_simp
          try rfl
        go_simp
        refine hK1 _ ?_
        clear hK1 K1
        refine wpPre_nil ?_
        refine wpTr_e rfl (fun K1 hK1 => ?_)
        refine step_call rfl 16 #[.tmp 227] _ rfl Try.f16 Try.func16 (by kernel_rfl) rfl #[.pointer (some ⟨b, 0, none⟩)] rfl _ HNw.out (fun e w9 h9 => ?_)
        obtain ⟨rfl, rfl⟩ := h9
        refine ⟨_, rfl, ?_⟩
        clear HNw
        go_simp
        refine hK1 _ _ (fun _ => (Below.refl _ _).drew) ?_
        clear hK1 K1
        refine wpPre_e rfl rfl (fun K1 hK1 => ?_)
        apply Exists.intro
        refine And.intro (fun wx hx => ?_) ?_
        · go_simp
          try rfl
        go_simp
        refine hK1 _ ?_
        clear hK1 K1
        refine wpPre_nil ?_
        refine wpTr_done ?_
        go_wp2
        go_roundw
        case rel => exact ⟨k + 1, K.part, V.hand, by omega, by omega, by go_num, H6.out.1.below (Below.refl _ _).drew, H6.out.2.2.1, H6.out.2.1.below H6.out.1 (Below.refl _ _).drew, H6.out.2.2.2.1, H6.out.2.2.2.2.1.le (by omega), H6.out.2.2.2.2.2.le (by omega)⟩
        case measure => simp [intOf]; omega
    have k3' : ((s.item k).kind == 3) = false := by simp [k3]
    as_aux_lemma =>
      obtain ⟨wc, hwc⟩ : ∃ x, x = W1 := ⟨_, rfl⟩
      rw [← hwc] at HBV1 HLM1 HXo z0 z1 z2 z3 z4 z5 z6 z7 z8 z9 z10 z11 z12 z13 ol ⊢
      clear hwc
      have H6 : Hid (BV w wc b vb K V ∧ LM w.heap.size wc b vb K V ∧ LP N K V ∧ (K.mode = mode ∧ K.ports = (N : Int) ∧ K.back = back) ∧ LgN K (10000 * k + 10000) ∧ VLn V (10000 * k + 10000)) := ⟨HBV1.out, HLM1.out, HJ1.out, HPm.out, HLgN.out.le (by omega), HVln.out.le (by omega)⟩
      go_upto_region 37 with fail
      clear z0 z1 z2 z3 z4 z5 z6 z7 z8 z9 z10 z11 z12 z13
      have v0 := H6.out.1.v.box.cell 0
      simp [Vw.arr] at v0
      rw [H6.out.2.2.1.id] at v0
      have vl6 := H6.out.1.v.box.lt
      have HNw := hid (now_any wc.drew b K (H6.out.1.bok.i.below (Below.refl _ _).drew))
      go_wp2_with fail
      refine wp_region_calmE 30 (fun wx => Below wc.heap.size wc wx) [(0, true), (2, true), (3, true), (4, true), (5, false)] (.one 1 true [(6, true)] .done) (by kernel_rfl) (by kernel_rfl) (Below.refl _ _).drew ?_
      refine wpPre_e rfl rfl (fun K1 hK1 => ?_)
      apply Exists.intro
      refine And.intro (fun wx hx => ?_) ?_
      · go_simp
        try rfl
      go_simp
      refine hK1 _ ?_
      clear hK1 K1
      refine wpPre_e rfl rfl (fun K1 hK1 => ?_)
      apply Exists.intro
      refine And.intro (fun wx hx => ?_) ?_
      · go_simp
        try rfl
      go_simp
      refine hK1 _ ?_
      clear hK1 K1
      refine wpPre_e rfl rfl (fun K1 hK1 => ?_)
      apply Exists.intro
      refine And.intro (fun wx hx => ?_) ?_
      · go_simp
        try rfl
      go_simp
      refine hK1 _ ?_
      clear hK1 K1
      refine wpPre_e rfl rfl (fun K1 hK1 => ?_)
      apply Exists.intro
      refine And.intro (fun wx hx => ?_) ?_
      · go_simp
        try rfl
      go_simp
      refine hK1 _ ?_
      clear hK1 K1
      refine wpPre_e rfl rfl (fun K1 hK1 => ?_)
      apply Exists.intro
      refine And.intro (fun wx hx => ?_) ?_
      · have e0 := below_fact hx rfl v0
        go_simp
        try rfl
      go_simp
      refine hK1 _ ?_
      clear hK1 K1
      refine wpPre_nil ?_
      refine wpTr_e rfl (fun K1 hK1 => ?_)
      refine step_call rfl 16 #[.tmp 227] _ rfl Try.f16 Try.func16 (by kernel_rfl) rfl #[.pointer (some ⟨b, 0, none⟩)] rfl _ HNw.out (fun e w9 h9 => ?_)
      obtain ⟨rfl, rfl⟩ := h9
      refine ⟨_, rfl, ?_⟩
      clear HNw
      go_simp
      refine hK1 _ _ (fun _ => (Below.refl _ _).drew) ?_
      clear hK1 K1
      refine wpPre_e rfl rfl (fun K1 hK1 => ?_)
      apply Exists.intro
      refine And.intro (fun wx hx => ?_) ?_
      · go_simp
        try rfl
      go_simp
      refine hK1 _ ?_
      clear hK1 K1
      refine wpPre_nil ?_
      refine wpTr_done ?_
      go_wp2
      go_roundw
      case rel => exact ⟨k + 1, K, V, by omega, by omega, by go_num, H6.out.1.below (Below.refl _ _).drew, H6.out.2.2.1, H6.out.2.1.below H6.out.1 (Below.refl _ _).drew, H6.out.2.2.2.1, H6.out.2.2.2.2.1.le (by omega), H6.out.2.2.2.2.2.le (by omega)⟩
      case measure => simp [intOf]; omega
end Go.Proofs.Ytdncnnjhfipokaa
