import Derived.Test.YtdncnnjhfipokaaKjB
import Derived.Deep.DeepCutAuto
namespace Go.Proofs.Ytdncnnjhfipokaa
open Go.RowKit
set_option maxRecDepth 8000
theorem MarkQ.pm {x id : Int} {a : LT RT} {num : Int} {l : LT VT} {q : LT RT} {w w' : World} {b : Nat} {K K' : Bk} {r : Bool} {mode ports back : Int} (m : MarkQ x id a num l q w b K w' K' r) (h : K.mode = mode ∧ K.ports = ports ∧ K.back = back) : K'.mode = mode ∧ K'.ports = ports ∧ K'.back = back := by
  rcases e : K.marks x id with _ | _
  · rw [(m.n e).1]; exact h
  · obtain ⟨w1, _, _, hQ⟩ := m.y e
    have hb : (K.base id).mode = K.mode ∧ (K.base id).ports = K.ports ∧ (K.base id).back = K.back := by unfold Bk.base; split <;> exact ⟨rfl, rfl, rfl⟩
    exact ⟨hQ.b.mode.trans (hb.1.trans h.1), hQ.b.ports.trans (hb.2.1.trans h.2.1), hQ.b.back.trans (hb.2.2.trans h.2.2)⟩
set_option maxHeartbeats 32000000 in
theorem held_walk (mode ports back : Int) (s : LT OpT) (w : World) (hin : LT.In elOp w (fun b => b < w.heap.size) s) : Calls Try.prog 5 #[.int .i64 mode, .int .i64 ports, .int .i64 back, .slice s.p s.n s.c] w fun e w' => e = .returned (.bool true) ∧ Below w.heap.size w w' := by
  have HI := hid hin
  have hnn := hin.nn
  clear hin
  have HL := hid (legal_any mode ports back w)
  unfold LegP at HL
  have HNw := hid (new_any mode ports back w)
  rcases hlg : legalB mode ports back with _ | _
  · rw [hlg] at HL
    have HLg := hid hlg
    clear hlg
    go_enter Try.func5, Try.ntmps5
    go_wp2_with fail
    refine HL.out.mono ?_
    rintro e w1 ⟨rfl, hw1⟩
    rw [hw1]
    clear hw1 w1
    go_wp2_with fail
    refine HNw.out.mono ?_
    rintro e w2 hnew
    obtain ⟨hw2, kk, hkk, rfl⟩ := hnew.2 HLg.out
    rw [hw2]
    clear hnew hw2 HNw HL
    rcases hkk with rfl | rfl
    · go_wp2_with (go_at_call 11; refine (num_any _ _).mono ?_; rintro e w3 ⟨rfl, rfl⟩)
      exact bodyPost_ret (v := .bool true) (by simp [results, Try.results5, go_sem]) rfl ⟨rfl, Below.refl _ _⟩
    · go_wp2_with (go_at_call 11; refine (num_any _ _).mono ?_; rintro e w3 ⟨rfl, rfl⟩)
      exact bodyPost_ret (v := .bool true) (by simp [results, Try.results5, go_sem]) rfl ⟨rfl, Below.refl _ _⟩
  rw [hlg] at HL
  have hm : 1 ≤ mode ∧ mode ≤ 3 ∧ 1 ≤ ports ∧ ports ≤ 4 := by have := of_decide_eq_true hlg; omega
  obtain ⟨N, rfl⟩ : ∃ N : Nat, ports = (N : Int) := ⟨ports.toNat, by omega⟩
  have hN4 : N ≤ 4 := by omega
  have HLg := hid hlg
  have HKi := hid (Bok.fresh mode N back w hlg)
  clear hlg
  go_enter Try.func5, Try.ntmps5
  go_wp2_with fail
  refine HL.out.mono ?_
  rintro e w1 ⟨rfl, hw1⟩
  rw [hw1]
  clear hw1 w1
  go_wp2_with fail
  refine HNw.out.mono ?_
  rintro e w2 hnew
  obtain ⟨rfl, hw2⟩ := hnew.1 HLg.out
  have H2 : Hid (Bok w w2 w.heap.size (Bk.fresh mode N back)) := by unfold Hid; rw [hw2]; exact HKi.out
  clear hnew hw2 HNw HKi HL
  go_wp2_with (first | (go_at_call 11; refine (num_any _ _).mono ?_; rintro e w3 ⟨rfl, rfl⟩) | (go_at_call 12; refine (known_any mode hm.1 hm.2.1 _).mono ?_; rintro e w4 ⟨rfl, hb4⟩; have H4 := hid (H2.out.below hb4); clear hb4))
  have HIn4 : Hid (LT.In elOp w4 (fun b => b < w.heap.size) s) := HI.out.kept H4.out.bel.size (fun b hb _ => H4.out.bel.block b hb)
  refine (inside_any s w4 (HIn4.out.mono (fun b _ hl => hl))).mono ?_
  rintro e w5 ⟨hb5, r5, rfl, hsz⟩
  have H5 := hid (H4.out.below hb5)
  have HSz := hid hsz
  clear hb5 hsz H4 H2 HIn4
  rcases r5 with _ | _
  · go_wp2
    exact bodyPost_ret (v := .bool true) (by simp [results, Try.results5, go_sem]) rfl ⟨rfl, H5.out.bel⟩
  have HSz2 := hid (HSz.out rfl)
  clear HSz
  go_wp2_with fail
  obtain ⟨vb, hvb⟩ : ∃ x, x = w5.heap.size := ⟨_, rfl⟩
  obtain ⟨b, hb⟩ : ∃ x, x = w.heap.size := ⟨_, rfl⟩
  have HBV0 : Hid (BV w (w5.alloc (.cells (Vw.fresh 0).arr 59)) b vb (Bk.fresh mode N back) (Vw.fresh 0)) := by
    unfold Hid
    rw [hb]
    refine ⟨H5.out.below ((Below.refl _ _).alloc (Nat.le_refl _) _), Vw.start w5 vb hvb, fun k hk e => ?_, fun k hk => ?_⟩
    · have h1 := H5.out.i.lt hk
      rcases e with e | ⟨j, _, e⟩
      · omega
      · cases e
    · rcases hk with e | ⟨j, _, e⟩
      · have := H5.out.bel.size; omega
      · cases e
  rw [show (Vw.fresh 0).arr = #[.int .i64 0, .bool false, .int .i64 0, .slice none 0 0, .slice none 0 0, .bool false, .bool false, .bool false, .bool false, .slice none 0 0, .slice none 0 0, .slice none 0 0, .slice none 0 0, .bool false] from rfl] at HBV0
  rw [← hvb, ← hb]
  generalize w5.alloc (.cells #[.int .i64 0, .bool false, .int .i64 0, .slice none 0 0, .slice none 0 0, .bool false, .bool false, .bool false, .bool false, .slice none 0 0, .slice none 0 0, .slice none 0 0, .slice none 0 0, .bool false] 59) = w6 at HBV0 ⊢
  clear hvb hb H5
  go_loopw [14] (fun xi wr => ∃ (k : Nat) (K : Bk) (V : Vw), k ≤ s.n ∧ k ≤ 600 ∧ xi = .int .i64 (k : Int) ∧ BV w wr b vb K V ∧ HJ K V ∧ (K.mode = mode ∧ K.ports = (N : Int) ∧ K.back = back) ∧ LgN K (10000 * k) ∧ VLn V (10000 * k)) (fun x _ => s.n - (intOf x).toNat)
  case atStart => exact ⟨0, Bk.fresh mode N back, Vw.fresh 0, Nat.zero_le _, by omega, rfl, HBV0.out, HJ.fresh _ _ _, ⟨rfl, rfl, rfl⟩, fun _ _ => Nat.zero_le _, fun _ _ => Nat.zero_le _⟩
  case round =>
    obtain ⟨k, K, V, hk, hk6, rfl, hBV, hJ, hPm, hLg, hVl⟩ := hrel
    have HBV := hid hBV
    have HJ1 := hid hJ
    have HPm := hid hPm
    have HLgN := hid hLg
    have HVln := hid hVl
    have hbl := hBV.bok.i.box.lt
    clear hBV hJ hPm hLg hVl HBV0
    by_cases hlt : k < s.n
    rotate_left
    · have hlt' : ¬ (k : Int) < (s.n : Int) := by omega
      go_wp2
      exact bodyPost_ret (v := .bool true) (by simp [results, Try.results5, go_sem]) rfl ⟨rfl, HBV.out.bok.bel⟩
    have hlt' : (k : Int) < (s.n : Int) := by omega
    by_cases hlt6 : k < 600
    rotate_left
    · have hlt6' : ¬ (k : Int) < 600 := by omega
      go_wp2
      exact bodyPost_ret (v := .bool true) (by simp [results, Try.results5, go_sem]) rfl ⟨rfl, HBV.out.bok.bel⟩
    have hlt6' : (k : Int) < 600 := by omega
    obtain ⟨bb, o, hp, hSb, hbb, hat⟩ := HI.out.at_ (by omega)
    rw [hp]
    have hcell : ∀ r u, (elOp.cells (s.item k))[r]? = some u → wr.cell? ⟨bb, o + k * 14 + r, none⟩ = some u := fun r u hu => (World.cell?_of_block (a := ⟨bb, o + k * 14 + r, none⟩) (HBV.out.bok.bel.block bb hbb)).trans (hat k hlt r u hu)
    have c0 : wr.cell? ⟨bb, o + k * 14, none⟩ = some (.int .i64 (s.item k).kind) := hcell 0 _ rfl
    have c1 : wr.cell? ⟨bb, o + k * 14 + 1, none⟩ = some (.int .i64 (s.item k).which) := hcell 1 _ rfl
    have c2 : wr.cell? ⟨bb, o + k * 14 + 2, none⟩ = some (.int .i64 (s.item k).port) := hcell 2 _ rfl
    have c3 : wr.cell? ⟨bb, o + k * 14 + 3, none⟩ = some (.int .i64 (s.item k).id) := hcell 3 _ rfl
    have c4 : wr.cell? ⟨bb, o + k * 14 + 4, none⟩ = some (.string (s.item k).r.key) := hcell 4 _ rfl
    have c5 : wr.cell? ⟨bb, o + k * 14 + 5, none⟩ = some (.int .i64 (s.item k).r.v.kind) := hcell 5 _ rfl
    have c6 : wr.cell? ⟨bb, o + k * 14 + 6, none⟩ = some (.int .i64 (s.item k).r.v.int) := hcell 6 _ rfl
    have c7 : wr.cell? ⟨bb, o + k * 14 + 7, none⟩ = some (.string (s.item k).r.v.text) := hcell 7 _ rfl
    have c8 : wr.cell? ⟨bb, o + k * 14 + 8, none⟩ = some (.slice (s.item k).r.v.p (s.item k).r.v.n (s.item k).r.v.c) := hcell 8 _ rfl
    have c9 : wr.cell? ⟨bb, o + k * 14 + 9, none⟩ = some (.slice (s.item k).r.p (s.item k).r.n (s.item k).r.c) := hcell 9 _ rfl
    have c10 : wr.cell? ⟨bb, o + k * 14 + 10, none⟩ = some (.slice (s.item k).a.p (s.item k).a.n (s.item k).a.c) := hcell 10 _ rfl
    have c11 : wr.cell? ⟨bb, o + k * 14 + 11, none⟩ = some (.slice (s.item k).q.p (s.item k).q.n (s.item k).q.c) := hcell 11 _ rfl
    have c12 : wr.cell? ⟨bb, o + k * 14 + 12, none⟩ = some (.int .i64 (s.item k).num) := hcell 12 _ rfl
    have c13 : wr.cell? ⟨bb, o + k * 14 + 13, none⟩ = some (.slice (s.item k).l.p (s.item k).l.n (s.item k).l.c) := hcell 13 _ rfl
    have HIn : Hid (∀ V, Below w.heap.size w V → OpT.In V (fun b => b < w.heap.size) (s.item k)) := fun V hV => (OpT.at_ HI.out hlt).kept hV.size (fun b hb _ => hV.block b hb)
    have HOs := hid (HSz2.out k hlt)
    clear hcell hat hp
    have hal : Below wr.heap.size wr (wr.alloc (.cells #[.int .i64 (s.item k).kind, .int .i64 (s.item k).which, .int .i64 (s.item k).port, .int .i64 (s.item k).id, .string (s.item k).r.key, .int .i64 (s.item k).r.v.kind, .int .i64 (s.item k).r.v.int, .string (s.item k).r.v.text, .slice (s.item k).r.v.p (s.item k).r.v.n (s.item k).r.v.c, .slice (s.item k).r.p (s.item k).r.n (s.item k).r.c, .slice (s.item k).a.p (s.item k).a.n (s.item k).a.c, .slice (s.item k).q.p (s.item k).q.n (s.item k).q.c, .int .i64 (s.item k).num, .slice (s.item k).l.p (s.item k).l.n (s.item k).l.c] 42)) := (Below.refl _ _).alloc (Nat.le_refl _) _
    have HBV1 := hid (HBV.out.below hal)
    have HXo := hid (Box.new wr #[.int .i64 (s.item k).kind, .int .i64 (s.item k).which, .int .i64 (s.item k).port, .int .i64 (s.item k).id, .string (s.item k).r.key, .int .i64 (s.item k).r.v.kind, .int .i64 (s.item k).r.v.int, .string (s.item k).r.v.text, .slice (s.item k).r.v.p (s.item k).r.v.n (s.item k).r.v.c, .slice (s.item k).r.p (s.item k).r.n (s.item k).r.c, .slice (s.item k).a.p (s.item k).a.n (s.item k).a.c, .slice (s.item k).q.p (s.item k).q.n (s.item k).q.c, .int .i64 (s.item k).num, .slice (s.item k).l.p (s.item k).l.n (s.item k).l.c] 42)
    have HnK : Hid (¬ K.C b wr.heap.size) := fun e => by have := HBV.out.bok.i.lt e; omega
    have HnV : Hid (¬ V.C vb wr.heap.size) := fun e => by have := HBV.out.v.lt e; omega
    obtain ⟨ob, hob⟩ : ∃ x, x = wr.heap.size := ⟨_, rfl⟩
    clear hal
    go_upto_region 14 with fail
    obtain ⟨W1, hW1⟩ : ∃ x, x = wr.alloc (.cells #[.int .i64 (s.item k).kind, .int .i64 (s.item k).which, .int .i64 (s.item k).port, .int .i64 (s.item k).id, .string (s.item k).r.key, .int .i64 (s.item k).r.v.kind, .int .i64 (s.item k).r.v.int, .string (s.item k).r.v.text, .slice (s.item k).r.v.p (s.item k).r.v.n (s.item k).r.v.c, .slice (s.item k).r.p (s.item k).r.n (s.item k).r.c, .slice (s.item k).a.p (s.item k).a.n (s.item k).a.c, .slice (s.item k).q.p (s.item k).q.n (s.item k).q.c, .int .i64 (s.item k).num, .slice (s.item k).l.p (s.item k).l.n (s.item k).l.c] 42) := ⟨_, rfl⟩
    rw [← hW1] at HBV1 HXo ⊢
    rw [← hob] at HXo HnK HnV ⊢
    have y0 := HXo.out.cell 0
    have y2 := HXo.out.cell 2
    have y3 := HXo.out.cell 3
    have v0 := HBV1.out.v.box.cell 0
    have v1 := HBV1.out.v.box.cell 1
    have ol := HXo.out.lt
    have vl := HBV1.out.v.box.lt
    have bl := HBV1.out.bok.i.box.lt
    simp [Vw.arr] at y0 y2 y3 v0 v1
    clear hW1 hob c0 c1 c2 c3 c4 c5 c6 c7 c8 c9 c10 c11 c12 c13
    go_cut [16] (fun sx wx => sx = .bool (K.has (s.item k).port) ∧ wx = W1)
    case first =>
      have hpp := HPm.out.2.1
      by_cases h0 : 0 ≤ (s.item k).port
      · go_wp2_with fail
        go_meet
        exact ⟨by simp [Bk.has, h0, hpp], rfl⟩
      · go_wp2_with fail
        go_meet
        exact ⟨by simp [Bk.has]; omega, rfl⟩
    case rest =>
      obtain ⟨rfl, hcw⟩ := hcut
      rw [hcw]
      clear hcw
      go_upto_region 15 with fail
      rcases hhas : K.has (s.item k).port with _ | _
      · have hhd : K.held (s.item k).port = false := by simp [Bk.held, hhas]
        refine wp_region_calmD 30 (fun wx => Below W1.heap.size W1 wx) [(0, true), (1, true), (2, true), (3, true), (4, true), (5, true), (6, true), (7, true), (8, true), (9, false), (10, true), (11, true), (12, true), (13, true), (14, true), (15, true), (16, false), (17, true), (18, true), (19, true), (20, true), (21, true), (22, false), (23, true), (24, true), (25, true), (26, false), (27, true), (28, true)] [] (by kernel_rfl) (by kernel_rfl) (Below.refl _ _).drew ?_
        refine wpPre_e rfl rfl (fun K1 hK1 => ?_)
        apply Exists.intro
        refine And.intro (fun wx hx => ?_) ?_
        · go_simp
          try rfl
        go_simp
        refine hK1 _ ?_
        clear hK1 K1
        refine wpPre_e rfl rfl (fun K1 hK1 => ?_)
        apply Exists.intro
        refine And.intro (fun wx hx => ?_) ?_
        · go_simp
          try rfl
        go_simp
        refine hK1 _ ?_
        clear hK1 K1
        refine wpPre_i rfl (fun K1 hK1 => ?_)
        rw [if_neg (by go_simp; all_goals (intro h; cases h))]
        go_simp
        refine hK1 _ ?_
        clear hK1 K1
        refine wpPre_i rfl (fun K1 hK1 => ?_)
        rw [if_neg (by go_simp; all_goals (intro h; cases h))]
        go_simp
        refine hK1 _ ?_
        clear hK1 K1
        refine wpPre_e rfl rfl (fun K1 hK1 => ?_)
        apply Exists.intro
        refine And.intro (fun wx hx => ?_) ?_
        · go_simp
          try rfl
        go_simp
        refine hK1 _ ?_
        clear hK1 K1
        refine wpPre_e rfl rfl (fun K1 hK1 => ?_)
        apply Exists.intro
        refine And.intro (fun wx hx => ?_) ?_
        · go_simp
          try rfl
        go_simp
        refine hK1 _ ?_
        clear hK1 K1
        refine wpPre_i rfl (fun K1 hK1 => ?_)
        rw [if_neg (by go_simp; all_goals (intro h; cases h))]
        go_simp
        refine hK1 _ ?_
        clear hK1 K1
        refine wpPre_i rfl (fun K1 hK1 => ?_)
        rw [if_neg (by go_simp; all_goals (intro h; cases h))]
        go_simp
        refine hK1 _ ?_
        clear hK1 K1
        refine wpPre_i rfl (fun K1 hK1 => ?_)
        rw [if_neg (by go_simp; all_goals (intro h; cases h))]
        go_simp
        refine hK1 _ ?_
        clear hK1 K1
        refine wpPre_i rfl (fun K1 hK1 => ?_)
        rw [if_neg (by go_simp; all_goals (intro h; cases h))]
        go_simp
        refine hK1 _ ?_
        clear hK1 K1
        refine wpPre_i rfl (fun K1 hK1 => ?_)
        rw [if_neg (by go_simp; all_goals (intro h; cases h))]
        go_simp
        refine hK1 _ ?_
        clear hK1 K1
        refine wpPre_e rfl rfl (fun K1 hK1 => ?_)
        apply Exists.intro
        refine And.intro (fun wx hx => ?_) ?_
        · go_simp
          try rfl
        go_simp
        refine hK1 _ ?_
        clear hK1 K1
        refine wpPre_e rfl rfl (fun K1 hK1 => ?_)
        apply Exists.intro
        refine And.intro (fun wx hx => ?_) ?_
        · go_simp
          try rfl
        go_simp
        refine hK1 _ ?_
        clear hK1 K1
        refine wpPre_i rfl (fun K1 hK1 => ?_)
        rw [if_neg (by go_simp; all_goals (intro h; cases h))]
        go_simp
        refine hK1 _ ?_
        clear hK1 K1
        refine wpPre_i rfl (fun K1 hK1 => ?_)
        rw [if_neg (by go_simp; all_goals (intro h; cases h))]
        go_simp
        refine hK1 _ ?_
        clear hK1 K1
        refine wpPre_i rfl (fun K1 hK1 => ?_)
        rw [if_neg (by go_simp; all_goals (intro h; cases h))]
        go_simp
        refine hK1 _ ?_
        clear hK1 K1
        refine wpPre_i rfl (fun K1 hK1 => ?_)
        rw [if_neg (by go_simp; all_goals (intro h; cases h))]
        go_simp
        refine hK1 _ ?_
        clear hK1 K1
        refine wpPre_i rfl (fun K1 hK1 => ?_)
        rw [if_neg (by go_simp; all_goals (intro h; cases h))]
        go_simp
        refine hK1 _ ?_
        clear hK1 K1
        refine wpPre_e rfl rfl (fun K1 hK1 => ?_)
        apply Exists.intro
        refine And.intro (fun wx hx => ?_) ?_
        · go_simp
          try rfl
        go_simp
        refine hK1 _ ?_
        clear hK1 K1
        refine wpPre_e rfl rfl (fun K1 hK1 => ?_)
        apply Exists.intro
        refine And.intro (fun wx hx => ?_) ?_
        · go_simp
          try rfl
        go_simp
        refine hK1 _ ?_
        clear hK1 K1
        refine wpPre_i rfl (fun K1 hK1 => ?_)
        rw [if_neg (by go_simp; all_goals (intro h; cases h))]
        go_simp
        refine hK1 _ ?_
        clear hK1 K1
        refine wpPre_i rfl (fun K1 hK1 => ?_)
        rw [if_neg (by go_simp; all_goals (intro h; cases h))]
        go_simp
        refine hK1 _ ?_
        clear hK1 K1
        refine wpPre_i rfl (fun K1 hK1 => ?_)
        rw [if_neg (by go_simp; all_goals (intro h; cases h))]
        go_simp
        refine hK1 _ ?_
        clear hK1 K1
        refine wpPre_i rfl (fun K1 hK1 => ?_)
        rw [if_neg (by go_simp; all_goals (intro h; cases h))]
        go_simp
        refine hK1 _ ?_
        clear hK1 K1
        refine wpPre_i rfl (fun K1 hK1 => ?_)
        rw [if_neg (by go_simp; all_goals (intro h; cases h))]
        go_simp
        refine hK1 _ ?_
        clear hK1 K1
        refine wpPre_i rfl (fun K1 hK1 => ?_)
        rw [if_neg (by go_simp; all_goals (intro h; cases h))]
        go_simp
        refine hK1 _ ?_
        clear hK1 K1
        refine wpPre_i rfl (fun K1 hK1 => ?_)
        rw [if_neg (by go_simp; all_goals (intro h; cases h))]
        go_simp
        refine hK1 _ ?_
        clear hK1 K1
        refine wpPre_e rfl rfl (fun K1 hK1 => ?_)
        apply Exists.intro
        refine And.intro (fun wx hx => ?_) ?_
        · go_simp
          try rfl
        go_simp
        refine hK1 _ ?_
        clear hK1 K1
        refine wpPre_e rfl rfl (fun K1 hK1 => ?_)
        apply Exists.intro
        refine And.intro (fun wx hx => ?_) ?_
        · go_simp
          try rfl
        go_simp
        refine hK1 _ ?_
        clear hK1 K1
        refine wpPre_nil ?_
        refine wpStg_nil ?_
        have HHas := hid hhas
        have HHd := hid hhd
        clear hhas
        obtain ⟨W2, hW2⟩ : ∃ x, x = W1.drew := ⟨_, rfl⟩
        rw [← hW2]
        have HBV2 : Hid (BV w W2 b vb K V) := by unfold Hid; rw [hW2]; exact HBV1.out.below (Below.refl _ _).drew
        have HXo2 : Hid (Box W2 ob #[.int .i64 (s.item k).kind, .int .i64 (s.item k).which, .int .i64 (s.item k).port, .int .i64 (s.item k).id, .string (s.item k).r.key, .int .i64 (s.item k).r.v.kind, .int .i64 (s.item k).r.v.int, .string (s.item k).r.v.text, .slice (s.item k).r.v.p (s.item k).r.v.n (s.item k).r.v.c, .slice (s.item k).r.p (s.item k).r.n (s.item k).r.c, .slice (s.item k).a.p (s.item k).a.n (s.item k).a.c, .slice (s.item k).q.p (s.item k).q.n (s.item k).q.c, .int .i64 (s.item k).num, .slice (s.item k).l.p (s.item k).l.n (s.item k).l.c] 42) := by unfold Hid; rw [hW2]; exact HXo.out.below (Below.refl _ _).drew
        have z0 := HXo2.out.cell 0
        have z1 := HXo2.out.cell 1
        have z2 := HXo2.out.cell 2
        have z3 := HXo2.out.cell 3
        have z4 := HXo2.out.cell 4
        have z5 := HXo2.out.cell 5
        have z6 := HXo2.out.cell 6
        have z7 := HXo2.out.cell 7
        have z8 := HXo2.out.cell 8
        have z9 := HXo2.out.cell 9
        have z10 := HXo2.out.cell 10
        have z11 := HXo2.out.cell 11
        have z12 := HXo2.out.cell 12
        have z13 := HXo2.out.cell 13
        simp at z0 z1 z2 z3 z4 z5 z6 z7 z8 z9 z10 z11 z12 z13
        have ol2 := HXo2.out.lt
        have vl2 := HBV2.out.v.box.lt
        have bl2 := HBV2.out.bok.i.box.lt
        clear hW2 y0 y2 y3 v0 v1
        go_wp2_with fail
        refine (held_any (s.item k).port W2 b K HBV2.out.bok.i).mono ?_
        rintro e W3 ⟨rfl, hW3⟩
        rw [hW3, hhd]
        clear hW3 W3 hhd
        by_cases k1 : (s.item k).kind = 1
        · as_aux_lemma =>
            rw [k1] at z0
            have HTe : Hid (K.tookE (s.item k).port = 132) := by unfold Hid; rw [Bk.tookE, if_pos HHas.out]
            have HT := hid (took_any (s.item k).port (s.item k).r W2 (fun b => b < w.heap.size) b K HBV2.out.bok.i (HIn.out _ HBV2.out.bok.bel).r HOs.out.r (fun i hi => by have := HLgN.out i hi; omega))
            go_wp2_with (first | (go_at_call 14; refine HT.out.mono ?_; rintro e w4 ⟨K4, rfl, hQ⟩; rw [HTe.out]) | (go_at_call 11; refine (num_any _ _).mono ?_; rintro e w5 ⟨rfl, rfl⟩))
            have hpm : K4.mode = mode ∧ K4.ports = (N : Int) ∧ K4.back = back := by
              rcases e : K.lays (s.item k).port with _ | _
              · rw [hQ.n e]; exact HPm.out
              · obtain ⟨u, p, cc, _, _, rfl⟩ := hQ.y e; exact HPm.out
            have H4 := hid (And.intro (HBV2.out.bstep hQ.s) (And.intro (HJ1.out.took hQ) (And.intro hpm (HLgN.out.took hQ))))
            clear hQ HT hpm
            go_roundw
            case rel => exact ⟨k + 1, K4, V, by omega, by omega, by go_num, H4.out.1, H4.out.2.1, H4.out.2.2.1, H4.out.2.2.2.le (by omega), HVln.out.le (by omega)⟩
            case measure => simp [intOf]; omega
        have k1' : ((s.item k).kind == 1) = false := by simp [k1]
        by_cases k2 : (s.item k).kind = 2
        · as_aux_lemma =>
            rw [k2] at z0 k1'
            have HK2 := hid k2
            clear k2
            have HT := hid (mark_any (s.item k).port (s.item k).id (s.item k).a (s.item k).num (s.item k).l (s.item k).q W2 (fun b => b < w.heap.size) b K HBV2.out.bok.i (fun x hx e => by have := HBV2.out.bok.c x e; omega) (HIn.out _ HBV2.out.bok.bel).l (HIn.out _ HBV2.out.bok.bel).q HOs.out.l HOs.out.q (HIn.out _ HBV2.out.bok.bel).a HOs.out.a (fun i hi => by have := HLgN.out i hi; omega))
            have HRe : Hid (K.refE (s.item k).port (s.item k).id = 132) := by unfold Hid; rw [Bk.refE, if_pos HHas.out]
            have HMk : Hid (K.marks (s.item k).port (s.item k).id = false) := by unfold Hid; simp [Bk.marks, HRe.out]
            go_wp2_with (first | (go_at_call 15; refine HT.out.mono ?_; rintro e w4 ⟨K4, r4, rfl, hQ⟩; rw [HRe.out]; obtain ⟨hK4, rfl⟩ := hQ.n HMk.out; subst hK4; have hX4 := HXo2.out.kept (hQ.s.out HXo2.out.lt HnK.out).1; have x3 := hX4.cell 3; simp at x3; have xl := hX4.lt) | (go_at_call 11; refine (num_any _ _).mono ?_; rintro e w5 ⟨rfl, rfl⟩))
            have H4 := hid (HBV2.out.bstep hQ.s)
            clear hQ HT
            go_roundw
            case rel => exact ⟨k + 1, _, V, by omega, by omega, by go_num, H4.out, HJ1.out, HPm.out, HLgN.out.le (by omega), HVln.out.le (by omega)⟩
            case measure => simp [intOf]; omega
        have k2' : ((s.item k).kind == 2) = false := by simp [k2]
        as_aux_lemma =>
          go_wp2
          go_roundw
          case rel => exact ⟨k + 1, K, V, by omega, by omega, by go_num, HBV2.out, HJ1.out, HPm.out, HLgN.out.le (by omega), HVln.out.le (by omega)⟩
          case measure => simp [intOf]; omega
      obtain ⟨i, hpi, hiN⟩ : ∃ i : Nat, (s.item k).port = (i : Int) ∧ i < N := by
        have h := hhas
        simp only [Bk.has, Bool.and_eq_true, decide_eq_true_eq] at h
        have := HPm.out.2.1
        exact ⟨(s.item k).port.toNat, by omega, by omega⟩
      have hi : i < 4 := by omega
      have hi4 : (i : Int) < 4 := by omega
      have hhe := HJ1.out.held HBV1.out.bok.i.n0 hi (by rw [← hpi]; exact hhas)
      rw [HPm.out.1, ← hpi] at hhe
      have HHe := hid hhe
      have vc := HBV1.out.v.cs hi
      rw [hpi] at y2
      have HPi := hid hpi
      clear hhe hpi
      go_cut [17] (fun sx wx => sx = .bool (K.held (s.item k).port) ∧ wx = W1.drew)
      case first =>
        as_aux_lemma =>
          by_cases hm1 : mode = 1
          rotate_left
          · have hm1' : (mode == 1) = false := by simp [hm1]
            have HM1 := hid hm1
            clear hm1
            refine wp_region_calmD 30 (fun wx => Below W1.heap.size W1 wx) [(0, true), (1, true), (2, true), (3, true), (4, true), (5, true), (6, true), (7, true), (8, true), (9, false), (10, true), (11, true), (12, true), (13, true), (14, true), (15, true), (16, false), (17, true), (18, true), (19, true), (20, true), (21, true), (22, false), (23, true), (24, true), (25, true), (26, false), (27, true), (28, true)] [] (by kernel_rfl) (by kernel_rfl) (Below.refl _ _).drew ?_
            refine wpPre_e rfl rfl (fun K1 hK1 => ?_)
            apply Exists.intro
            refine And.intro (fun wx hx => ?_) ?_
            · go_simp
              try rfl
            go_simp
            refine hK1 _ ?_
            clear hK1 K1
            refine wpPre_e rfl rfl (fun K1 hK1 => ?_)
            apply Exists.intro
            refine And.intro (fun wx hx => ?_) ?_
            · go_simp
              try rfl
            go_simp
            refine hK1 _ ?_
            clear hK1 K1
            refine wpPre_i rfl (fun K1 hK1 => ?_)
            rw [if_pos (by go_simp)]
            apply Exists.intro
            refine And.intro (fun wx hx => ?_) ?_
            · go_simp
              try rfl
            go_simp
            refine hK1 _ ?_
            clear hK1 K1
            refine wpPre_i rfl (fun K1 hK1 => ?_)
            rw [if_pos (by go_simp)]
            apply Exists.intro
            refine And.intro (fun wx hx => ?_) ?_
            · go_simp
              try rfl
            go_simp
            refine hK1 _ ?_
            clear hK1 K1
            refine wpPre_e rfl rfl (fun K1 hK1 => ?_)
            apply Exists.intro
            refine And.intro (fun wx hx => ?_) ?_
            · go_simp
              try rfl
            go_simp
            refine hK1 _ ?_
            clear hK1 K1
            refine wpPre_e rfl rfl (fun K1 hK1 => ?_)
            apply Exists.intro
            refine And.intro (fun wx hx => ?_) ?_
            · go_simp
              try rfl
            go_simp
            refine hK1 _ ?_
            clear hK1 K1
            refine wpPre_i rfl (fun K1 hK1 => ?_)
            rw [if_neg (by go_simp; all_goals (intro h; cases h))]
            go_simp
            refine hK1 _ ?_
            clear hK1 K1
            refine wpPre_i rfl (fun K1 hK1 => ?_)
            rw [if_neg (by go_simp; all_goals (intro h; cases h))]
            go_simp
            refine hK1 _ ?_
            clear hK1 K1
            refine wpPre_i rfl (fun K1 hK1 => ?_)
            rw [if_neg (by go_simp; all_goals (intro h; cases h))]
            go_simp
            refine hK1 _ ?_
            clear hK1 K1
            refine wpPre_i rfl (fun K1 hK1 => ?_)
            rw [if_neg (by go_simp; all_goals (intro h; cases h))]
            go_simp
            refine hK1 _ ?_
            clear hK1 K1
            refine wpPre_i rfl (fun K1 hK1 => ?_)
            rw [if_neg (by go_simp; all_goals (intro h; cases h))]
            go_simp
            refine hK1 _ ?_
            clear hK1 K1
            refine wpPre_e rfl rfl (fun K1 hK1 => ?_)
            apply Exists.intro
            refine And.intro (fun wx hx => ?_) ?_
            · go_simp
              try rfl
            go_simp
            refine hK1 _ ?_
            clear hK1 K1
            refine wpPre_e rfl rfl (fun K1 hK1 => ?_)
            apply Exists.intro
            refine And.intro (fun wx hx => ?_) ?_
            · go_simp
              try rfl
            go_simp
            refine hK1 _ ?_
            clear hK1 K1
            refine wpPre_i rfl (fun K1 hK1 => ?_)
            rw [if_neg (by go_simp; all_goals (intro h; cases h))]
            go_simp
            refine hK1 _ ?_
            clear hK1 K1
            refine wpPre_i rfl (fun K1 hK1 => ?_)
            rw [if_neg (by go_simp; all_goals (intro h; cases h))]
            go_simp
            refine hK1 _ ?_
            clear hK1 K1
            refine wpPre_i rfl (fun K1 hK1 => ?_)
            rw [if_neg (by go_simp; all_goals (intro h; cases h))]
            go_simp
            refine hK1 _ ?_
            clear hK1 K1
            refine wpPre_i rfl (fun K1 hK1 => ?_)
            rw [if_neg (by go_simp; all_goals (intro h; cases h))]
            go_simp
            refine hK1 _ ?_
            clear hK1 K1
            refine wpPre_i rfl (fun K1 hK1 => ?_)
            rw [if_neg (by go_simp; all_goals (intro h; cases h))]
            go_simp
            refine hK1 _ ?_
            clear hK1 K1
            refine wpPre_e rfl rfl (fun K1 hK1 => ?_)
            apply Exists.intro
            refine And.intro (fun wx hx => ?_) ?_
            · go_simp
              try rfl
            go_simp
            refine hK1 _ ?_
            clear hK1 K1
            refine wpPre_e rfl rfl (fun K1 hK1 => ?_)
            apply Exists.intro
            refine And.intro (fun wx hx => ?_) ?_
            · go_simp
              try rfl
            go_simp
            refine hK1 _ ?_
            clear hK1 K1
            refine wpPre_i rfl (fun K1 hK1 => ?_)
            rw [if_neg (by go_simp; all_goals (intro h; cases h))]
            go_simp
            refine hK1 _ ?_
            clear hK1 K1
            refine wpPre_i rfl (fun K1 hK1 => ?_)
            rw [if_neg (by go_simp; all_goals (intro h; cases h))]
            go_simp
            refine hK1 _ ?_
            clear hK1 K1
            refine wpPre_i rfl (fun K1 hK1 => ?_)
            rw [if_neg (by go_simp; all_goals (intro h; cases h))]
            go_simp
            refine hK1 _ ?_
            clear hK1 K1
            refine wpPre_i rfl (fun K1 hK1 => ?_)
            rw [if_neg (by go_simp; all_goals (intro h; cases h))]
            go_simp
            refine hK1 _ ?_
            clear hK1 K1
            refine wpPre_i rfl (fun K1 hK1 => ?_)
            rw [if_neg (by go_simp; all_goals (intro h; cases h))]
            go_simp
            refine hK1 _ ?_
            clear hK1 K1
            refine wpPre_i rfl (fun K1 hK1 => ?_)
            rw [if_neg (by go_simp; all_goals (intro h; cases h))]
            go_simp
            refine hK1 _ ?_
            clear hK1 K1
            refine wpPre_i rfl (fun K1 hK1 => ?_)
            rw [if_neg (by go_simp; all_goals (intro h; cases h))]
            go_simp
            refine hK1 _ ?_
            clear hK1 K1
            refine wpPre_e rfl rfl (fun K1 hK1 => ?_)
            apply Exists.intro
            refine And.intro (fun wx hx => ?_) ?_
            · go_simp
              try rfl
            go_simp
            refine hK1 _ ?_
            clear hK1 K1
            refine wpPre_e rfl rfl (fun K1 hK1 => ?_)
            apply Exists.intro
            refine And.intro (fun wx hx => ?_) ?_
            · go_simp
              try rfl
            go_simp
            refine hK1 _ ?_
            clear hK1 K1
            refine wpPre_nil ?_
            refine wpStg_nil ?_
            go_wp2_with fail
            go_meet
            exact ⟨by rw [HHe.out]; simp [HM1.out], rfl⟩
          have hm1' : (mode == 1) = true := by simp [hm1]
          have HM1 := hid hm1
          clear hm1
          by_cases hid1 : 0 < V.id
          rotate_left
          · refine wp_region_calmD 30 (fun wx => Below W1.heap.size W1 wx) [(0, true), (1, true), (2, true), (3, true), (4, true), (5, true), (6, true), (7, true), (8, true), (9, false), (10, true), (11, true), (12, true), (13, true), (14, true), (15, true), (16, false), (17, true), (18, true), (19, true), (20, true), (21, true), (22, false), (23, true), (24, true), (25, true), (26, false), (27, true), (28, true)] [] (by kernel_rfl) (by kernel_rfl) (Below.refl _ _).drew ?_
            refine wpPre_e rfl rfl (fun K1 hK1 => ?_)
            apply Exists.intro
            refine And.intro (fun wx hx => ?_) ?_
            · go_simp
              try rfl
            go_simp
            refine hK1 _ ?_
            clear hK1 K1
            refine wpPre_e rfl rfl (fun K1 hK1 => ?_)
            apply Exists.intro
            refine And.intro (fun wx hx => ?_) ?_
            · go_simp
              try rfl
            go_simp
            refine hK1 _ ?_
            clear hK1 K1
            refine wpPre_i rfl (fun K1 hK1 => ?_)
            rw [if_pos (by go_simp)]
            apply Exists.intro
            refine And.intro (fun wx hx => ?_) ?_
            · go_simp
              try rfl
            go_simp
            refine hK1 _ ?_
            clear hK1 K1
            refine wpPre_i rfl (fun K1 hK1 => ?_)
            rw [if_pos (by go_simp)]
            apply Exists.intro
            refine And.intro (fun wx hx => ?_) ?_
            · go_simp
              try rfl
            go_simp
            refine hK1 _ ?_
            clear hK1 K1
            refine wpPre_e rfl rfl (fun K1 hK1 => ?_)
            apply Exists.intro
            refine And.intro (fun wx hx => ?_) ?_
            · go_simp
              try rfl
            go_simp
            refine hK1 _ ?_
            clear hK1 K1
            refine wpPre_e rfl rfl (fun K1 hK1 => ?_)
            apply Exists.intro
            refine And.intro (fun wx hx => ?_) ?_
            · go_simp
              try rfl
            go_simp
            refine hK1 _ ?_
            clear hK1 K1
            refine wpPre_i rfl (fun K1 hK1 => ?_)
            rw [if_pos (by go_simp)]
            apply Exists.intro
            refine And.intro (fun wx hx => ?_) ?_
            · go_simp
              try rfl
            go_simp
            refine hK1 _ ?_
            clear hK1 K1
            refine wpPre_i rfl (fun K1 hK1 => ?_)
            rw [if_pos (by go_simp)]
            apply Exists.intro
            refine And.intro (fun wx hx => ?_) ?_
            · go_simp
              try rfl
            go_simp
            refine hK1 _ ?_
            clear hK1 K1
            refine wpPre_i rfl (fun K1 hK1 => ?_)
            rw [if_pos (by go_simp)]
            apply Exists.intro
            refine And.intro (fun wx hx => ?_) ?_
            · go_simp
              try rfl
            go_simp
            refine hK1 _ ?_
            clear hK1 K1
            refine wpPre_i rfl (fun K1 hK1 => ?_)
            rw [if_pos (by go_simp)]
            apply Exists.intro
            refine And.intro (fun wx hx => ?_) ?_
            · have e0 := below_fact hx rfl y2
              have e1 := below_fact hx rfl v0
              have e2 := below_fact hx rfl v1
              have e3 := below_fact hx rfl vc
              go_simp
              try rfl
            go_simp
            refine hK1 _ ?_
            clear hK1 K1
            refine wpPre_i rfl (fun K1 hK1 => ?_)
            rw [if_pos (by go_simp)]
            apply Exists.intro
            refine And.intro (fun wx hx => ?_) ?_
            · go_simp
              try rfl
            go_simp
            refine hK1 _ ?_
            clear hK1 K1
            refine wpPre_e rfl rfl (fun K1 hK1 => ?_)
            apply Exists.intro
            refine And.intro (fun wx hx => ?_) ?_
            · go_simp
              try rfl
            go_simp
            refine hK1 _ ?_
            clear hK1 K1
            refine wpPre_e rfl rfl (fun K1 hK1 => ?_)
            apply Exists.intro
            refine And.intro (fun wx hx => ?_) ?_
            · go_simp
              try rfl
            go_simp
            refine hK1 _ ?_
            clear hK1 K1
            refine wpPre_i rfl (fun K1 hK1 => ?_)
            rw [if_neg (by go_simp; all_goals (intro h; cases h))]
            go_simp
            refine hK1 _ ?_
            clear hK1 K1
            refine wpPre_i rfl (fun K1 hK1 => ?_)
            rw [if_neg (by go_simp; all_goals (intro h; cases h))]
            go_simp
            refine hK1 _ ?_
            clear hK1 K1
            refine wpPre_i rfl (fun K1 hK1 => ?_)
            rw [if_neg (by go_simp; all_goals (intro h; cases h))]
            go_simp
            refine hK1 _ ?_
            clear hK1 K1
            refine wpPre_i rfl (fun K1 hK1 => ?_)
            rw [if_neg (by go_simp; all_goals (intro h; cases h))]
            go_simp
            refine hK1 _ ?_
            clear hK1 K1
            refine wpPre_i rfl (fun K1 hK1 => ?_)
            rw [if_neg (by go_simp; all_goals (intro h; cases h))]
            go_simp
            refine hK1 _ ?_
            clear hK1 K1
            refine wpPre_e rfl rfl (fun K1 hK1 => ?_)
            apply Exists.intro
            refine And.intro (fun wx hx => ?_) ?_
            · go_simp
              try rfl
            go_simp
            refine hK1 _ ?_
            clear hK1 K1
            refine wpPre_e rfl rfl (fun K1 hK1 => ?_)
            apply Exists.intro
            refine And.intro (fun wx hx => ?_) ?_
            · go_simp
              try rfl
            go_simp
            refine hK1 _ ?_
            clear hK1 K1
            refine wpPre_i rfl (fun K1 hK1 => ?_)
            rw [if_neg (by go_simp; all_goals (intro h; cases h))]
            go_simp
            refine hK1 _ ?_
            clear hK1 K1
            refine wpPre_i rfl (fun K1 hK1 => ?_)
            rw [if_neg (by go_simp; all_goals (intro h; cases h))]
            go_simp
            refine hK1 _ ?_
            clear hK1 K1
            refine wpPre_i rfl (fun K1 hK1 => ?_)
            rw [if_neg (by go_simp; all_goals (intro h; cases h))]
            go_simp
            refine hK1 _ ?_
            clear hK1 K1
            refine wpPre_i rfl (fun K1 hK1 => ?_)
            rw [if_neg (by go_simp; all_goals (intro h; cases h))]
            go_simp
            refine hK1 _ ?_
            clear hK1 K1
            refine wpPre_i rfl (fun K1 hK1 => ?_)
            rw [if_neg (by go_simp; all_goals (intro h; cases h))]
            go_simp
            refine hK1 _ ?_
            clear hK1 K1
            refine wpPre_i rfl (fun K1 hK1 => ?_)
            rw [if_neg (by go_simp; all_goals (intro h; cases h))]
            go_simp
            refine hK1 _ ?_
            clear hK1 K1
            refine wpPre_i rfl (fun K1 hK1 => ?_)
            rw [if_neg (by go_simp; all_goals (intro h; cases h))]
            go_simp
            refine hK1 _ ?_
            clear hK1 K1
            refine wpPre_e rfl rfl (fun K1 hK1 => ?_)
            apply Exists.intro
            refine And.intro (fun wx hx => ?_) ?_
            · go_simp
              try rfl
            go_simp
            refine hK1 _ ?_
            clear hK1 K1
            refine wpPre_e rfl rfl (fun K1 hK1 => ?_)
            apply Exists.intro
            refine And.intro (fun wx hx => ?_) ?_
            · go_simp
              try rfl
            go_simp
            refine hK1 _ ?_
            clear hK1 K1
            refine wpPre_nil ?_
            refine wpStg_nil ?_
            go_wp2_with fail
            go_meet
            exact ⟨by rw [HHe.out]; simp [show ¬ 0 < V.id by omega], rfl⟩
          rcases hcp1 : V.cp with _ | _
          · rw [hcp1] at v1
            refine wp_region_calmD 30 (fun wx => Below W1.heap.size W1 wx) [(0, true), (1, true), (2, true), (3, true), (4, true), (5, true), (6, true), (7, true), (8, true), (9, false), (10, true), (11, true), (12, true), (13, true), (14, true), (15, true), (16, false), (17, true), (18, true), (19, true), (20, true), (21, true), (22, false), (23, true), (24, true), (25, true), (26, false), (27, true), (28, true)] [] (by kernel_rfl) (by kernel_rfl) (Below.refl _ _).drew ?_
            refine wpPre_e rfl rfl (fun K1 hK1 => ?_)
            apply Exists.intro
            refine And.intro (fun wx hx => ?_) ?_
            · go_simp
              try rfl
            go_simp
            refine hK1 _ ?_
            clear hK1 K1
            refine wpPre_e rfl rfl (fun K1 hK1 => ?_)
            apply Exists.intro
            refine And.intro (fun wx hx => ?_) ?_
            · go_simp
              try rfl
            go_simp
            refine hK1 _ ?_
            clear hK1 K1
            refine wpPre_i rfl (fun K1 hK1 => ?_)
            rw [if_pos (by go_simp)]
            apply Exists.intro
            refine And.intro (fun wx hx => ?_) ?_
            · go_simp
              try rfl
            go_simp
            refine hK1 _ ?_
            clear hK1 K1
            refine wpPre_i rfl (fun K1 hK1 => ?_)
            rw [if_pos (by go_simp)]
            apply Exists.intro
            refine And.intro (fun wx hx => ?_) ?_
            · go_simp
              try rfl
            go_simp
            refine hK1 _ ?_
            clear hK1 K1
            refine wpPre_e rfl rfl (fun K1 hK1 => ?_)
            apply Exists.intro
            refine And.intro (fun wx hx => ?_) ?_
            · go_simp
              try rfl
            go_simp
            refine hK1 _ ?_
            clear hK1 K1
            refine wpPre_e rfl rfl (fun K1 hK1 => ?_)
            apply Exists.intro
            refine And.intro (fun wx hx => ?_) ?_
            · go_simp
              try rfl
            go_simp
            refine hK1 _ ?_
            clear hK1 K1
            refine wpPre_i rfl (fun K1 hK1 => ?_)
            rw [if_pos (by go_simp)]
            apply Exists.intro
            refine And.intro (fun wx hx => ?_) ?_
            · go_simp
              try rfl
            go_simp
            refine hK1 _ ?_
            clear hK1 K1
            refine wpPre_i rfl (fun K1 hK1 => ?_)
            rw [if_pos (by go_simp)]
            apply Exists.intro
            refine And.intro (fun wx hx => ?_) ?_
            · go_simp
              try rfl
            go_simp
            refine hK1 _ ?_
            clear hK1 K1
            refine wpPre_i rfl (fun K1 hK1 => ?_)
            rw [if_pos (by go_simp)]
            apply Exists.intro
            refine And.intro (fun wx hx => ?_) ?_
            · go_simp
              try rfl
            go_simp
            refine hK1 _ ?_
            clear hK1 K1
            refine wpPre_i rfl (fun K1 hK1 => ?_)
            rw [if_pos (by go_simp)]
            apply Exists.intro
            refine And.intro (fun wx hx => ?_) ?_
            · have e0 := below_fact hx rfl y2
              have e1 := below_fact hx rfl v0
              have e2 := below_fact hx rfl v1
              have e3 := below_fact hx rfl vc
              go_simp
              try rfl
            go_simp
            refine hK1 _ ?_
            clear hK1 K1
            refine wpPre_i rfl (fun K1 hK1 => ?_)
            rw [if_pos (by go_simp)]
            apply Exists.intro
            refine And.intro (fun wx hx => ?_) ?_
            · go_simp
              try rfl
            go_simp
            refine hK1 _ ?_
            clear hK1 K1
            refine wpPre_e rfl rfl (fun K1 hK1 => ?_)
            apply Exists.intro
            refine And.intro (fun wx hx => ?_) ?_
            · go_simp
              try rfl
            go_simp
            refine hK1 _ ?_
            clear hK1 K1
            refine wpPre_e rfl rfl (fun K1 hK1 => ?_)
            apply Exists.intro
            refine And.intro (fun wx hx => ?_) ?_
            · go_simp
              try rfl
            go_simp
            refine hK1 _ ?_
            clear hK1 K1
            refine wpPre_i rfl (fun K1 hK1 => ?_)
            rw [if_pos (by go_simp)]
            apply Exists.intro
            refine And.intro (fun wx hx => ?_) ?_
            · go_simp
              try rfl
            go_simp
            refine hK1 _ ?_
            clear hK1 K1
            refine wpPre_i rfl (fun K1 hK1 => ?_)
            rw [if_pos (by go_simp)]
            apply Exists.intro
            refine And.intro (fun wx hx => ?_) ?_
            · go_simp
              try rfl
            go_simp
            refine hK1 _ ?_
            clear hK1 K1
            refine wpPre_i rfl (fun K1 hK1 => ?_)
            rw [if_pos (by go_simp)]
            apply Exists.intro
            refine And.intro (fun wx hx => ?_) ?_
            · go_simp
              try rfl
            go_simp
            refine hK1 _ ?_
            clear hK1 K1
            refine wpPre_i rfl (fun K1 hK1 => ?_)
            rw [if_pos (by go_simp)]
            apply Exists.intro
            refine And.intro (fun wx hx => ?_) ?_
            · have e0 := below_fact hx rfl y2
              have e1 := below_fact hx rfl v0
              have e2 := below_fact hx rfl v1
              have e3 := below_fact hx rfl vc
              go_simp
              try rfl
            go_simp
            refine hK1 _ ?_
            clear hK1 K1
            refine wpPre_i rfl (fun K1 hK1 => ?_)
            rw [if_pos (by go_simp)]
            apply Exists.intro
            refine And.intro (fun wx hx => ?_) ?_
            · go_simp
              try rfl
            go_simp
            refine hK1 _ ?_
            clear hK1 K1
            refine wpPre_e rfl rfl (fun K1 hK1 => ?_)
            apply Exists.intro
            refine And.intro (fun wx hx => ?_) ?_
            · go_simp
              try rfl
            go_simp
            refine hK1 _ ?_
            clear hK1 K1
            refine wpPre_e rfl rfl (fun K1 hK1 => ?_)
            apply Exists.intro
            refine And.intro (fun wx hx => ?_) ?_
            · go_simp
              try rfl
            go_simp
            refine hK1 _ ?_
            clear hK1 K1
            refine wpPre_i rfl (fun K1 hK1 => ?_)
            rw [if_pos (by go_simp)]
            apply Exists.intro
            refine And.intro (fun wx hx => ?_) ?_
            · go_simp
              try rfl
            go_simp
            refine hK1 _ ?_
            clear hK1 K1
            refine wpPre_i rfl (fun K1 hK1 => ?_)
            rw [if_pos (by go_simp)]
            apply Exists.intro
            refine And.intro (fun wx hx => ?_) ?_
            · go_simp
              try rfl
            go_simp
            refine hK1 _ ?_
            clear hK1 K1
            refine wpPre_i rfl (fun K1 hK1 => ?_)
            rw [if_pos (by go_simp)]
            apply Exists.intro
            refine And.intro (fun wx hx => ?_) ?_
            · have e0 := below_fact hx rfl y2
              have e1 := below_fact hx rfl v0
              have e2 := below_fact hx rfl v1
              have e3 := below_fact hx rfl vc
              go_simp
              try rfl
            go_simp
            refine hK1 _ ?_
            clear hK1 K1
            refine wpPre_i rfl (fun K1 hK1 => ?_)
            rw [if_pos (by go_simp)]
            apply Exists.intro
            refine And.intro (fun wx hx => ?_) ?_
            · go_simp
              try rfl
            go_simp
            refine hK1 _ ?_
            clear hK1 K1
            refine wpPre_i rfl (fun K1 hK1 => ?_)
            rw [if_pos (by go_simp)]
            apply Exists.intro
            refine And.intro (fun wx hx => ?_) ?_
            · go_simp
              try rfl
            go_simp
            refine hK1 _ ?_
            clear hK1 K1
            refine wpPre_i rfl (fun K1 hK1 => ?_)
            rw [if_pos (by go_simp)]
            apply Exists.intro
            refine And.intro (fun wx hx => ?_) ?_
            · go_simp
              try rfl
            go_simp
            refine hK1 _ ?_
            clear hK1 K1
            refine wpPre_i rfl (fun K1 hK1 => ?_)
            rw [if_pos (by go_simp)]
            apply Exists.intro
            refine And.intro (fun wx hx => ?_) ?_
            · have e0 := below_fact hx rfl y2
              have e1 := below_fact hx rfl v0
              have e2 := below_fact hx rfl v1
              have e3 := below_fact hx rfl vc
              go_simp
              try rfl
            go_simp
            refine hK1 _ ?_
            clear hK1 K1
            refine wpPre_e rfl rfl (fun K1 hK1 => ?_)
            apply Exists.intro
            refine And.intro (fun wx hx => ?_) ?_
            · go_simp
              try rfl
            go_simp
            refine hK1 _ ?_
            clear hK1 K1
            refine wpPre_e rfl rfl (fun K1 hK1 => ?_)
            apply Exists.intro
            refine And.intro (fun wx hx => ?_) ?_
            · go_simp
              try rfl
            go_simp
            refine hK1 _ ?_
            clear hK1 K1
            refine wpPre_nil ?_
            refine wpStg_nil ?_
            go_wp2_with fail
            go_meet
            exact ⟨by rw [HHe.out]; simp [HM1.out, hid1, hcp1], rfl⟩
          · rw [hcp1] at v1
            refine wp_region_calmD 30 (fun wx => Below W1.heap.size W1 wx) [(0, true), (1, true), (2, true), (3, true), (4, true), (5, true), (6, true), (7, true), (8, true), (9, false), (10, true), (11, true), (12, true), (13, true), (14, true), (15, true), (16, false), (17, true), (18, true), (19, true), (20, true), (21, true), (22, false), (23, true), (24, true), (25, true), (26, false), (27, true), (28, true)] [] (by kernel_rfl) (by kernel_rfl) (Below.refl _ _).drew ?_
            refine wpPre_e rfl rfl (fun K1 hK1 => ?_)
            apply Exists.intro
            refine And.intro (fun wx hx => ?_) ?_
            · go_simp
              try rfl
            go_simp
            refine hK1 _ ?_
            clear hK1 K1
            refine wpPre_e rfl rfl (fun K1 hK1 => ?_)
            apply Exists.intro
            refine And.intro (fun wx hx => ?_) ?_
            · go_simp
              try rfl
            go_simp
            refine hK1 _ ?_
            clear hK1 K1
            refine wpPre_i rfl (fun K1 hK1 => ?_)
            rw [if_pos (by go_simp)]
            apply Exists.intro
            refine And.intro (fun wx hx => ?_) ?_
            · go_simp
              try rfl
            go_simp
            refine hK1 _ ?_
            clear hK1 K1
            refine wpPre_i rfl (fun K1 hK1 => ?_)
            rw [if_pos (by go_simp)]
            apply Exists.intro
            refine And.intro (fun wx hx => ?_) ?_
            · go_simp
              try rfl
            go_simp
            refine hK1 _ ?_
            clear hK1 K1
            refine wpPre_e rfl rfl (fun K1 hK1 => ?_)
            apply Exists.intro
            refine And.intro (fun wx hx => ?_) ?_
            · go_simp
              try rfl
            go_simp
            refine hK1 _ ?_
            clear hK1 K1
            refine wpPre_e rfl rfl (fun K1 hK1 => ?_)
            apply Exists.intro
            refine And.intro (fun wx hx => ?_) ?_
            · go_simp
              try rfl
            go_simp
            refine hK1 _ ?_
            clear hK1 K1
            refine wpPre_i rfl (fun K1 hK1 => ?_)
            rw [if_pos (by go_simp)]
            apply Exists.intro
            refine And.intro (fun wx hx => ?_) ?_
            · go_simp
              try rfl
            go_simp
            refine hK1 _ ?_
            clear hK1 K1
            refine wpPre_i rfl (fun K1 hK1 => ?_)
            rw [if_pos (by go_simp)]
            apply Exists.intro
            refine And.intro (fun wx hx => ?_) ?_
            · go_simp
              try rfl
            go_simp
            refine hK1 _ ?_
            clear hK1 K1
            refine wpPre_i rfl (fun K1 hK1 => ?_)
            rw [if_pos (by go_simp)]
            apply Exists.intro
            refine And.intro (fun wx hx => ?_) ?_
            · go_simp
              try rfl
            go_simp
            refine hK1 _ ?_
            clear hK1 K1
            refine wpPre_i rfl (fun K1 hK1 => ?_)
            rw [if_pos (by go_simp)]
            apply Exists.intro
            refine And.intro (fun wx hx => ?_) ?_
            · have e0 := below_fact hx rfl y2
              have e1 := below_fact hx rfl v0
              have e2 := below_fact hx rfl v1
              have e3 := below_fact hx rfl vc
              go_simp
              try rfl
            go_simp
            refine hK1 _ ?_
            clear hK1 K1
            refine wpPre_i rfl (fun K1 hK1 => ?_)
            rw [if_pos (by go_simp)]
            apply Exists.intro
            refine And.intro (fun wx hx => ?_) ?_
            · go_simp
              try rfl
            go_simp
            refine hK1 _ ?_
            clear hK1 K1
            refine wpPre_e rfl rfl (fun K1 hK1 => ?_)
            apply Exists.intro
            refine And.intro (fun wx hx => ?_) ?_
            · go_simp
              try rfl
            go_simp
            refine hK1 _ ?_
            clear hK1 K1
            refine wpPre_e rfl rfl (fun K1 hK1 => ?_)
            apply Exists.intro
            refine And.intro (fun wx hx => ?_) ?_
            · go_simp
              try rfl
            go_simp
            refine hK1 _ ?_
            clear hK1 K1
            refine wpPre_i rfl (fun K1 hK1 => ?_)
            rw [if_pos (by go_simp)]
            apply Exists.intro
            refine And.intro (fun wx hx => ?_) ?_
            · go_simp
              try rfl
            go_simp
            refine hK1 _ ?_
            clear hK1 K1
            refine wpPre_i rfl (fun K1 hK1 => ?_)
            rw [if_pos (by go_simp)]
            apply Exists.intro
            refine And.intro (fun wx hx => ?_) ?_
            · go_simp
              try rfl
            go_simp
            refine hK1 _ ?_
            clear hK1 K1
            refine wpPre_i rfl (fun K1 hK1 => ?_)
            rw [if_pos (by go_simp)]
            apply Exists.intro
            refine And.intro (fun wx hx => ?_) ?_
            · go_simp
              try rfl
            go_simp
            refine hK1 _ ?_
            clear hK1 K1
            refine wpPre_i rfl (fun K1 hK1 => ?_)
            rw [if_pos (by go_simp)]
            apply Exists.intro
            refine And.intro (fun wx hx => ?_) ?_
            · have e0 := below_fact hx rfl y2
              have e1 := below_fact hx rfl v0
              have e2 := below_fact hx rfl v1
              have e3 := below_fact hx rfl vc
              go_simp
              try rfl
            go_simp
            refine hK1 _ ?_
            clear hK1 K1
            refine wpPre_i rfl (fun K1 hK1 => ?_)
            rw [if_pos (by go_simp)]
            apply Exists.intro
            refine And.intro (fun wx hx => ?_) ?_
            · go_simp
              try rfl
            go_simp
            refine hK1 _ ?_
            clear hK1 K1
            refine wpPre_e rfl rfl (fun K1 hK1 => ?_)
            apply Exists.intro
            refine And.intro (fun wx hx => ?_) ?_
            · go_simp
              try rfl
            go_simp
            refine hK1 _ ?_
            clear hK1 K1
            refine wpPre_e rfl rfl (fun K1 hK1 => ?_)
            apply Exists.intro
            refine And.intro (fun wx hx => ?_) ?_
            · go_simp
              try rfl
            go_simp
            refine hK1 _ ?_
            clear hK1 K1
            refine wpPre_i rfl (fun K1 hK1 => ?_)
            rw [if_neg (by go_simp; all_goals (intro h; cases h))]
            go_simp
            refine hK1 _ ?_
            clear hK1 K1
            refine wpPre_i rfl (fun K1 hK1 => ?_)
            rw [if_neg (by go_simp; all_goals (intro h; cases h))]
            go_simp
            refine hK1 _ ?_
            clear hK1 K1
            refine wpPre_i rfl (fun K1 hK1 => ?_)
            rw [if_neg (by go_simp; all_goals (intro h; cases h))]
            go_simp
            refine hK1 _ ?_
            clear hK1 K1
            refine wpPre_i rfl (fun K1 hK1 => ?_)
            rw [if_neg (by go_simp; all_goals (intro h; cases h))]
            go_simp
            refine hK1 _ ?_
            clear hK1 K1
            refine wpPre_i rfl (fun K1 hK1 => ?_)
            rw [if_neg (by go_simp; all_goals (intro h; cases h))]
            go_simp
            refine hK1 _ ?_
            clear hK1 K1
            refine wpPre_i rfl (fun K1 hK1 => ?_)
            rw [if_neg (by go_simp; all_goals (intro h; cases h))]
            go_simp
            refine hK1 _ ?_
            clear hK1 K1
            refine wpPre_i rfl (fun K1 hK1 => ?_)
            rw [if_neg (by go_simp; all_goals (intro h; cases h))]
            go_simp
            refine hK1 _ ?_
            clear hK1 K1
            refine wpPre_e rfl rfl (fun K1 hK1 => ?_)
            apply Exists.intro
            refine And.intro (fun wx hx => ?_) ?_
            · go_simp
              try rfl
            go_simp
            refine hK1 _ ?_
            clear hK1 K1
            refine wpPre_e rfl rfl (fun K1 hK1 => ?_)
            apply Exists.intro
            refine And.intro (fun wx hx => ?_) ?_
            · go_simp
              try rfl
            go_simp
            refine hK1 _ ?_
            clear hK1 K1
            refine wpPre_nil ?_
            refine wpStg_nil ?_
            go_wp2_with fail
            go_meet
            exact ⟨by rw [HHe.out]; simp [hcp1], rfl⟩
      case rest =>
        obtain ⟨rfl, hcw⟩ := hcut
        rw [hcw]
        clear hcw
        obtain ⟨W2, hW2⟩ : ∃ x, x = W1.drew := ⟨_, rfl⟩
        rw [← hW2]
        have HBV2 : Hid (BV w W2 b vb K V) := by unfold Hid; rw [hW2]; exact HBV1.out.below (Below.refl _ _).drew
        have HXo2 : Hid (Box W2 ob #[.int .i64 (s.item k).kind, .int .i64 (s.item k).which, .int .i64 (s.item k).port, .int .i64 (s.item k).id, .string (s.item k).r.key, .int .i64 (s.item k).r.v.kind, .int .i64 (s.item k).r.v.int, .string (s.item k).r.v.text, .slice (s.item k).r.v.p (s.item k).r.v.n (s.item k).r.v.c, .slice (s.item k).r.p (s.item k).r.n (s.item k).r.c, .slice (s.item k).a.p (s.item k).a.n (s.item k).a.c, .slice (s.item k).q.p (s.item k).q.n (s.item k).q.c, .int .i64 (s.item k).num, .slice (s.item k).l.p (s.item k).l.n (s.item k).l.c] 42) := by unfold Hid; rw [hW2]; exact HXo.out.below (Below.refl _ _).drew
        have z0 := HXo2.out.cell 0
        have z1 := HXo2.out.cell 1
        have z2 := HXo2.out.cell 2
        have z3 := HXo2.out.cell 3
        have z4 := HXo2.out.cell 4
        have z5 := HXo2.out.cell 5
        have z6 := HXo2.out.cell 6
        have z7 := HXo2.out.cell 7
        have z8 := HXo2.out.cell 8
        have z9 := HXo2.out.cell 9
        have z10 := HXo2.out.cell 10
        have z11 := HXo2.out.cell 11
        have z12 := HXo2.out.cell 12
        have z13 := HXo2.out.cell 13
        simp at z0 z1 z2 z3 z4 z5 z6 z7 z8 z9 z10 z11 z12 z13
        have ol2 := HXo2.out.lt
        have vl2 := HBV2.out.v.box.lt
        have bl2 := HBV2.out.bok.i.box.lt
        clear hW2 y0 y2 y3 v0 v1
        go_wp2_with fail
        refine (held_any (s.item k).port W2 b K HBV2.out.bok.i).mono ?_
        rintro e W3 ⟨rfl, hW3⟩
        rw [hW3]
        clear hW3 W3
        have HHas := hid hhas
        clear hhas
        rcases hH : K.held (s.item k).port with _ | _
        · have HHd := hid hH
          clear hH
          by_cases k1 : (s.item k).kind = 1
          · as_aux_lemma =>
              rw [k1] at z0
              have HTe : Hid (K.tookE (s.item k).port = 0) := by unfold Hid; rw [Bk.tookE, if_neg (by rw [HHas.out]; decide), if_neg (by rw [HHd.out]; decide)]
              have HT := hid (took_any (s.item k).port (s.item k).r W2 (fun b => b < w.heap.size) b K HBV2.out.bok.i (HIn.out _ HBV2.out.bok.bel).r HOs.out.r (fun i hi => by have := HLgN.out i hi; omega))
              go_wp2_with (first | (go_at_call 14; refine HT.out.mono ?_; rintro e w4 ⟨K4, rfl, hQ⟩; rw [HTe.out]) | (go_at_call 11; refine (num_any _ _).mono ?_; rintro e w5 ⟨rfl, rfl⟩))
              have hpm : K4.mode = mode ∧ K4.ports = (N : Int) ∧ K4.back = back := by
                rcases e : K.lays (s.item k).port with _ | _
                · rw [hQ.n e]; exact HPm.out
                · obtain ⟨u, p, cc, _, _, rfl⟩ := hQ.y e; exact HPm.out
              have H4 := hid (And.intro (HBV2.out.bstep hQ.s) (And.intro (HJ1.out.took hQ) (And.intro hpm (HLgN.out.took hQ))))
              clear hQ HT hpm
              go_roundw
              case rel => exact ⟨k + 1, K4, V, by omega, by omega, by go_num, H4.out.1, H4.out.2.1, H4.out.2.2.1, H4.out.2.2.2.le (by omega), HVln.out.le (by omega)⟩
              case measure => simp [intOf]; omega
          have k1' : ((s.item k).kind == 1) = false := by simp [k1]
          by_cases k2 : (s.item k).kind = 2
          · as_aux_lemma =>
              rw [k2] at z0 k1'
              have HK2 := hid k2
              clear k2
              have HT := hid (mark_any (s.item k).port (s.item k).id (s.item k).a (s.item k).num (s.item k).l (s.item k).q W2 (fun b => b < w.heap.size) b K HBV2.out.bok.i (fun x hx e => by have := HBV2.out.bok.c x e; omega) (HIn.out _ HBV2.out.bok.bel).l (HIn.out _ HBV2.out.bok.bel).q HOs.out.l HOs.out.q (HIn.out _ HBV2.out.bok.bel).a HOs.out.a (fun i hi => by have := HLgN.out i hi; omega))
              by_cases hlo : (s.item k).id < 1
              · as_aux_lemma =>
                  have HRe : Hid (K.refE (s.item k).port (s.item k).id = 133) := by unfold Hid; rw [Bk.refE, if_neg (by rw [HHas.out]; decide), if_pos (.inl hlo)]
                  have HMk : Hid (K.marks (s.item k).port (s.item k).id = false) := by unfold Hid; simp [Bk.marks, HRe.out]
                  go_wp2_with (first | (go_at_call 15; refine HT.out.mono ?_; rintro e w4 ⟨K4, r4, rfl, hQ⟩; rw [HRe.out]; obtain ⟨hK4, rfl⟩ := hQ.n HMk.out; subst hK4; have hX4 := HXo2.out.kept (hQ.s.out HXo2.out.lt HnK.out).1; have x3 := hX4.cell 3; simp at x3; have xl := hX4.lt) | (go_at_call 11; refine (num_any _ _).mono ?_; rintro e w5 ⟨rfl, rfl⟩))
                  have H4 := hid (HBV2.out.bstep hQ.s)
                  clear hQ HT
                  go_roundw
                  case rel => exact ⟨k + 1, _, V, by omega, by omega, by go_num, H4.out, HJ1.out, HPm.out, HLgN.out.le (by omega), HVln.out.le (by omega)⟩
                  case measure => simp [intOf]; omega
              by_cases hhi : 9999 < (s.item k).id
              · as_aux_lemma =>
                  have HRe : Hid (K.refE (s.item k).port (s.item k).id = 133) := by unfold Hid; rw [Bk.refE, if_neg (by rw [HHas.out]; decide), if_pos (.inr hhi)]
                  have HMk : Hid (K.marks (s.item k).port (s.item k).id = false) := by unfold Hid; simp [Bk.marks, HRe.out]
                  go_wp2_with (first | (go_at_call 15; refine HT.out.mono ?_; rintro e w4 ⟨K4, r4, rfl, hQ⟩; rw [HRe.out]; obtain ⟨hK4, rfl⟩ := hQ.n HMk.out; subst hK4; have hX4 := HXo2.out.kept (hQ.s.out HXo2.out.lt HnK.out).1; have x3 := hX4.cell 3; simp at x3; have xl := hX4.lt) | (go_at_call 11; refine (num_any _ _).mono ?_; rintro e w5 ⟨rfl, rfl⟩))
                  have H4 := hid (HBV2.out.bstep hQ.s)
                  clear hQ HT
                  go_roundw
                  case rel => exact ⟨k + 1, _, V, by omega, by omega, by go_num, H4.out, HJ1.out, HPm.out, HLgN.out.le (by omega), HVln.out.le (by omega)⟩
                  case measure => simp [intOf]; omega
              as_aux_lemma =>
                have HRe : Hid (K.refE (s.item k).port (s.item k).id = 0) := by unfold Hid; rw [Bk.refE, if_neg (by rw [HHas.out]; decide), if_neg (by omega), if_neg (by rw [HHd.out]; decide)]
                go_wp2_with (first | (go_at_call 15; refine HT.out.mono ?_; rintro e w4 ⟨K4, r4, rfl, hQ⟩; rw [HRe.out]; have hX4 := HXo2.out.kept (hQ.s.out HXo2.out.lt HnK.out).1; have x0 := hX4.cell 0; have x1 := hX4.cell 1; have x2 := hX4.cell 2; have x3 := hX4.cell 3; have x4 := hX4.cell 4; have x5 := hX4.cell 5; have x6 := hX4.cell 6; have x7 := hX4.cell 7; have x8 := hX4.cell 8; have x9 := hX4.cell 9; have x10 := hX4.cell 10; have x11 := hX4.cell 11; have x12 := hX4.cell 12; have x13 := hX4.cell 13; simp at x0 x1 x2 x3 x4 x5 x6 x7 x8 x9 x10 x11 x12 x13; have xl := hX4.lt) | (go_at_call 11; refine (num_any _ _).mono ?_; rintro e w5 ⟨rfl, rfl⟩))
                have HQ := hid hQ
                have HX4 := hid hX4
                have HBV4 := hid (HBV2.out.bstep hQ.s)
                clear hQ hX4 HT x0 x1 x2 x3 x4 x5 x6 x7 x8 x9 x10 x11 x12 x13
                have HCp : Hid (V.copiesB (s.item k) mode N back i = r4) := by
                  unfold Hid
                  have q := HQ.out
                  rw [HPi.out] at q
                  have h := HJ1.out.copies (o := s.item k) hi hN4 HPm.out.2.1 rfl (by rw [← HPi.out]; exact HRe.out) q
                  rw [HPm.out.1, HPm.out.2.2] at h
                  exact h
                refine (copies_any (s.item k) mode N back i hi HPi.out hN4 _ vb V HBV4.out.v).mono ?_
                rintro e w5 ⟨rfl, hb5⟩
                rw [HCp.out]
                have HBV5 := hid (HBV4.out.below hb5)
                have hX4 := HX4.out.below hb5
                have x0 := hX4.cell 0
                have x1 := hX4.cell 1
                have x2 := hX4.cell 2
                have x3 := hX4.cell 3
                have x4 := hX4.cell 4
                have x5 := hX4.cell 5
                have x6 := hX4.cell 6
                have x7 := hX4.cell 7
                have x8 := hX4.cell 8
                have x9 := hX4.cell 9
                have x10 := hX4.cell 10
                have x11 := hX4.cell 11
                have x12 := hX4.cell 12
                have x13 := hX4.cell 13
                simp at x0 x1 x2 x3 x4 x5 x6 x7 x8 x9 x10 x11 x12 x13
                have xl5 := hX4.lt
                clear hX4 hb5 xl
                go_wp2_with fail
                refine (sees_any (s.item k) r4 mode i hi HPi.out _ (fun k => k < w.heap.size) vb V HBV5.out.v (fun k hk e => by have := HBV5.out.vc k e; omega) (HIn.out _ HBV5.out.bok.bel) HOs.out (by have := HVln.out i hi; omega)).mono ?_
                rintro e w6 ⟨rfl, V6, hS⟩
                have hJ6 : HJ K4 V6 := by
                  have q := HQ.out
                  rw [HPi.out] at q
                  exact HJ1.out.mark hi rfl (by rw [← HPi.out]; exact HRe.out) q hS
                have H6 := hid (And.intro (HBV5.out.vstep hS.s) (And.intro hJ6 (And.intro (HQ.out.pm HPm.out) (And.intro (HLgN.out.mark HOs.out.a HQ.out) (HVln.out.sees HOs.out.a hS)))))
                clear hS hJ6 x0 x1 x2 x3 x4 x5 x6 x7 x8 x9 x10 x11 x12 x13 xl5
                go_wp2
                go_roundw
                case rel => exact ⟨k + 1, K4, V6, by omega, by omega, by go_num, H6.out.1, H6.out.2.1, H6.out.2.2.1, H6.out.2.2.2.1.le (by omega), H6.out.2.2.2.2.le (by omega)⟩
                case measure => simp [intOf]; omega
          have k2' : ((s.item k).kind == 2) = false := by simp [k2]
          as_aux_lemma =>
            go_wp2
            go_roundw
            case rel => exact ⟨k + 1, K, V, by omega, by omega, by go_num, HBV2.out, HJ1.out, HPm.out, HLgN.out.le (by omega), HVln.out.le (by omega)⟩
            case measure => simp [intOf]; omega
        · have HHd := hid hH
          clear hH
          by_cases k1 : (s.item k).kind = 1
          · as_aux_lemma =>
              rw [k1] at z0
              have HTe : Hid (K.tookE (s.item k).port = 134) := by unfold Hid; rw [Bk.tookE, if_neg (by rw [HHas.out]; decide), if_pos HHd.out]
              have HT := hid (took_any (s.item k).port (s.item k).r W2 (fun b => b < w.heap.size) b K HBV2.out.bok.i (HIn.out _ HBV2.out.bok.bel).r HOs.out.r (fun i hi => by have := HLgN.out i hi; omega))
              go_wp2_with (first | (go_at_call 14; refine HT.out.mono ?_; rintro e w4 ⟨K4, rfl, hQ⟩; rw [HTe.out]) | (go_at_call 11; refine (num_any _ _).mono ?_; rintro e w5 ⟨rfl, rfl⟩))
              have hpm : K4.mode = mode ∧ K4.ports = (N : Int) ∧ K4.back = back := by
                rcases e : K.lays (s.item k).port with _ | _
                · rw [hQ.n e]; exact HPm.out
                · obtain ⟨u, p, cc, _, _, rfl⟩ := hQ.y e; exact HPm.out
              have H4 := hid (And.intro (HBV2.out.bstep hQ.s) (And.intro (HJ1.out.took hQ) (And.intro hpm (HLgN.out.took hQ))))
              clear hQ HT hpm
              go_roundw
              case rel => exact ⟨k + 1, K4, V, by omega, by omega, by go_num, H4.out.1, H4.out.2.1, H4.out.2.2.1, H4.out.2.2.2.le (by omega), HVln.out.le (by omega)⟩
              case measure => simp [intOf]; omega
          have k1' : ((s.item k).kind == 1) = false := by simp [k1]
          by_cases k2 : (s.item k).kind = 2
          · as_aux_lemma =>
              rw [k2] at z0 k1'
              have HK2 := hid k2
              clear k2
              have HT := hid (mark_any (s.item k).port (s.item k).id (s.item k).a (s.item k).num (s.item k).l (s.item k).q W2 (fun b => b < w.heap.size) b K HBV2.out.bok.i (fun x hx e => by have := HBV2.out.bok.c x e; omega) (HIn.out _ HBV2.out.bok.bel).l (HIn.out _ HBV2.out.bok.bel).q HOs.out.l HOs.out.q (HIn.out _ HBV2.out.bok.bel).a HOs.out.a (fun i hi => by have := HLgN.out i hi; omega))
              by_cases hlo : (s.item k).id < 1
              · as_aux_lemma =>
                  have HRe : Hid (K.refE (s.item k).port (s.item k).id = 133) := by unfold Hid; rw [Bk.refE, if_neg (by rw [HHas.out]; decide), if_pos (.inl hlo)]
                  have HMk : Hid (K.marks (s.item k).port (s.item k).id = false) := by unfold Hid; simp [Bk.marks, HRe.out]
                  go_wp2_with (first | (go_at_call 15; refine HT.out.mono ?_; rintro e w4 ⟨K4, r4, rfl, hQ⟩; rw [HRe.out]; obtain ⟨hK4, rfl⟩ := hQ.n HMk.out; subst hK4; have hX4 := HXo2.out.kept (hQ.s.out HXo2.out.lt HnK.out).1; have x3 := hX4.cell 3; simp at x3; have xl := hX4.lt) | (go_at_call 11; refine (num_any _ _).mono ?_; rintro e w5 ⟨rfl, rfl⟩))
                  have H4 := hid (HBV2.out.bstep hQ.s)
                  clear hQ HT
                  go_roundw
                  case rel => exact ⟨k + 1, _, V, by omega, by omega, by go_num, H4.out, HJ1.out, HPm.out, HLgN.out.le (by omega), HVln.out.le (by omega)⟩
                  case measure => simp [intOf]; omega
              by_cases hhi : 9999 < (s.item k).id
              · as_aux_lemma =>
                  have HRe : Hid (K.refE (s.item k).port (s.item k).id = 133) := by unfold Hid; rw [Bk.refE, if_neg (by rw [HHas.out]; decide), if_pos (.inr hhi)]
                  have HMk : Hid (K.marks (s.item k).port (s.item k).id = false) := by unfold Hid; simp [Bk.marks, HRe.out]
                  go_wp2_with (first | (go_at_call 15; refine HT.out.mono ?_; rintro e w4 ⟨K4, r4, rfl, hQ⟩; rw [HRe.out]; obtain ⟨hK4, rfl⟩ := hQ.n HMk.out; subst hK4; have hX4 := HXo2.out.kept (hQ.s.out HXo2.out.lt HnK.out).1; have x3 := hX4.cell 3; simp at x3; have xl := hX4.lt) | (go_at_call 11; refine (num_any _ _).mono ?_; rintro e w5 ⟨rfl, rfl⟩))
                  have H4 := hid (HBV2.out.bstep hQ.s)
                  clear hQ HT
                  go_roundw
                  case rel => exact ⟨k + 1, _, V, by omega, by omega, by go_num, H4.out, HJ1.out, HPm.out, HLgN.out.le (by omega), HVln.out.le (by omega)⟩
                  case measure => simp [intOf]; omega
              as_aux_lemma =>
                have HRe : Hid (K.refE (s.item k).port (s.item k).id = 134) := by unfold Hid; rw [Bk.refE, if_neg (by rw [HHas.out]; decide), if_neg (by omega), if_pos HHd.out]
                have HMk : Hid (K.marks (s.item k).port (s.item k).id = false) := by unfold Hid; simp [Bk.marks, HRe.out]
                go_wp2_with (first | (go_at_call 15; refine HT.out.mono ?_; rintro e w4 ⟨K4, r4, rfl, hQ⟩; rw [HRe.out]; obtain ⟨hK4, rfl⟩ := hQ.n HMk.out; subst hK4; have hX4 := HXo2.out.kept (hQ.s.out HXo2.out.lt HnK.out).1; have x3 := hX4.cell 3; simp at x3; have xl := hX4.lt) | (go_at_call 11; refine (num_any _ _).mono ?_; rintro e w5 ⟨rfl, rfl⟩))
                have H4 := hid (HBV2.out.bstep hQ.s)
                clear hQ HT
                go_roundw
                case rel => exact ⟨k + 1, _, V, by omega, by omega, by go_num, H4.out, HJ1.out, HPm.out, HLgN.out.le (by omega), HVln.out.le (by omega)⟩
                case measure => simp [intOf]; omega
          have k2' : ((s.item k).kind == 2) = false := by simp [k2]
          as_aux_lemma =>
            go_wp2
            go_roundw
            case rel => exact ⟨k + 1, K, V, by omega, by omega, by go_num, HBV2.out, HJ1.out, HPm.out, HLgN.out.le (by omega), HVln.out.le (by omega)⟩
            case measure => simp [intOf]; omega
end Go.Proofs.Ytdncnnjhfipokaa
