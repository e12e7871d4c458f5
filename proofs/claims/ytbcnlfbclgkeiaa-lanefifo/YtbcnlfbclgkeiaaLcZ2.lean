import Derived.Test.YtbcnlfbclgkeiaaLcZ1
namespace Go.Proofs.Ytbcnlfbclgkeiaa
open Go.RowKit Go.Conc
set_option maxRecDepth 8000
theorem cj_head {X : Bb} {F : List IT} {x : IT} {q' : List IT} (hcp : Cps F (x :: q')) (hr : (F.filter fun x => x.mark = 0).map IT.r = X.R.toL.drop X.oR) (hm : (F.filter fun x => ¬ (x.mark = 0)).map IT.mark = X.M.toL.drop X.oM) : ∃ f F', F = f :: F' ∧ CopyI f x ∧ Cps F' q' ∧
    (x.mark = 0 → X.oR < X.R.n ∧ RT.Alike (X.R.item X.oR) x.r ∧ (F'.filter fun x => x.mark = 0).map IT.r = X.R.toL.drop (X.oR + 1) ∧ (F'.filter fun x => ¬ (x.mark = 0)).map IT.mark = X.M.toL.drop X.oM) ∧
    (x.mark ≠ 0 → X.oM < X.M.n ∧ X.M.item X.oM = x.mark ∧ (F'.filter fun x => x.mark = 0).map IT.r = X.R.toL.drop X.oR ∧ (F'.filter fun x => ¬ (x.mark = 0)).map IT.mark = X.M.toL.drop (X.oM + 1)) := by
  obtain ⟨f, F', rfl, hc, ht⟩ := hcp.cons_inv
  refine ⟨f, F', rfl, hc, ht, fun h0 => ?_, fun h0 => ?_⟩
  · have hf0 : f.mark = 0 := hc.m.symm.trans h0
    have h1 := hr
    have h2 := hm
    rw [List.filter_cons_of_pos (by simpa using hf0), List.map_cons] at h1
    rw [List.filter_cons_of_neg (by simpa using hf0)] at h2
    obtain ⟨a1, a2, a3⟩ := drop_cons h1.symm
    exact ⟨a1, by rw [a2]; exact hc.r hf0, a3.symm, h2⟩
  · have hf0 : ¬ f.mark = 0 := by rw [← hc.m]; exact h0
    have h1 := hr
    have h2 := hm
    rw [List.filter_cons_of_neg (by simpa using hf0)] at h1
    rw [List.filter_cons_of_pos (by simpa using hf0), List.map_cons] at h2
    obtain ⟨a1, a2, a3⟩ := drop_cons h2.symm
    exact ⟨a1, a2.trans hc.m.symm, h1, a3.symm⟩
structure FiR (B0 : Nat) (w0 : World) (k b : Nat) (L : Ln) (X0 : Bb) (j : Nat) (wr : World) (X : Bb) (F : List IT) : Prop where
  bk : BbI B0 wr k X
  bel : Below B0 w0 wr
  but : But (X0.C k) w0 wr
  eR : X.R = X0.R
  eM : X.M = X0.M
  cp : Cps F (L.q.drop j)
  r : (F.filter fun x => x.mark = 0).map IT.r = X.R.toL.drop X.oR
  m : (F.filter fun x => ¬ (x.mark = 0)).map IT.mark = X.M.toL.drop X.oM
theorem Bb.C_eq {X X0 : Bb} (h1 : X.R = X0.R) (h2 : X.M = X0.M) (k j : Nat) : X.C k j ↔ X0.C k j := by unfold Bb.C; rw [h1, h2]
set_option maxRecDepth 60000 in
set_option maxHeartbeats 16000000 in
/-- LaneFifo -/
theorem laneFifo_walk (room : Int) (s : LT OpL) (w : World) (hin : LT.In elOpL w (fun b => b < w.heap.size) s) : Calls Try.prog 5 #[.int .i64 room, .slice s.p s.n s.c] w fun e w' => e = .returned (.bool true) ∧ Below w.heap.size w w' := by
  have HI := hid hin
  have HFw := hid (lfew_any s w hin)
  have hnn := hin.nn
  clear hin
  go_enter Try.func5, Try.ntmps5
  go_wp2_with fail
  refine HFw.out.mono ?_
  rintro e w1 ⟨r, rfl, hr, hB1⟩
  have HB1 := hid hB1
  cases r with
  | false =>
    clear hr hB1
    go_wp2
    exact bodyPost_ret (v := .bool true) (by simp [results, Try.results5, go_sem]) rfl ⟨rfl, HB1.out⟩
  | true =>
  have hsum := hr rfl
  have HSum := hid hsum
  clear hr hB1 hsum HFw
  by_cases hbad : room < 0 ∨ 8 < room
  · have HNw := hid (lnew_any room w1 (fun _ => False) (fun _ h => h.elim))
    have HBad := hid hbad
    by_cases h0 : room < 0
    · have hd : decide (room < 0) = true := decide_eq_true h0
      clear hbad
      go_wp2_with fail
      refine HNw.out.mono ?_
      rintro e w2 ⟨hN, _⟩
      obtain ⟨rfl, hw2⟩ := hN HBad.out
      subst w2
      clear hN
      go_wp2
      exact bodyPost_ret (v := .bool true) (by simp [results, Try.results5, go_sem]) rfl ⟨rfl, HB1.out⟩
    · have hd : decide (room < 0) = false := decide_eq_false h0
      have h8 : 8 < room := by omega
      have hd8 : decide (8 < room) = true := decide_eq_true h8
      clear hbad h0
      go_wp2_with fail
      refine HNw.out.mono ?_
      rintro e w2 ⟨hN, _⟩
      obtain ⟨rfl, hw2⟩ := hN HBad.out
      subst w2
      clear hN
      go_wp2
      exact bodyPost_ret (v := .bool true) (by simp [results, Try.results5, go_sem]) rfl ⟨rfl, HB1.out⟩
  have HNw := hid (lnew_any room w1 (fun _ => False) (fun _ h => h.elim))
  have hd0 : decide (room < 0) = false := decide_eq_false (by omega)
  have hd8 : decide (8 < room) = false := decide_eq_false (by omega)
  have HOk := hid hbad
  clear hbad
  go_wp2_with fail
  refine HNw.out.mono ?_
  rintro e w2 ⟨_, hN⟩
  obtain ⟨rfl, hL, hB2⟩ := hN HOk.out
  have hs1 := HB1.out.size
  have hs2 := hB2.size
  have hLb := hL.b_lt
  obtain ⟨b, hb⟩ : ∃ b, b = w1.heap.size + 1 := ⟨_, rfl⟩
  obtain ⟨L0, hLe⟩ : ∃ L, L = Ln.mk room none w1.heap.size room.toNat [] := ⟨_, rfl⟩
  rw [← hb, ← hLe] at hL
  rw [← hb] at hLb ⊢
  have hLr : Hid (L0.room = room ∧ L0.q = [] ∧ ∀ j, L0.C b j → w.heap.size ≤ j) := by
    rw [hLe, hb]
    refine ⟨rfl, rfl, ?_⟩
    rintro j (e | e | e)
    · omega
    · have e' : j = w1.heap.size := e
      omega
    · cases e
  have HB2 := hid (HB1.out.trans (hB2.mono HB1.out.size))
  obtain ⟨W, hW⟩ : ∃ W, W = w2.alloc (.cells #[.slice none 0 0, .slice none 0 0, .int .i64 0, .int .i64 0] 57) := ⟨_, rfl⟩
  have hBW : Below w2.heap.size w2 W := by rw [hW]; exact (Below.refl _ _).alloc (Nat.le_refl _) _
  have hXb : Box W w2.heap.size #[.slice none 0 0, .slice none 0 0, .int .i64 0, .int .i64 0] 57 := by rw [hW]; exact Box.new _ _ _
  obtain ⟨k, hk⟩ : ∃ k, k = w2.heap.size := ⟨_, rfl⟩
  have hkw : w.heap.size ≤ k := by omega
  have HW0 : Hid (∃ X L F, FJ w.heap.size W k b X L F ∧ L.room = room ∧ X.R.n ≤ s.sumL 0 ∧ X.M.n ≤ s.sumL 0) := by
    refine ⟨⟨⟨none, 0, 0, fun _ => rz⟩, ⟨none, 0, 0, fun _ => 0⟩, 0, 0⟩, L0, [], ⟨⟨?_, World.ownsRow_nil _ _ _ _, World.ownsRow_nil _ _ _ _, hkw, (fun e => by cases e), (fun e => by cases e), (fun g e => by cases e), fun j hj => absurd hj (Nat.not_lt_zero j), fun j hj => absurd hj (Nat.not_lt_zero j), Nat.zero_le _, Nat.zero_le _, Nat.le_refl _, Nat.le_refl _⟩, (hL.z fun j hj hz => ?_).below hBW, hLr.out.2.2, ?_, ?_, ?_, ?_⟩, hLr.out.1, Nat.zero_le _, Nat.zero_le _⟩
    · rw [hk]; exact hXb
    · rcases hz with e | e | e
      · omega
      · cases e
      · cases e
    · rw [hLr.out.2.1]; exact .nil
    · rfl
    · rfl
    · rw [hLr.out.2.1, hLr.out.1]
      right
      show ((nR [] : Nat) : Int) ≤ room
      have := HOk.out
      have h0 : nR [] = 0 := rfl
      rw [h0]
      omega
  have HBW := hid (HB2.out.trans (hBW.mono HB2.out.size))
  have HW := hid hW
  clear hL hB2 hN HNw hLe hBW hXb hW hb hLb
  go_upto_region 10 with fail
  rw [← HW.out, ← hk]
  clear hk
  go_wp2_with fail
  go_loopw [10] (fun x wr => ∃ i : Nat, i ≤ s.n ∧ x = .int .i64 (i : Int) ∧ Below w.heap.size w wr ∧ ∃ X L F, FJ w.heap.size wr k b X L F ∧ L.room = room ∧ X.R.n ≤ s.sumL i ∧ X.M.n ≤ s.sumL i) (fun x _ => s.n - (intOf x).toNat)
  case atStart => exact ⟨0, Nat.zero_le _, rfl, HBW.out, HW0.out⟩
  case round =>
    obtain ⟨i, hi, rfl, hbel, X, L, F, hJ, hroom, hrn, hmn⟩ := hrel
    have HJ := hid hJ
    have HBl := hid hbel
    have HRo := hid hroom
    have hsz := hbel.size
    clear HW0 HBW
    by_cases hlt : i < s.n
    · have hlt' : (i : Int) < (s.n : Int) := by omega
      obtain ⟨bb, o, hp, hSb, hbb, hat⟩ := HI.out.at_ (by omega)
      rw [hp]
      have hcell : ∀ r u, (elOpL.cells (s.item i))[r]? = some u → wr.cell? ⟨bb, o + i * 4 + r, none⟩ = some u := fun r u hu => (World.cell?_of_block (a := ⟨bb, o + i * 4 + r, none⟩) (hbel.block bb hbb)).trans (hat i hlt r u hu)
      have c0 : wr.cell? ⟨bb, o + i * 4, none⟩ = some (.int .i64 (s.item i).kind) := hcell 0 _ rfl
      have c1 := hcell 1 _ rfl
      have c2 := hcell 2 _ rfl
      have c3 := hcell 3 _ rfl
      have hoi : OpL.In wr (fun j => j < w.heap.size) (s.item i) := elOpL.kept (HI.out.each i hlt) hsz fun j hj hl => hbel.block j hj
      have hsu := s.sumL_mono (show i + 1 ≤ s.n from hlt)
      rw [LT.sumL_succ] at hsu
      have hS := HSum.out
      have hti : (s.item i).its.n ≤ (s.item i).tot := by
        have := (s.item i).its.sumI_le (s.item i).its.n
        unfold OpL.tot
        omega
      have hts : (s.item i).its.sumI (s.item i).its.n ≤ (s.item i).tot := by unfold OpL.tot; omega
      have HSt := hid (step_any w.heap.size wr k b X L F hJ (s.item i) hoi (by omega) (by omega) (by omega))
      rw [hroom] at HSt
      have HTi := hid hti
      clear hcell hat hJ hbel hoi hsu hS hts hroom hti
      go_wp2_with fail
      refine HSt.out.mono ?_
      rintro e w3 ⟨rfl, X', L', F', hQ⟩
      have HQ : Hid (Below w.heap.size w w3 ∧ ∃ X L F, FJ w.heap.size w3 k b X L F ∧ L.room = room ∧ X.R.n ≤ s.sumL (i + 1) ∧ X.M.n ≤ s.sumL (i + 1)) := by
        have h9 := HTi.out
        refine ⟨HBl.out.trans hQ.bel, X', L', F', hQ.fj, hQ.room.trans HRo.out, ?_, ?_⟩
        · rw [LT.sumL_succ]; have := hQ.rn; omega
        · rw [LT.sumL_succ]; have := hQ.mn; omega
      clear hQ HSt c0 c1 c2 c3
      go_wp2_with fail
      go_roundw
      case rel => exact ⟨i + 1, by omega, by go_num, HQ.out.1, HQ.out.2⟩
      case measure => simp [intOf]; omega
    · obtain rfl : i = s.n := by omega
      have HCl := hid (close_any wr (X.C k) b L hJ.ln hJ.zlt)
      have hB0 : w.heap.size ≤ wr.heap.size := hsz
      clear hJ hbel hlt hroom
      go_wp2_with fail
      refine HCl.out.mono ?_
      rintro e w4 ⟨u, rfl, hul, hui, hsh, hbt⟩
      have hbel4 : Below w.heap.size wr w4 := hbt.below hB0 fun j hj e => by have := HJ.out.lb j e; omega
      have hbk4 : BbI w.heap.size w4 k X := HJ.out.bk.but hbt fun j _ e => ⟨HJ.out.ln.cz j e, HJ.out.lb j e⟩
      have hbX : ¬ X.C k b := HJ.out.ln.cz b (.inl rfl)
      have hun : u.n = L.q.length := by rw [← hul, LT.toL_len]
      have hq3 := HJ.out.ln.len
      have H0f : Hid (FiR w.heap.size w4 k b L X 0 w4 X F) := ⟨hbk4, Below.refl _ _, But.refl _ _, rfl, rfl, by rw [List.drop_zero]; exact HJ.out.cp, HJ.out.r, HJ.out.m⟩
      have HUi := hid hui
      have HUl := hid hul
      have HUn := hid hun
      have HSh := hid hsh
      have HB4 := hid (HBl.out.trans hbel4)
      have HBX := hid hbX
      have HBk4 := hid hbk4
      have hunn : u.n ≤ 30000 := by omega
      clear hul hui hsh hbt hbel4 hbk4 hbX hun HCl
      go_wp2_with fail
      go_loopw [66] (fun x wr => ∃ (j : Nat) (X1 : Bb) (F1 : List IT), j ≤ u.n ∧ x = .int .i64 (j : Int) ∧ FiR w.heap.size w4 k b L X j wr X1 F1) (fun x _ => u.n - (intOf x).toNat)
      case atStart => exact ⟨0, X, F, Nat.zero_le _, rfl, H0f.out⟩
      case round =>
        obtain ⟨j, X1, F1, hj, rfl, hR⟩ := hrel
        have HR := hid hR
        have hs5 := hR.bel.size
        clear H0f
        by_cases hlt : j < u.n
        · have hlt' : (j : Int) < (u.n : Int) := by omega
          obtain ⟨x, hx⟩ : ∃ x, x = u.item j := ⟨_, rfl⟩
          have hxq : L.q[j]? = some x := by rw [← HUl.out, hx]; exact u.toL_get hlt
          have hxf := (HJ.out.ln.it x (List.mem_of_getElem? hxq)).2
          have hjl : j < L.q.length := by rw [← HUn.out]; exact hlt
          have hdq : L.q.drop j = x :: L.q.drop (j + 1) := by
            rw [List.drop_eq_getElem_cons hjl]
            rw [List.getElem?_eq_getElem hjl] at hxq
            injection hxq with hxq
            rw [hxq]
          have hcp := hR.cp
          rw [hdq] at hcp
          obtain ⟨f, F2, _, _, hcp2, hcr, hcm⟩ := cj_head hcp hR.r hR.m
          have HC2 := hid (And.intro hcp2 (And.intro hcr hcm))
          have hkeep : LT.In elItem wr (fun g => ¬ L.C b g ∧ ¬ X.C k g) u := HUi.out.kept hs5 fun g hg hl => hR.but.block g hl hg.2
          obtain ⟨bb, o, hp, hSb, hbb, hat⟩ := hkeep.at_ (by omega)
          rw [hp]
          have hcell : ∀ r u', (elItem.cells x)[r]? = some u' → wr.cell? ⟨bb, o + j * 7 + r, none⟩ = some u' := fun r u' hu => hat j hlt r u' (by rw [← hx]; exact hu)
          have c0 : wr.cell? ⟨bb, o + j * 7, none⟩ = some (.int .i64 x.mark) := hcell 0 _ rfl
          have c1 := hcell 1 _ rfl
          have c2 := hcell 2 _ rfl
          have c3 := hcell 3 _ rfl
          have c4 := hcell 4 _ rfl
          have c5 := hcell 5 _ rfl
          have c6 := hcell 6 _ rfl
          have hxi : IT.In wr (fun g => ¬ L.C b g ∧ ¬ X.C k g) x := by rw [hx]; exact hkeep.each j hlt
          obtain ⟨W5, hW5⟩ : ∃ W5, W5 = wr.alloc (.cells #[.int .i64 x.mark, .string x.r.key, .int .i64 x.r.v.kind, .int .i64 x.r.v.int, .string x.r.v.text, .slice x.r.v.p x.r.v.n x.r.v.c, .slice x.r.p x.r.n x.r.c] 35) := ⟨_, rfl⟩
          have hB5 : Below wr.heap.size wr W5 := by rw [hW5]; exact (Below.refl _ _).alloc (Nat.le_refl _) _
          have hX5 : Box W5 wr.heap.size #[.int .i64 x.mark, .string x.r.key, .int .i64 x.r.v.kind, .int .i64 x.r.v.int, .string x.r.v.text, .slice x.r.v.p x.r.v.n x.r.v.c, .slice x.r.p x.r.n x.r.c] 35 := by rw [hW5]; exact Box.new _ _ _
          have HBk5 := hid (hR.bk.below hB5)
          have HX5 := hid (IT.In.below hxi hB5)
          have HW5 := hid hW5
          have HB5 := hid hB5
          have HXf := hid hxf
          have hnk : ∀ g, (¬ L.C b g ∧ ¬ X.C k g) → g ≠ k := fun g hg e => hg.2 (.inl e)
          have HNk := hid hnk
          have hse : w.heap.size ≤ wr.heap.size := by have := HB4.out.size; omega
          have z0 := hX5.cell 0
          have z1 := hX5.cell 1
          have z2 := hX5.cell 2
          have z3 := hX5.cell 3
          have z4 := hX5.cell 4
          have z5 := hX5.cell 5
          have z6 := hX5.cell 6
          simp at z0 z1 z2 z3 z4 z5 z6
          have zl := hX5.lt
          have HFi : Hid (∀ X2 w6, BSet w.heap.size W5 k X1 w6 X2 → X2.R = X1.R → X2.M = X1.M → (F2.filter fun x => x.mark = 0).map IT.r = X2.R.toL.drop X2.oR → (F2.filter fun x => ¬ (x.mark = 0)).map IT.mark = X2.M.toL.drop X2.oM → FiR w.heap.size w4 k b L X (j + 1) w6 X2 F2) := by
            intro X2 w6 hQ e1 e2 e3 e4
            have hsW5 : w.heap.size ≤ W5.heap.size := Nat.le_trans hse HB5.out.size
            have hb6 := hQ.bel HBk5.out hsW5
            refine ⟨hQ.bk, (HR.out.bel.trans (HB5.out.mono hse)).trans hb6, ⟨hQ.but.os.trans (HB5.out.os.trans HR.out.but.os), hQ.but.tape.trans (HB5.out.tape.trans HR.out.but.tape), hQ.but.output.trans (HB5.out.output.trans HR.out.but.output), Nat.le_trans HR.out.but.size (Nat.le_trans HB5.out.size hQ.but.size), fun g hg hn => ?_⟩, e1.trans HR.out.eR, e2.trans HR.out.eM, HC2.out.1, e3, e4⟩
            refine (hQ.but.block g (Nat.lt_of_lt_of_le hg (Nat.le_trans HR.out.but.size HB5.out.size)) fun e => hn ((Bb.C_eq HR.out.eR HR.out.eM k g).1 e)).trans ((HB5.out.block g (Nat.lt_of_lt_of_le hg HR.out.but.size)).trans (HR.out.but.block g hg hn))
          clear hR hxq hxf hdq hcp hcp2 hcr hcm hkeep hat hcell hxi hW5 hB5 hX5 hx hnk
          go_upto_region 18 with fail
          rw [← HW5.out]
          by_cases hm0 : x.mark = 0
          · obtain ⟨a1, a2, a3, a4⟩ := HC2.out.2.1 hm0
            have HO := hid (outR_any w.heap.size W5 k X1 HBk5.out x _ HX5.out HNk.out hm0 a1 a2)
            have HA34 := hid (And.intro a3 a4)
            clear hm0 a1 a2 a3 a4
            go_wp2_with fail
            refine HO.out.mono ?_
            rintro e w6 ⟨rfl, hQ⟩
            have HF6 := hid (HFi.out _ w6 hQ rfl rfl HA34.out.1 HA34.out.2)
            clear hQ HO c0 c1 c2 c3 c4 c5 c6 z0 z1 z2 z3 z4 z5 z6
            go_wp2_with fail
            go_roundw
            case rel => exact ⟨j + 1, _, F2, by omega, by go_num, HF6.out⟩
            case measure => simp [intOf]; omega
          · obtain ⟨a1, a2, a3, a4⟩ := HC2.out.2.2 hm0
            have HO := hid (outM_any w.heap.size W5 k X1 HBk5.out x _ HX5.out HNk.out (by have := HXf.out.m; omega) (HXf.out.z hm0) a1 a2)
            have HA34 := hid (And.intro a3 a4)
            clear hm0 a1 a2 a3 a4
            go_wp2_with fail
            refine HO.out.mono ?_
            rintro e w6 ⟨rfl, hQ⟩
            have HF6 := hid (HFi.out _ w6 hQ rfl rfl HA34.out.1 HA34.out.2)
            clear hQ HO c0 c1 c2 c3 c4 c5 c6 z0 z1 z2 z3 z4 z5 z6
            go_wp2_with fail
            go_roundw
            case rel => exact ⟨j + 1, _, F2, by omega, by go_num, HF6.out⟩
            case measure => simp [intOf]; omega
        · obtain rfl : j = u.n := by omega
          have hcp := hR.cp
          rw [HUn.out, List.drop_length] at hcp
          obtain rfl := hcp.nil_inv
          have h1 := congrArg List.length hR.r
          have h2 := congrArg List.length hR.m
          rw [List.length_map, List.length_drop, LT.toL_len] at h1 h2
          simp at h1 h2
          have hoR : X1.oR = X1.R.n := by have := hR.bk.b1; omega
          have hoM : X1.oM = X1.M.n := by have := hR.bk.b2; omega
          obtain ⟨W6, hW6⟩ : ∃ W6, W6 = wr.alloc (.cells #[.int .i64 1, .string ⟨#[]⟩, .int .i64 0, .int .i64 0, .string ⟨#[]⟩, .slice none 0 0, .slice none 0 0] 35) := ⟨_, rfl⟩
          have hB6 : Below wr.heap.size wr W6 := by rw [hW6]; exact (Below.refl _ _).alloc (Nat.le_refl _) _
          have hX6 : Box W6 wr.heap.size #[.int .i64 1, .string ⟨#[]⟩, .int .i64 0, .int .i64 0, .string ⟨#[]⟩, .slice none 0 0, .slice none 0 0] 35 := by rw [hW6]; exact Box.new _ _ _
          have hl1 : LT.In elItem W6 (fun _ => True) ⟨some ⟨wr.heap.size, 0, none⟩, 1, 1, fun _ => ⟨1, rz⟩⟩ := by
            refine ⟨fun _ => ⟨wr.heap.size, 0, rfl, trivial, hX6.lt, fun q hq r u' hu => ?_⟩, fun q hq => ⟨rz_in _ _, (by show (-9223372036854775808 : Int) ≤ 1; omega), (by show (1 : Int) ≤ 9223372036854775807; omega)⟩, Nat.le_refl _, (by show 1 ≤ 140737488355328; omega), (by show 1 ≤ maxLen; unfold maxLen; omega), fun e => by cases e⟩
            have hq' : q = 0 := by have : q < 1 := hq; omega
            subst hq'
            rw [hX6.cell]
            rw [show 0 + 0 * elItem.size + r = r by omega]
            simpa [elItem, IT.cells, rz, VT.kind, VT.int, VT.text, VT.n, VT.p, VT.c] using hu
          have hsh6 : LnS W6 b L.room := (HSh.out.kept (hR.but.block b HSh.out.lt HBX.out)).below hB6
          have HPs := hid (put_shut W6 b L.room hsh6 _ _ hl1)
          have HBk6 := hid (hR.bk.below hB6)
          have hse : w.heap.size ≤ wr.heap.size := by have := HB4.out.size; omega
          have HB6 := hid ((HB4.out.trans hR.bel).trans (hB6.mono hse))
          have hs6 : w.heap.size ≤ W6.heap.size := Nat.le_trans hse hB6.size
          have HW6 := hid hW6
          have HOR := hid hoR
          have HOM := hid hoM
          clear hR hcp h1 h2 hB6 hX6 hl1 hsh6 hW6 hoR hoM hlt
          go_upto_region 21 with fail
          go_wp2_with fail
          rw [← HW6.out]
          refine HPs.out.mono ?_
          rintro e w7 ⟨rfl, hB7⟩
          have hbk7 := HBk6.out.below hB7
          have d0 : w7.cell? ⟨k, 0, none⟩ = some (.slice X1.R.p X1.R.n X1.R.c) := by rw [hbk7.box.cell]; rfl
          have d1 : w7.cell? ⟨k, 1, none⟩ = some (.slice X1.M.p X1.M.n X1.M.c) := by rw [hbk7.box.cell]; rfl
          have d2 : w7.cell? ⟨k, 2, none⟩ = some (.int .i64 (X1.R.n : Int)) := by rw [hbk7.box.cell, ← HOR.out]; rfl
          have d3 : w7.cell? ⟨k, 3, none⟩ = some (.int .i64 (X1.M.n : Int)) := by rw [hbk7.box.cell, ← HOM.out]; rfl
          have bl7 := hbk7.box.lt
          have HB7 := hid (HB6.out.trans (hB7.mono hs6))
          clear hB7 hbk7 HPs
          go_upto_region 22 with fail
          refine wp_region_calmD 30 (fun wx => Below w7.heap.size w7 wx) [(0, true), (1, true), (2, true), (3, false), (4, true), (5, true), (6, true), (7, false), (8, true), (9, true), (10, true), (11, true), (12, true), (13, true), (14, false), (15, true), (16, true), (17, true), (18, false), (19, true), (20, true), (21, true), (22, true), (23, true), (24, true), (25, true), (26, true), (27, true), (28, true), (29, true), (30, true)] [] (by kernel_rfl) (by kernel_rfl) (Below.refl _ _).drew ?_
          refine wpPre_e rfl rfl (fun K1 hK1 => ?_)
          apply Exists.intro
          refine And.intro (fun wx hx => ?_) ?_
          · go_simp
            try rfl
          go_simp
          refine hK1 _ ?_
          clear hK1 K1
          refine wpPre_e rfl rfl (fun K1 hK1 => ?_)
          apply Exists.intro
          refine And.intro (fun wx hx => ?_) ?_
          · go_simp
            try rfl
          go_simp
          refine hK1 _ ?_
          clear hK1 K1
          refine wpPre_e rfl rfl (fun K1 hK1 => ?_)
          apply Exists.intro
          refine And.intro (fun wx hx => ?_) ?_
          · go_simp
            try rfl
          go_simp
          refine hK1 _ ?_
          clear hK1 K1
          refine wpPre_e rfl rfl (fun K1 hK1 => ?_)
          apply Exists.intro
          refine And.intro (fun wx hx => ?_) ?_
          · have e0 := below_fact hx rfl d0
            have e1 := below_fact hx rfl d1
            have e2 := below_fact hx rfl d2
            have e3 := below_fact hx rfl d3
            go_simp
            try rfl
          go_simp
          refine hK1 _ ?_
          clear hK1 K1
          refine wpPre_e rfl rfl (fun K1 hK1 => ?_)
          apply Exists.intro
          refine And.intro (fun wx hx => ?_) ?_
          · go_simp
            try rfl
          go_simp
          refine hK1 _ ?_
          clear hK1 K1
          refine wpPre_e rfl rfl (fun K1 hK1 => ?_)
          apply Exists.intro
          refine And.intro (fun wx hx => ?_) ?_
          · go_simp
            try rfl
          go_simp
          refine hK1 _ ?_
          clear hK1 K1
          refine wpPre_e rfl rfl (fun K1 hK1 => ?_)
          apply Exists.intro
          refine And.intro (fun wx hx => ?_) ?_
          · go_simp
            try rfl
          go_simp
          refine hK1 _ ?_
          clear hK1 K1
          refine wpPre_e rfl rfl (fun K1 hK1 => ?_)
          apply Exists.intro
          refine And.intro (fun wx hx => ?_) ?_
          · have e0 := below_fact hx rfl d0
            have e1 := below_fact hx rfl d1
            have e2 := below_fact hx rfl d2
            have e3 := below_fact hx rfl d3
            go_simp
            try rfl
          go_simp
          refine hK1 _ ?_
          clear hK1 K1
          refine wpPre_e rfl rfl (fun K1 hK1 => ?_)
          apply Exists.intro
          refine And.intro (fun wx hx => ?_) ?_
          · go_simp
            try rfl
          go_simp
          refine hK1 _ ?_
          clear hK1 K1
          refine wpPre_e rfl rfl (fun K1 hK1 => ?_)
          apply Exists.intro
          refine And.intro (fun wx hx => ?_) ?_
          · go_simp
            try rfl
          go_simp
          refine hK1 _ ?_
          clear hK1 K1
          refine wpPre_e rfl rfl (fun K1 hK1 => ?_)
          apply Exists.intro
          refine And.intro (fun wx hx => ?_) ?_
          · go_simp
            try rfl
          go_simp
          refine hK1 _ ?_
          clear hK1 K1
          refine wpPre_i rfl (fun K1 hK1 => ?_)
          rw [if_pos (by go_simp)]
          apply Exists.intro
          refine And.intro (fun wx hx => ?_) ?_
          · go_simp
            try rfl
          go_simp
          refine hK1 _ ?_
          clear hK1 K1
          refine wpPre_i rfl (fun K1 hK1 => ?_)
          rw [if_pos (by go_simp)]
          apply Exists.intro
          refine And.intro (fun wx hx => ?_) ?_
          · go_simp
            try rfl
          go_simp
          refine hK1 _ ?_
          clear hK1 K1
          refine wpPre_i rfl (fun K1 hK1 => ?_)
          rw [if_pos (by go_simp)]
          apply Exists.intro
          refine And.intro (fun wx hx => ?_) ?_
          · go_simp
            try rfl
          go_simp
          refine hK1 _ ?_
          clear hK1 K1
          refine wpPre_i rfl (fun K1 hK1 => ?_)
          rw [if_pos (by go_simp)]
          apply Exists.intro
          refine And.intro (fun wx hx => ?_) ?_
          · have e0 := below_fact hx rfl d0
            have e1 := below_fact hx rfl d1
            have e2 := below_fact hx rfl d2
            have e3 := below_fact hx rfl d3
            go_simp
            try rfl
          go_simp
          refine hK1 _ ?_
          clear hK1 K1
          refine wpPre_i rfl (fun K1 hK1 => ?_)
          rw [if_pos (by go_simp)]
          apply Exists.intro
          refine And.intro (fun wx hx => ?_) ?_
          · go_simp
            try rfl
          go_simp
          refine hK1 _ ?_
          clear hK1 K1
          refine wpPre_i rfl (fun K1 hK1 => ?_)
          rw [if_pos (by go_simp)]
          apply Exists.intro
          refine And.intro (fun wx hx => ?_) ?_
          · go_simp
            try rfl
          go_simp
          refine hK1 _ ?_
          clear hK1 K1
          refine wpPre_i rfl (fun K1 hK1 => ?_)
          rw [if_pos (by go_simp)]
          apply Exists.intro
          refine And.intro (fun wx hx => ?_) ?_
          · go_simp
            try rfl
          go_simp
          refine hK1 _ ?_
          clear hK1 K1
          refine wpPre_i rfl (fun K1 hK1 => ?_)
          rw [if_pos (by go_simp)]
          apply Exists.intro
          refine And.intro (fun wx hx => ?_) ?_
          · have e0 := below_fact hx rfl d0
            have e1 := below_fact hx rfl d1
            have e2 := below_fact hx rfl d2
            have e3 := below_fact hx rfl d3
            go_simp
            try rfl
          go_simp
          refine hK1 _ ?_
          clear hK1 K1
          refine wpPre_i rfl (fun K1 hK1 => ?_)
          rw [if_pos (by go_simp)]
          apply Exists.intro
          refine And.intro (fun wx hx => ?_) ?_
          · go_simp
            try rfl
          go_simp
          refine hK1 _ ?_
          clear hK1 K1
          refine wpPre_i rfl (fun K1 hK1 => ?_)
          rw [if_pos (by go_simp)]
          apply Exists.intro
          refine And.intro (fun wx hx => ?_) ?_
          · go_simp
            try rfl
          go_simp
          refine hK1 _ ?_
          clear hK1 K1
          refine wpPre_e rfl rfl (fun K1 hK1 => ?_)
          apply Exists.intro
          refine And.intro (fun wx hx => ?_) ?_
          · go_simp
            try rfl
          go_simp
          refine hK1 _ ?_
          clear hK1 K1
          refine wpPre_e rfl rfl (fun K1 hK1 => ?_)
          apply Exists.intro
          refine And.intro (fun wx hx => ?_) ?_
          · go_simp
            try rfl
          go_simp
          refine hK1 _ ?_
          clear hK1 K1
          refine wpPre_i rfl (fun K1 hK1 => ?_)
          rw [if_pos (by go_simp)]
          apply Exists.intro
          refine And.intro (fun wx hx => ?_) ?_
          · go_simp
            try rfl
          go_simp
          refine hK1 _ ?_
          clear hK1 K1
          refine wpPre_i rfl (fun K1 hK1 => ?_)
          rw [if_pos (by go_simp)]
          apply Exists.intro
          refine And.intro (fun wx hx => ?_) ?_
          · go_simp
            try rfl
          go_simp
          refine hK1 _ ?_
          clear hK1 K1
          refine wpPre_e rfl rfl (fun K1 hK1 => ?_)
          apply Exists.intro
          refine And.intro (fun wx hx => ?_) ?_
          · go_simp
            try rfl
          go_simp
          refine hK1 _ ?_
          clear hK1 K1
          refine wpPre_e rfl rfl (fun K1 hK1 => ?_)
          apply Exists.intro
          refine And.intro (fun wx hx => ?_) ?_
          · go_simp
            try rfl
          go_simp
          refine hK1 _ ?_
          clear hK1 K1
          refine wpPre_i rfl (fun K1 hK1 => ?_)
          rw [if_pos (by go_simp)]
          apply Exists.intro
          refine And.intro (fun wx hx => ?_) ?_
          · go_simp
            try rfl
          go_simp
          refine hK1 _ ?_
          clear hK1 K1
          refine wpPre_i rfl (fun K1 hK1 => ?_)
          rw [if_pos (by go_simp)]
          apply Exists.intro
          refine And.intro (fun wx hx => ?_) ?_
          · go_simp
            try rfl
          go_simp
          refine hK1 _ ?_
          clear hK1 K1
          refine wpPre_e rfl rfl (fun K1 hK1 => ?_)
          apply Exists.intro
          refine And.intro (fun wx hx => ?_) ?_
          · go_simp
            try rfl
          go_simp
          refine hK1 _ ?_
          clear hK1 K1
          refine wpPre_e rfl rfl (fun K1 hK1 => ?_)
          apply Exists.intro
          refine And.intro (fun wx hx => ?_) ?_
          · go_simp
            try rfl
          go_simp
          refine hK1 _ ?_
          clear hK1 K1
          refine wpPre_nil ?_
          refine wpStg_nil ?_
          go_wp2
          exact bodyPost_ret (v := .bool true) (by simp [results, Try.results5, go_sem]) rfl ⟨rfl, HB7.out.drew⟩
end Go.Proofs.Ytbcnlfbclgkeiaa
