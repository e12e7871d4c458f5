import Derived.Test.YtldkepokcbjlpaaPack27
namespace Go.Proofs.Ytldkepokcbjlpaa
open Go.RowKit Go.Conc
set_option maxRecDepth 60000
theorem fairT_b (t : Int) : 1 ≤ fairT t ∧ fairT t ≤ 12 := by unfold fairT; split <;> omega
theorem fairF_b (t : Int) : 1 ≤ fairF t ∧ fairF t ≤ 9999 := by unfold fairF; split <;> omega
set_option maxHeartbeats 16000000 in
theorem status_walk (tasks first : Int) (s : LT OpP) (w : World) (hin : LT.In elOpP w (fun b => b < w.heap.size) s) : Calls Try.prog 3 #[.int .i64 tasks, .int .i64 first, .slice s.p s.n s.c] w fun e w' => e = .returned (.bool true) ∧ Below w.heap.size w w' := by
  have HI := hid hin
  have hnn := hin.nn
  have HFw := hid (lfew_any s w hin)
  obtain ⟨i0, Kd⟩ := kindIc
  have HKd := hid Kd
  clear hin Kd
  obtain ⟨T, hT⟩ : ∃ T, T = fairT tasks := ⟨_, rfl⟩
  obtain ⟨A, hA⟩ : ∃ A, A = fairF first := ⟨_, rfl⟩
  have hT2 := fairT_b tasks
  have hA2 := fairF_b first
  rw [← hT] at hT2
  rw [← hA] at hA2
  go_enter Try.func3, Try.ntmps3
  go_wp2_with fail
  refine HFw.out.mono ?_
  rintro e w1 ⟨r, rfl, hsz, hb1⟩
  have HB1 := hid hb1
  clear HFw hb1
  rcases r with _ | _
  · go_wp2
    exact bodyPost_ret (v := .bool true) (by simp [results, Try.results3, go_sem]) rfl ⟨rfl, HB1.out⟩
  have HSz := hid (hsz rfl)
  clear hsz
  go_wp2_with fail
  refine (fair_any tasks first w1).mono ?_
  rintro e w2 ⟨rfl, rfl⟩
  rw [← hT, ← hA]
  clear hT hA
  go_wp2_with fail
  refine (new_any T A 5 w2).mono ?_
  rintro e w3 hN
  obtain ⟨rfl, hI3, hc3, hb3⟩ := hN.y (by omega)
  have HJ3 := hid (PJ.new HB1.out hI3 hc3 hb3)
  have hE3 : (Ps.new T A 5 w2.heap.size).stat A = 0 := by
    unfold Ps.stat
    rw [if_pos (.inr (by show A + ((0 : Nat) : Int) ≤ A; omega))]
  obtain ⟨bb, hbb⟩ : ∃ x, x = w2.heap.size + 1 := ⟨_, rfl⟩
  obtain ⟨P3, hP3⟩ : ∃ x, x = Ps.new T A 5 w2.heap.size := ⟨_, rfl⟩
  have hPf3 : P3.first = A := by rw [hP3]; rfl
  have hPn3 : P3.next = A := by rw [hP3]; show A + ((0 : Nat) : Int) = A; omega
  have hPf3 := hid hPf3
  have hPn3 := hid hPn3
  have hP0 : Hid (P3.sts.n = 0) := by unfold Hid; rw [hP3]; rfl
  rw [← hP3] at hE3 HJ3
  rw [← hbb] at HJ3 ⊢
  clear hN hI3 hc3 hb3 hP3 hbb HB1
  have HS3 := hid (Status_any A w3 bb P3 HJ3.out.i)
  rw [hE3] at HS3
  have hA1 : IntKind.i64.wrap (A - 1) = A - 1 := by rw [IntKind.wrap_i64]; omega
  clear hE3
  go_wp2_with fail
  refine HS3.out.mono ?_
  rintro e w4 ⟨rfl, hb4⟩
  have HJ4 := hid (HJ3.out.below hb4)
  clear hb4 HS3 HJ3
  go_wp2_with fail
  go_loopw [9, 10, 11] (fun v y x wr => ∃ (k : Nat) (P : Ps) (L : List Value), k ≤ s.n ∧ x = .int .i64 (k : Int) ∧ y = .int .i64 (P.next - 1) ∧ P.first = A ∧ PJ w wr bb P L v P.sts.n P.sts.item) (fun _ _ x _ => s.n - (intOf x).toNat)
  case atStart => exact ⟨0, P3, [], Nat.zero_le _, rfl, by rw [hPn3.out], hPf3.out, HJ4.out⟩
  case round =>
    obtain ⟨k, P, L, hk, rfl, rfl, hPf, hJ⟩ := hrel
    clear HJ4 hPf3 hPn3 hP0
    have HJ := hid hJ
    have hn1 := hJ.i.n1
    have hbl := hJ.i.box.lt
    obtain ⟨vp, vc, rfl⟩ := ownsRow_slice hJ.own
    clear hJ
    have HQn : Hid (P.next = A + (P.sts.n : Int)) := by unfold Hid Ps.next; rw [hPf]
    by_cases hlt : k < s.n
    rotate_left
    · have hlt' : ¬ (k : Int) < (s.n : Int) := by omega
      have HTr := hid (trigger_any wr bb P HJ.out.i)
      go_wp2_with fail
      refine HTr.out.mono ?_
      rintro e w5 ⟨P5, hQ⟩
      have HB5 := hid (HJ.out.bels hQ.s)
      have hq := HQn.out
      obtain ⟨q, hq1⟩ : ∃ q, P.next - 1 = q := ⟨_, rfl⟩
      have hq2 := hid (show P.next = q + 1 by omega)
      have hw1 : IntKind.i64.wrap (q + 1) = q + 1 := by rw [IntKind.wrap_i64]; omega
      have hw2 : IntKind.i64.wrap (q - A) = q - A := by rw [IntKind.wrap_i64]; omega
      have hw3 : IntKind.i64.wrap (q - A + 1) = q - A + 1 := by rw [IntKind.wrap_i64]; omega
      have hw4 : (q - A + 1 == (P.sts.n : Int)) = true := by rw [beq_iff_eq]; omega
      have hw5 : ((0 : Int) == q + 1) = false := by rw [beq_eq_false_iff_ne]; omega
      rw [hq1]
      clear hq1
      by_cases h0 : P.trigE = 0
      · obtain ⟨rfl, _⟩ := hQ.y h0
        rw [hq2.out]
        clear hQ h0 hq HTr
        go_wp2
        exact bodyPost_ret (v := .bool true) (by simp [results, Try.results3, go_sem]) rfl ⟨rfl, HB5.out⟩
      · obtain ⟨_, rfl⟩ := hQ.n h0
        have h0' : (P.trigE == 0) = false := by simp [h0]
        clear hQ h0 hq HTr
        go_wp2
        exact bodyPost_ret (v := .bool true) (by simp [results, Try.results3, go_sem]) rfl ⟨rfl, HB5.out⟩
    have hlt' : (k : Int) < (s.n : Int) := by omega
    obtain ⟨gb, o, hp, hSb, hgb, hat⟩ := HI.out.at_ (by omega)
    rw [hp]
    have hcell : ∀ r u, (elOpP.cells (s.item k))[r]? = some u → wr.cell? ⟨gb, o + k * 10 + r, none⟩ = some u := fun r u hu => (World.cell?_of_block (a := ⟨gb, o + k * 10 + r, none⟩) (HJ.out.bel.block gb hgb)).trans (hat k hlt r u hu)
    have c0 : wr.cell? ⟨gb, o + k * 10, none⟩ = some (.int .i64 (s.item k).kind) := hcell 0 _ rfl
    have c1 : wr.cell? ⟨gb, o + k * 10 + 1, none⟩ = some (.bool (s.item k).snd) := hcell 1 _ rfl
    have c2 : wr.cell? ⟨gb, o + k * 10 + 2, none⟩ = some (.bool (s.item k).abs) := hcell 2 _ rfl
    have c3 : wr.cell? ⟨gb, o + k * 10 + 3, none⟩ = some (.int .i64 (s.item k).id) := hcell 3 _ rfl
    have c4 : wr.cell? ⟨gb, o + k * 10 + 4, none⟩ = some (.int .i64 (s.item k).task) := hcell 4 _ rfl
    have c5 : wr.cell? ⟨gb, o + k * 10 + 5, none⟩ = some (.int .i64 (s.item k).pt.num) := hcell 5 _ rfl
    have c6 : wr.cell? ⟨gb, o + k * 10 + 6, none⟩ = some (.slice (s.item k).pt.cl.p (s.item k).pt.cl.n (s.item k).pt.cl.c) := hcell 6 _ rfl
    have c7 : wr.cell? ⟨gb, o + k * 10 + 7, none⟩ = some (.slice (s.item k).pt.lg.p (s.item k).pt.lg.n (s.item k).pt.lg.c) := hcell 7 _ rfl
    have c8 : wr.cell? ⟨gb, o + k * 10 + 8, none⟩ = some (.slice (s.item k).pt.pd.p (s.item k).pt.pd.n (s.item k).pt.pd.c) := hcell 8 _ rfl
    have c9 : wr.cell? ⟨gb, o + k * 10 + 9, none⟩ = some (.bool (s.item k).ok) := hcell 9 _ rfl
    have HIn : Hid (PtIn w (fun b => b < w.heap.size) (s.item k).pt) := HI.out.each k hlt
    have HOs := hid (HSz.out k hlt)
    clear hcell hat
    have HX3 := hid (Box.new wr #[.int .i64 (s.item k).kind, .bool (s.item k).snd, .bool (s.item k).abs, .int .i64 (s.item k).id, .int .i64 (s.item k).task, .int .i64 (s.item k).pt.num, .slice (s.item k).pt.cl.p (s.item k).pt.cl.n (s.item k).pt.cl.c, .slice (s.item k).pt.lg.p (s.item k).pt.lg.n (s.item k).pt.lg.c, .slice (s.item k).pt.pd.p (s.item k).pt.pd.n (s.item k).pt.pd.c, .bool (s.item k).ok] 41)
    have HJ3 := hid (HJ.out.below ((Below.refl wr.heap.size wr).alloc (Nat.le_refl _) (.cells #[.int .i64 (s.item k).kind, .bool (s.item k).snd, .bool (s.item k).abs, .int .i64 (s.item k).id, .int .i64 (s.item k).task, .int .i64 (s.item k).pt.num, .slice (s.item k).pt.cl.p (s.item k).pt.cl.n (s.item k).pt.cl.c, .slice (s.item k).pt.lg.p (s.item k).pt.lg.n (s.item k).pt.lg.c, .slice (s.item k).pt.pd.p (s.item k).pt.pd.n (s.item k).pt.pd.c, .bool (s.item k).ok] 41)))
    have HN3 := hid (number_any (s.item k) (P.next - 1) (wr.alloc (.cells #[.int .i64 (s.item k).kind, .bool (s.item k).snd, .bool (s.item k).abs, .int .i64 (s.item k).id, .int .i64 (s.item k).task, .int .i64 (s.item k).pt.num, .slice (s.item k).pt.cl.p (s.item k).pt.cl.n (s.item k).pt.cl.c, .slice (s.item k).pt.lg.p (s.item k).pt.lg.n (s.item k).pt.lg.c, .slice (s.item k).pt.pd.p (s.item k).pt.pd.n (s.item k).pt.pd.c, .bool (s.item k).ok] 41)))
    obtain ⟨id, hid0⟩ : ∃ x, x = (s.item k).num (P.next - 1) := ⟨_, rfl⟩
    rw [← hid0] at HN3
    clear hid0
    go_wp2_with fail
    refine HN3.out.mono ?_
    rintro e w4 ⟨rfl, hb4⟩
    have HJ4 := hid (HJ3.out.below hb4)
    have HX4 := hid (HX3.out.below hb4)
    have xl := HX4.out.lt
    have x0 := HX4.out.cell 0
    simp at x0
    clear hb4 HX3 HJ3 HN3 c0 c1 c2 c3 c4 c5 c6 c7 c8 c9
    have hbl4 := HJ4.out.i.box.lt
    by_cases k1 : (s.item k).kind = 1
    · rw [k1] at x0
      have HTr := hid (trigger_any w4 bb P HJ4.out.i)
      go_wp2_with fail
      refine HTr.out.mono ?_
      rintro e w5 ⟨P5, hQ⟩
      by_cases h0 : P.trigE = 0
      · obtain ⟨rfl, p5, c5, rfl⟩ := hQ.y h0
        have hu0 : P.under = 0 := by
          by_cases h : P.under = 0
          · exact h
          · unfold Ps.trigE at h0; rw [if_pos h] at h0; cases h0
        have HJ5 := hid (HJ4.out.step (hQ.s.qs HJ4.out.i HJ4.out.inb rfl rfl) (HJ4.out.inv.trig HJ4.out.i.f0 hu0 p5 c5).2)
        clear hQ h0 HTr hu0
        have HAl : Hid (Below w5.heap.size w5 (w5.alloc (.cells #[.int .i64 0] 3))) := (Below.refl _ _).alloc (Nat.le_refl _) _
        have HNw : Hid (∀ j u', ([.int .i64 0] : List Value)[j]? = some u' → (w5.alloc (.cells #[.int .i64 0] 3)).cell? ((⟨w5.heap.size, 0, none⟩ : Addr).add j) = some u') := fun j u' hu => by
          rw [Go.WideShapes.add_plain, (Box.new w5 #[.int .i64 0] 3).cell]
          rw [show 0 + j = j by omega]
          simpa using hu
        go_wp2_with (at_builtin; refine wpList_app rfl (.tmp 74) (.tmp 75) 32 3 i0 _ 1 8 HKd.out rfl w.heap.size (.slice vp P.sts.n vc) P.sts.n _ rfl (HJ5.out.own.alloc _) ⟨w5.heap.size, 0, none⟩ 1 1 [.int .i64 0] rfl rfl HNw.out (fun u hu => by simp at hu; rw [hu]; rfl) (by omega) (by omega) (by have := HJ5.out.bel.size; simp; omega) ?_)
        intro v6 w6 ho6 hg6 hn6
        have HJ6 := hid (HJ5.out.pushed HAl.out ho6 hg6 hn6)
        obtain ⟨p6, c6, rfl⟩ := ownsRow_slice ho6
        have HM := hid (HJ6.out.movedT (fun j hj => HJ4.out.i.st j hj))
        rw [hPf] at HM
        have hPn := hid (show (P.push p5 c5 1).next - 1 = P.next by show P.first + ((P.sts.n + 1 : Nat) : Int) - 1 = P.first + (P.sts.n : Int); omega)
        clear ho6 hg6 hn6 HNw HAl
        go_wp2_with fail
        refine HM.out.mono ?_
        rintro e w9 ⟨rfl, hJ9⟩
        have HJ9 := hid hJ9
        clear hJ9 HM
        go_wp2
        go_roundw
        case rel => exact ⟨k + 1, P.push p5 c5 1, L, by omega, by go_num, by rw [hPn.out], hPf, HJ9.out⟩
        case measure => simp [intOf]; omega
      · obtain ⟨hP5, rfl⟩ := hQ.n h0
        subst hP5
        have HS5 : Hid (StepR w4 bb P5 w5 P5 L) := ⟨hQ.s.qs HJ4.out.i HJ4.out.inb rfl rfl, HJ4.out.inv, rfl, rfl, rfl, Moves.refl _ _⟩
        have h0' : (P5.trigE == 0) = false := by simp [h0]
        clear hQ h0 HTr
        have HM := hid (HJ4.out.moved HS5.out)
        rw [hPf] at HM
        go_wp2_with fail
        refine HM.out.mono ?_
        rintro e w9 ⟨rfl, hJ9⟩
        have HJ9 := hid hJ9
        have HN9 : Hid (P5.next = P5.next) := by unfold Hid Ps.next; rw [HS5.out.f, HS5.out.n]
        have HF9 : Hid (P5.first = A) := HS5.out.f.trans hPf
        have HV9 : Hid (P5.sts.n = P5.sts.n) := HS5.out.n
        clear hJ9 HM
        go_wp2
        go_roundw
        case rel => exact ⟨k + 1, P5, L, by omega, by go_num, by first | rw [HN9.out] | rfl, by first | exact HF9.out | exact hPf, HJ9.out⟩
        case measure => simp [intOf]; omega
    have k1' : ((s.item k).kind == 1) = false := by simp [k1]
    by_cases k2 : (s.item k).kind = 2
    · rw [k2] at x0
      clear k1' k1
      have y4 := HX4.out.cell 4
      have y5 := HX4.out.cell 5
      have y6 := HX4.out.cell 6
      have y7 := HX4.out.cell 7
      have y8 := HX4.out.cell 8
      simp at y4 y5 y6 y7 y8
      have HH := hid (hand_any id (s.item k).task (s.item k).pt (fun b => b < w.heap.size) L w4 bb P HJ4.out.i HJ4.out.inb (HIn.out.kept HJ4.out.bel.size (fun b hb _ => HJ4.out.bel.block b hb)) HOs.out (fun h => HJ4.out.inv.room h))
      go_wp2_with fail
      refine HH.out.mono ?_
      rintro e w5 ⟨P5, L5, hQ⟩
      obtain rfl := hQ.r
      have HS5 := hid (hQ.step HJ4.out.inv)
      clear hQ HH
      have HM := hid (HJ4.out.moved HS5.out)
      rw [hPf] at HM
      go_wp2_with fail
      refine HM.out.mono ?_
      rintro e w9 ⟨rfl, hJ9⟩
      have HJ9 := hid hJ9
      have HN9 : Hid (P5.next = P.next) := by unfold Hid Ps.next; rw [HS5.out.f, HS5.out.n]
      have HF9 : Hid (P5.first = A) := HS5.out.f.trans hPf
      have HV9 : Hid (P5.sts.n = P.sts.n) := HS5.out.n
      clear hJ9 HM
      go_wp2
      go_roundw
      case rel => exact ⟨k + 1, P5, L5, by omega, by go_num, by first | rw [HN9.out] | rfl, by first | exact HF9.out | exact hPf, HJ9.out⟩
      case measure => simp [intOf]; omega
    have k2' : ((s.item k).kind == 2) = false := by simp [k2]
    by_cases k3 : (s.item k).kind = 3
    · rw [k3] at x0
      clear k1' k2' k1 k2
      have HH := hid (pick_step w4 bb P L HJ4.out.i HJ4.out.inb HJ4.out.inv)
      go_wp2_with fail
      refine HH.out.mono ?_
      rintro e w5 ⟨P5, L5, n5, s5, rfl, hS⟩
      have HS5 := hid hS
      clear hS HH
      have HM := hid (HJ4.out.moved HS5.out)
      rw [hPf] at HM
      go_wp2_with fail
      refine HM.out.mono ?_
      rintro e w9 ⟨rfl, hJ9⟩
      have HJ9 := hid hJ9
      have HN9 : Hid (P5.next = P.next) := by unfold Hid Ps.next; rw [HS5.out.f, HS5.out.n]
      have HF9 : Hid (P5.first = A) := HS5.out.f.trans hPf
      have HV9 : Hid (P5.sts.n = P.sts.n) := HS5.out.n
      clear hJ9 HM
      go_wp2
      go_roundw
      case rel => exact ⟨k + 1, P5, L5, by omega, by go_num, by first | rw [HN9.out] | rfl, by first | exact HF9.out | exact hPf, HJ9.out⟩
      case measure => simp [intOf]; omega
    have k3' : ((s.item k).kind == 3) = false := by simp [k3]
    by_cases k4 : (s.item k).kind = 4
    · rw [k4] at x0
      clear k1' k2' k3' k1 k2 k3
      have HH := hid (abort_any w4 bb P L HJ4.out.i HJ4.out.inb)
      go_wp2_with fail
      refine HH.out.mono ?_
      rintro e w5 ⟨P5, L5, hQ⟩
      obtain ⟨hS, n5, f5, rfl⟩ := hQ.step HJ4.out.inv
      have HS5 := hid hS
      clear hS hQ HH
      have HM := hid (HJ4.out.moved HS5.out)
      rw [hPf] at HM
      go_wp2_with fail
      refine HM.out.mono ?_
      rintro e w9 ⟨rfl, hJ9⟩
      have HJ9 := hid hJ9
      have HN9 : Hid (P5.next = P.next) := by unfold Hid Ps.next; rw [HS5.out.f, HS5.out.n]
      have HF9 : Hid (P5.first = A) := HS5.out.f.trans hPf
      have HV9 : Hid (P5.sts.n = P.sts.n) := HS5.out.n
      clear hJ9 HM
      go_wp2
      go_roundw
      case rel => exact ⟨k + 1, P5, L5, by omega, by go_num, by first | rw [HN9.out] | rfl, by first | exact HF9.out | exact hPf, HJ9.out⟩
      case measure => simp [intOf]; omega
    have k4' : ((s.item k).kind == 4) = false := by simp [k4]
    by_cases k5 : (s.item k).kind = 5
    · rw [k5] at x0
      clear k1' k2' k3' k4' k1 k2 k3 k4
      have HSa := hid (Status_any id w4 bb P HJ4.out.i)
      go_wp2_with fail
      refine HSa.out.mono ?_
      rintro e w5 ⟨rfl, hb5⟩
      have HJ5 := hid (HJ4.out.below hb5)
      have HX5 := hid (HX4.out.below hb5)
      have y9 := HX5.out.cell 9
      have xl5 := HX5.out.lt
      simp at y9
      have HH := hid (settle_any id (s.item k).ok w5 bb P HJ5.out.i)
      clear hb5 HSa x0
      by_cases h2 : P.stat id = 2
      · rw [h2]
        have H2 := hid h2
        clear h2
        go_wp2_with fail
        refine HH.out.mono ?_
        rintro e w6 ⟨P6, hQ⟩
        obtain ⟨rfl, hP6⟩ := hQ.y H2.out
        have HS6 := hid (hQ.step HJ5.out.i HJ5.out.inb HJ5.out.inv)
        have HS6v : Hid (P6.stat id = if (s.item k).ok then 3 else 4) := by unfold Hid; rw [hP6]; exact Ps.stat_set H2.out
        have HSt6 := hid (Status_any id w6.drew bb P6 (HS6.out.s.inv.below (Below.refl _ _).drew))
        have HX6 := hid (HX5.out.kept (HS6.out.s.but.block _ HX5.out.lt (fun e => by
          have h1 := HJ.out.i.lt (k := wr.heap.size)
          have h2 := HJ.out.inb.lt
          rcases e with e | e
          · have := h1 e; omega
          · omega)))
        have y9 := HX6.out.cell 9
        have xl6 := HX6.out.lt
        simp at y9
        clear hQ HH hP6
        rcases hok : (s.item k).ok with _ | _
        · rw [hok] at y9 HS6v
          simp only [if_false, Bool.false_eq_true] at HS6v
          go_wp2_with fail
          refine wp_region_calmE 30 (fun wx => Below w6.heap.size w6 wx) [(0, true), (1, true), (2, true), (3, true), (4, true), (5, true), (6, true), (7, true), (8, true), (9, true), (10, false), (11, true), (12, true)] (.one 13 true [(14, true), (15, true), (16, true), (17, true)] .done) (by kernel_rfl) (by kernel_rfl) (Below.refl _ _).drew ?_
          refine wpPre_e rfl rfl (fun K1 hK1 => ?_)
          apply Exists.intro
          refine And.intro (fun wx hx => ?_) ?_
          · go_simp
            try rfl
          go_simp
          refine hK1 _ ?_
          clear hK1 K1
          refine wpPre_e rfl rfl (fun K1 hK1 => ?_)
          apply Exists.intro
          refine And.intro (fun wx hx => ?_) ?_
          · go_simp
            try rfl
          go_simp
          refine hK1 _ ?_
          clear hK1 K1
          refine wpPre_e rfl rfl (fun K1 hK1 => ?_)
          apply Exists.intro
          refine And.intro (fun wx hx => ?_) ?_
          · go_simp
            try rfl
          go_simp
          refine hK1 _ ?_
          clear hK1 K1
          refine wpPre_e rfl rfl (fun K1 hK1 => ?_)
          apply Exists.intro
          refine And.intro (fun wx hx => ?_) ?_
          · go_simp
            try rfl
          go_simp
          refine hK1 _ ?_
          clear hK1 K1
          refine wpPre_e rfl rfl (fun K1 hK1 => ?_)
          apply Exists.intro
          refine And.intro (fun wx hx => ?_) ?_
          · go_simp
            try rfl
          go_simp
          refine hK1 _ ?_
          clear hK1 K1
          refine wpPre_e rfl rfl (fun K1 hK1 => ?_)
          apply Exists.intro
          refine And.intro (fun wx hx => ?_) ?_
          · go_simp
            try rfl
          go_simp
          refine hK1 _ ?_
          clear hK1 K1
          refine wpPre_i rfl (fun K1 hK1 => ?_)
          rw [if_pos (by go_simp)]
          apply Exists.intro
          refine And.intro (fun wx hx => ?_) ?_
          · go_simp
            try rfl
          go_simp
          refine hK1 _ ?_
          clear hK1 K1
          refine wpPre_i rfl (fun K1 hK1 => ?_)
          rw [if_pos (by go_simp)]
          apply Exists.intro
          refine And.intro (fun wx hx => ?_) ?_
          · go_simp
            try rfl
          go_simp
          refine hK1 _ ?_
          clear hK1 K1
          refine wpPre_i rfl (fun K1 hK1 => ?_)
          rw [if_pos (by go_simp)]
          apply Exists.intro
          refine And.intro (fun wx hx => ?_) ?_
          · go_simp
            try rfl
          go_simp
          refine hK1 _ ?_
          clear hK1 K1
          refine wpPre_i rfl (fun K1 hK1 => ?_)
          rw [if_pos (by go_simp)]
          apply Exists.intro
          refine And.intro (fun wx hx => ?_) ?_
          · go_simp
            try rfl
          go_simp
          refine hK1 _ ?_
          clear hK1 K1
          refine wpPre_i rfl (fun K1 hK1 => ?_)
          rw [if_pos (by go_simp)]
          apply Exists.intro
          refine And.intro (fun wx hx => ?_) ?_
          · have e0 := below_fact hx rfl y9
            go_simp
            try rfl
          go_simp
          refine hK1 _ ?_
          clear hK1 K1
          refine wpPre_i rfl (fun K1 hK1 => ?_)
          rw [if_pos (by go_simp)]
          apply Exists.intro
          refine And.intro (fun wx hx => ?_) ?_
          · go_simp
            try rfl
          go_simp
          refine hK1 _ ?_
          clear hK1 K1
          refine wpPre_i rfl (fun K1 hK1 => ?_)
          rw [if_pos (by go_simp)]
          apply Exists.intro
          refine And.intro (fun wx hx => ?_) ?_
          · go_simp
            try rfl
          go_simp
          refine hK1 _ ?_
          clear hK1 K1
          refine wpPre_nil ?_
          refine wpTr_e rfl (fun K1 hK1 => ?_)
          refine step_callG (by go_simp) 10 #[.tmp 115, .tmp 116] _ rfl Try.f10 Try.func10 (by kernel_rfl) rfl #[.pointer (some ⟨bb, 0, none⟩), .int .i64 id] rfl _ HSt6.out (fun e w7 h7 => ?_)
          obtain ⟨rfl, hb7⟩ := h7
          rw [HS6v.out]
          refine ⟨_, rfl, ?_⟩
          have HB7 : Hid (Below w6.heap.size w6 w7) := (Below.refl w6.heap.size w6).drew.trans hb7
          clear hb7
          go_simp
          refine hK1 _ _ (fun _ => HB7.out) ?_
          clear hK1 K1
          refine wpPre_i rfl (fun K1 hK1 => ?_)
          rw [if_pos (by go_simp)]
          apply Exists.intro
          refine And.intro (fun wx hx => ?_) ?_
          · go_simp
            try rfl
          go_simp
          refine hK1 _ ?_
          clear hK1 K1
          refine wpPre_i rfl (fun K1 hK1 => ?_)
          rw [if_pos (by go_simp)]
          apply Exists.intro
          refine And.intro (fun wx hx => ?_) ?_
          · go_simp
            try rfl
          go_simp
          refine hK1 _ ?_
          clear hK1 K1
          refine wpPre_i rfl (fun K1 hK1 => ?_)
          rw [if_pos (by go_simp)]
          apply Exists.intro
          refine And.intro (fun wx hx => ?_) ?_
          · go_simp
            try rfl
          go_simp
          refine hK1 _ ?_
          clear hK1 K1
          refine wpPre_e rfl rfl (fun K1 hK1 => ?_)
          apply Exists.intro
          refine And.intro (fun wx hx => ?_) ?_
          · go_simp
            try rfl
          go_simp
          refine hK1 _ ?_
          clear hK1 K1
          refine wpPre_nil ?_
          refine wpTr_done ?_
          have HS7 := hid (HS6.out.below HJ5.out.inb.lt HB7.out)
          have HM := hid (HJ5.out.moved HS7.out)
          rw [hPf] at HM
          go_wp2_with fail
          refine HM.out.mono ?_
          rintro e w9 ⟨rfl, hJ9⟩
          have HJ9 := hid hJ9
          have HN9 : Hid (P6.next = P.next) := by unfold Hid Ps.next; rw [HS7.out.f, HS7.out.n]
          have HF9 : Hid (P6.first = A) := HS7.out.f.trans hPf
          have HV9 : Hid (P6.sts.n = P.sts.n) := HS7.out.n
          clear hJ9 HM
          go_wp2
          go_roundw
          case rel => exact ⟨k + 1, P6, L, by omega, by go_num, by first | rw [HN9.out] | rfl, by first | exact HF9.out | exact hPf, HJ9.out⟩
          case measure => simp [intOf]; omega
        · rw [hok] at y9 HS6v
          simp only [if_true] at HS6v
          go_wp2_with fail
          refine wp_region_calmE 30 (fun wx => Below w6.heap.size w6 wx) [(0, true), (1, true), (2, true), (3, true), (4, true), (5, true), (6, true), (7, true), (8, true), (9, true), (10, false), (11, true), (12, true)] (.one 13 true [(14, true), (15, true), (16, true), (17, true)] .done) (by kernel_rfl) (by kernel_rfl) (Below.refl _ _).drew ?_
          refine wpPre_e rfl rfl (fun K1 hK1 => ?_)
          apply Exists.intro
          refine And.intro (fun wx hx => ?_) ?_
          · go_simp
            try rfl
          go_simp
          refine hK1 _ ?_
          clear hK1 K1
          refine wpPre_e rfl rfl (fun K1 hK1 => ?_)
          apply Exists.intro
          refine And.intro (fun wx hx => ?_) ?_
          · go_simp
            try rfl
          go_simp
          refine hK1 _ ?_
          clear hK1 K1
          refine wpPre_e rfl rfl (fun K1 hK1 => ?_)
          apply Exists.intro
          refine And.intro (fun wx hx => ?_) ?_
          · go_simp
            try rfl
          go_simp
          refine hK1 _ ?_
          clear hK1 K1
          refine wpPre_e rfl rfl (fun K1 hK1 => ?_)
          apply Exists.intro
          refine And.intro (fun wx hx => ?_) ?_
          · go_simp
            try rfl
          go_simp
          refine hK1 _ ?_
          clear hK1 K1
          refine wpPre_e rfl rfl (fun K1 hK1 => ?_)
          apply Exists.intro
          refine And.intro (fun wx hx => ?_) ?_
          · go_simp
            try rfl
          go_simp
          refine hK1 _ ?_
          clear hK1 K1
          refine wpPre_e rfl rfl (fun K1 hK1 => ?_)
          apply Exists.intro
          refine And.intro (fun wx hx => ?_) ?_
          · go_simp
            try rfl
          go_simp
          refine hK1 _ ?_
          clear hK1 K1
          refine wpPre_i rfl (fun K1 hK1 => ?_)
          rw [if_pos (by go_simp)]
          apply Exists.intro
          refine And.intro (fun wx hx => ?_) ?_
          · go_simp
            try rfl
          go_simp
          refine hK1 _ ?_
          clear hK1 K1
          refine wpPre_i rfl (fun K1 hK1 => ?_)
          rw [if_pos (by go_simp)]
          apply Exists.intro
          refine And.intro (fun wx hx => ?_) ?_
          · go_simp
            try rfl
          go_simp
          refine hK1 _ ?_
          clear hK1 K1
          refine wpPre_i rfl (fun K1 hK1 => ?_)
          rw [if_pos (by go_simp)]
          apply Exists.intro
          refine And.intro (fun wx hx => ?_) ?_
          · go_simp
            try rfl
          go_simp
          refine hK1 _ ?_
          clear hK1 K1
          refine wpPre_i rfl (fun K1 hK1 => ?_)
          rw [if_pos (by go_simp)]
          apply Exists.intro
          refine And.intro (fun wx hx => ?_) ?_
          · go_simp
            try rfl
          go_simp
          refine hK1 _ ?_
          clear hK1 K1
          refine wpPre_i rfl (fun K1 hK1 => ?_)
          rw [if_pos (by go_simp)]
          apply Exists.intro
          refine And.intro (fun wx hx => ?_) ?_
          · have e0 := below_fact hx rfl y9
            go_simp
            try rfl
          go_simp
          refine hK1 _ ?_
          clear hK1 K1
          refine wpPre_i rfl (fun K1 hK1 => ?_)
          rw [if_pos (by go_simp)]
          apply Exists.intro
          refine And.intro (fun wx hx => ?_) ?_
          · go_simp
            try rfl
          go_simp
          refine hK1 _ ?_
          clear hK1 K1
          refine wpPre_i rfl (fun K1 hK1 => ?_)
          rw [if_pos (by go_simp)]
          apply Exists.intro
          refine And.intro (fun wx hx => ?_) ?_
          · go_simp
            try rfl
          go_simp
          refine hK1 _ ?_
          clear hK1 K1
          refine wpPre_nil ?_
          refine wpTr_e rfl (fun K1 hK1 => ?_)
          refine step_callG (by go_simp) 10 #[.tmp 115, .tmp 116] _ rfl Try.f10 Try.func10 (by kernel_rfl) rfl #[.pointer (some ⟨bb, 0, none⟩), .int .i64 id] rfl _ HSt6.out (fun e w7 h7 => ?_)
          obtain ⟨rfl, hb7⟩ := h7
          rw [HS6v.out]
          refine ⟨_, rfl, ?_⟩
          have HB7 : Hid (Below w6.heap.size w6 w7) := (Below.refl w6.heap.size w6).drew.trans hb7
          clear hb7
          go_simp
          refine hK1 _ _ (fun _ => HB7.out) ?_
          clear hK1 K1
          refine wpPre_i rfl (fun K1 hK1 => ?_)
          rw [if_pos (by go_simp)]
          apply Exists.intro
          refine And.intro (fun wx hx => ?_) ?_
          · go_simp
            try rfl
          go_simp
          refine hK1 _ ?_
          clear hK1 K1
          refine wpPre_i rfl (fun K1 hK1 => ?_)
          rw [if_pos (by go_simp)]
          apply Exists.intro
          refine And.intro (fun wx hx => ?_) ?_
          · go_simp
            try rfl
          go_simp
          refine hK1 _ ?_
          clear hK1 K1
          refine wpPre_i rfl (fun K1 hK1 => ?_)
          rw [if_pos (by go_simp)]
          apply Exists.intro
          refine And.intro (fun wx hx => ?_) ?_
          · go_simp
            try rfl
          go_simp
          refine hK1 _ ?_
          clear hK1 K1
          refine wpPre_e rfl rfl (fun K1 hK1 => ?_)
          apply Exists.intro
          refine And.intro (fun wx hx => ?_) ?_
          · go_simp
            try rfl
          go_simp
          refine hK1 _ ?_
          clear hK1 K1
          refine wpPre_nil ?_
          refine wpTr_done ?_
          have HS7 := hid (HS6.out.below HJ5.out.inb.lt HB7.out)
          have HM := hid (HJ5.out.moved HS7.out)
          rw [hPf] at HM
          go_wp2_with fail
          refine HM.out.mono ?_
          rintro e w9 ⟨rfl, hJ9⟩
          have HJ9 := hid hJ9
          have HN9 : Hid (P6.next = P.next) := by unfold Hid Ps.next; rw [HS7.out.f, HS7.out.n]
          have HF9 : Hid (P6.first = A) := HS7.out.f.trans hPf
          have HV9 : Hid (P6.sts.n = P.sts.n) := HS7.out.n
          clear hJ9 HM
          go_wp2
          go_roundw
          case rel => exact ⟨k + 1, P6, L, by omega, by go_num, by first | rw [HN9.out] | rfl, by first | exact HF9.out | exact hPf, HJ9.out⟩
          case measure => simp [intOf]; omega
      · have h2' : (P.stat id == 2) = false := by simp [h2]
        have H2 := hid h2
        clear h2
        go_wp2_with fail
        refine HH.out.mono ?_
        rintro e w6 ⟨P6, hQ⟩
        obtain ⟨hP6, rfl⟩ := hQ.n H2.out
        have HS6 := hid (hQ.step HJ5.out.i HJ5.out.inb HJ5.out.inv)
        clear hQ HH hP6
        go_wp2_with fail
        refine wp_region_calmE 30 (fun wx => Below w6.heap.size w6 wx) [(0, true), (1, true), (2, true), (3, true), (4, true), (5, true), (6, true), (7, true), (8, true), (9, true), (10, false), (11, true), (12, true)] (.one 13 true [(14, true), (15, true), (16, true), (17, true)] .done) (by kernel_rfl) (by kernel_rfl) (Below.refl _ _).drew ?_
        refine wpPre_e rfl rfl (fun K1 hK1 => ?_)
        apply Exists.intro
        refine And.intro (fun wx hx => ?_) ?_
        · go_simp
          try rfl
        go_simp
        refine hK1 _ ?_
        clear hK1 K1
        refine wpPre_e rfl rfl (fun K1 hK1 => ?_)
        apply Exists.intro
        refine And.intro (fun wx hx => ?_) ?_
        · go_simp
          try rfl
        go_simp
        refine hK1 _ ?_
        clear hK1 K1
        refine wpPre_e rfl rfl (fun K1 hK1 => ?_)
        apply Exists.intro
        refine And.intro (fun wx hx => ?_) ?_
        · go_simp
          try rfl
        go_simp
        refine hK1 _ ?_
        clear hK1 K1
        refine wpPre_e rfl rfl (fun K1 hK1 => ?_)
        apply Exists.intro
        refine And.intro (fun wx hx => ?_) ?_
        · go_simp
          try rfl
        go_simp
        refine hK1 _ ?_
        clear hK1 K1
        refine wpPre_e rfl rfl (fun K1 hK1 => ?_)
        apply Exists.intro
        refine And.intro (fun wx hx => ?_) ?_
        · go_simp
          try rfl
        go_simp
        refine hK1 _ ?_
        clear hK1 K1
        refine wpPre_e rfl rfl (fun K1 hK1 => ?_)
        apply Exists.intro
        refine And.intro (fun wx hx => ?_) ?_
        · go_simp
          try rfl
        go_simp
        refine hK1 _ ?_
        clear hK1 K1
        refine wpPre_i rfl (fun K1 hK1 => ?_)
        rw [if_pos (by go_simp)]
        apply Exists.intro
        refine And.intro (fun wx hx => ?_) ?_
        · go_simp
          try rfl
        go_simp
        refine hK1 _ ?_
        clear hK1 K1
        refine wpPre_i rfl (fun K1 hK1 => ?_)
        rw [if_pos (by go_simp)]
        apply Exists.intro
        refine And.intro (fun wx hx => ?_) ?_
        · go_simp
          try rfl
        go_simp
        refine hK1 _ ?_
        clear hK1 K1
        refine wpPre_i rfl (fun K1 hK1 => ?_)
        rw [if_pos (by go_simp)]
        apply Exists.intro
        refine And.intro (fun wx hx => ?_) ?_
        · go_simp
          try rfl
        go_simp
        refine hK1 _ ?_
        clear hK1 K1
        refine wpPre_i rfl (fun K1 hK1 => ?_)
        rw [if_neg (by go_simp; all_goals (intro h; cases h))]
        go_simp
        refine hK1 _ ?_
        clear hK1 K1
        refine wpPre_i rfl (fun K1 hK1 => ?_)
        rw [if_neg (by go_simp; all_goals (intro h; cases h))]
        go_simp
        refine hK1 _ ?_
        clear hK1 K1
        refine wpPre_i rfl (fun K1 hK1 => ?_)
        rw [if_neg (by go_simp; all_goals (intro h; cases h))]
        go_simp
        refine hK1 _ ?_
        clear hK1 K1
        refine wpPre_i rfl (fun K1 hK1 => ?_)
        rw [if_neg (by go_simp; all_goals (intro h; cases h))]
        go_simp
        refine hK1 _ ?_
        clear hK1 K1
        refine wpPre_nil ?_
        refine wpTr_e rfl (fun K1 hK1 => ?_)
        rw [if_neg (by go_simp; all_goals (intro h; cases h))]
        go_simp
        refine hK1 _ _ (fun _ => (Below.refl _ _).drew) ?_
        clear hK1 K1
        refine wpPre_i rfl (fun K1 hK1 => ?_)
        rw [if_neg (by go_simp; all_goals (intro h; cases h))]
        go_simp
        refine hK1 _ ?_
        clear hK1 K1
        refine wpPre_i rfl (fun K1 hK1 => ?_)
        rw [if_neg (by go_simp; all_goals (intro h; cases h))]
        go_simp
        refine hK1 _ ?_
        clear hK1 K1
        refine wpPre_i rfl (fun K1 hK1 => ?_)
        rw [if_pos (by go_simp)]
        apply Exists.intro
        refine And.intro (fun wx hx => ?_) ?_
        · go_simp
          try rfl
        go_simp
        refine hK1 _ ?_
        clear hK1 K1
        refine wpPre_e rfl rfl (fun K1 hK1 => ?_)
        apply Exists.intro
        refine And.intro (fun wx hx => ?_) ?_
        · go_simp
          try rfl
        go_simp
        refine hK1 _ ?_
        clear hK1 K1
        refine wpPre_nil ?_
        refine wpTr_done ?_
        have HS7 := hid (HS6.out.below HJ5.out.inb.lt (Below.refl w6.heap.size w6).drew)
        have HM := hid (HJ5.out.moved HS7.out)
        rw [hPf] at HM
        go_wp2_with fail
        refine HM.out.mono ?_
        rintro e w9 ⟨rfl, hJ9⟩
        have HJ9 := hid hJ9
        have HN9 : Hid (P6.next = P.next) := by unfold Hid Ps.next; rw [HS7.out.f, HS7.out.n]
        have HF9 : Hid (P6.first = A) := HS7.out.f.trans hPf
        have HV9 : Hid (P6.sts.n = P.sts.n) := HS7.out.n
        clear hJ9 HM
        go_wp2
        go_roundw
        case rel => exact ⟨k + 1, P6, L, by omega, by go_num, by first | rw [HN9.out] | rfl, by first | exact HF9.out | exact hPf, HJ9.out⟩
        case measure => simp [intOf]; omega
    have k5' : ((s.item k).kind == 5) = false := by simp [k5]
    have HS5 := hid (StepR.same HJ4.out.i HJ4.out.inb HJ4.out.inv (Below.refl w4.heap.size w4))
    clear k1 k2 k3 k4 k5
    have HM := hid (HJ4.out.moved HS5.out)
    rw [hPf] at HM
    go_wp2_with fail
    refine HM.out.mono ?_
    rintro e w9 ⟨rfl, hJ9⟩
    have HJ9 := hid hJ9
    have HN9 : Hid (P.next = P.next) := by unfold Hid Ps.next; rw [HS5.out.f, HS5.out.n]
    have HF9 : Hid (P.first = A) := HS5.out.f.trans hPf
    have HV9 : Hid (P.sts.n = P.sts.n) := HS5.out.n
    clear hJ9 HM
    go_wp2
    go_roundw
    case rel => exact ⟨k + 1, P, L, by omega, by go_num, by first | rw [HN9.out] | rfl, by first | exact HF9.out | exact hPf, HJ9.out⟩
    case measure => simp [intOf]; omega
end Go.Proofs.Ytldkepokcbjlpaa
