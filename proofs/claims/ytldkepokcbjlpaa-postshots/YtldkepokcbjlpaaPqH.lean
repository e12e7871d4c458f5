import Derived.Test.YtldkepokcbjlpaaPqG
namespace Go.Proofs.Ytldkepokcbjlpaa
open Go.RowKit Go.Conc
set_option maxRecDepth 60000
theorem SJ.start {w0 w : World} {T : Nat} {A sum : Int} {b : Nat} {P : Ps} {num : Nat → Int} (h : RJ w0 w b P [] num (fun _ => False)) (ht : P.tasks = (T : Int)) (hs : P.sum = sum) (hn : P.next = A) (hu : P.under = 0) : SJ w0 (w.alloc (.cells #[.int .i64 0, .slice none 0 0, .int .i64 0, .int .i64 0, .int .i64 A, .int .i64 0] 60)) b w.heap.size w.heap.size P [] num T sum ⟨0, none, 0, 0, 0, 0, A, 0⟩ := by
  have hb : Below w.heap.size w (w.alloc (.cells #[.int .i64 0, .slice none 0 0, .int .i64 0, .int .i64 0, .int .i64 A, .int .i64 0] 60)) := (Below.refl _ _).alloc (Nat.le_refl _) _
  have h1 := h.below hb
  have h2 := h.bel.size
  refine ⟨h1.more (h.un hu).2 (fun k hk => ?_) rfl num, Box.new _ _ _, ht, hs, hu.symm, hn.symm, Int.le_refl _, fun e => absurd hu e⟩
  have hk' : k = w.heap.size := by rcases hk with e | e <;> exact e
  subst hk'
  refine ⟨h2, by simp, fun e => ?_, fun e => ?_⟩
  · have := h.i.lt e; omega
  · have := h.inb.lt; omega
set_option maxHeartbeats 32000000 in
theorem shots_walk (tasks first sum : Int) (s : LT OpP) (w : World) (hin : LT.In elOpP w (fun b => b < w.heap.size) s) : Calls Try.prog 5 #[.int .i64 tasks, .int .i64 first, .int .u32 sum, .slice s.p s.n s.c] w fun e w' => e = .returned (.bool true) ∧ Below w.heap.size w w' := by
  have HI := hid hin
  have hnn := hin.nn
  have HFw := hid (lfew_any s w hin)
  clear hin
  obtain ⟨T, hT⟩ : ∃ T : Nat, fairT tasks = (T : Int) := ⟨(fairT tasks).toNat, by have := fairT_b tasks; omega⟩
  obtain ⟨A, hA⟩ : ∃ A, A = fairF first := ⟨_, rfl⟩
  have hT2 : 1 ≤ T ∧ T ≤ 12 := by have := fairT_b tasks; omega
  have hA2 := fairF_b first
  rw [← hA] at hA2
  go_enter Try.func5, Try.ntmps5
  go_wp2_with fail
  refine HFw.out.mono ?_
  rintro e w1 ⟨r, rfl, hsz, hb1⟩
  have HB1 := hid hb1
  clear HFw hb1 hsz
  rcases r with _ | _
  · go_wp2
    exact bodyPost_ret (v := .bool true) (by simp [results, Try.results5, go_sem]) rfl ⟨rfl, HB1.out⟩
  go_wp2_with fail
  refine (fair_any tasks first w1).mono ?_
  rintro e w2 ⟨rfl, rfl⟩
  rw [hT, ← hA]
  clear hT hA
  go_wp2_with fail
  refine (new_any (T : Int) A sum w2).mono ?_
  rintro e w3 hN
  obtain ⟨rfl, hI3, hc3, hb3⟩ := hN.y (by omega)
  have HJ3 := hid (RJ.new HB1.out hI3 hc3 hb3 (fun _ => 0))
  obtain ⟨bb, hbb⟩ : ∃ x, x = w2.heap.size + 1 := ⟨_, rfl⟩
  obtain ⟨P3, hP3⟩ : ∃ x, x = Ps.new (T : Int) A sum w2.heap.size := ⟨_, rfl⟩
  have HP3 : Hid (P3.tasks = (T : Int) ∧ P3.sum = sum ∧ P3.next = A ∧ P3.under = 0) := by
    unfold Hid
    rw [hP3]
    refine ⟨rfl, rfl, by show A + ((0 : Nat) : Int) = A; omega, ?_⟩
    unfold Ps.under
    rw [if_neg]
    unfold Ps.stat
    rw [if_pos (.inl (by show A + ((0 : Nat) : Int) - 1 < A; omega))]
    omega
  rw [← hP3, ← hbb] at HJ3
  rw [← hbb]
  clear hN hI3 hc3 hb3 hP3 hbb
  have HJ4 := hid (SJ.start (T := T) (A := A) (sum := sum) HJ3.out HP3.out.1 HP3.out.2.1 HP3.out.2.2.1 HP3.out.2.2.2)
  obtain ⟨sb, hsb⟩ : ∃ x, x = w3.heap.size := ⟨_, rfl⟩
  have HSb := hid hsb
  rw [← hsb] at HJ4
  clear hsb HP3 HJ3
  go_wp2_with fail
  rw [← HSb.out]
  clear HSb
  go_loopw [12] (fun x wr => ∃ (k hb : Nat) (P : Ps) (ts : List (Nat × PtT)) (num : Nat → Int) (y : Sy), k ≤ s.n ∧ x = .int .i64 (k : Int) ∧ SJ w wr bb sb hb P ts num T sum y ∧ y.marks ≤ (k : Int)) (fun x _ => s.n - (intOf x).toNat)
  case atStart => exact ⟨0, sb, P3, [], _, _, Nat.zero_le _, rfl, HJ4.out, Int.le_refl _⟩
  case round =>
    clear HJ4
    obtain ⟨k, hb, P, ts, num, y, hk, rfl, hJ, hmk⟩ := hrel
    have HJ := hid hJ
    have hbl := hJ.r.i.box.lt
    have hsl := hJ.box.lt
    have HMk := hid hmk
    clear hJ hmk
    by_cases hlt : k < s.n
    rotate_left
    · have hlt' : ¬ (k : Int) < (s.n : Int) := by omega
      have HTr := hid (trigger_any wr bb P HJ.out.r.i)
      have hT12 := HJ.out.T12
      by_cases u0 : P.under = 0
      · by_cases n9 : 9999 < P.next
        · skip
          have HE : Hid (P.trigE = 142) := by unfold Hid Ps.trigE; rw [if_neg (by rw [u0]; simp), if_pos n9]
          have HA := hid (And.intro u0 n9)
          clear u0 n9
          go_wp2_with fail
          refine HTr.out.mono ?_
          rintro e w5 ⟨P5, hQ⟩
          have hs := hQ.s
          obtain ⟨rfl, rfl⟩ := hQ.n (by rw [HE.out]; omega)
          have HJ5 := hid (HJ.out.stay (hs.qs HJ.out.r.i HJ.out.r.inb rfl rfl))
          rw [HE.out]
          have HSt := hid (strig_over y sb (T : Int) w5 HJ5.out.box (by rw [HJ5.out.id, HA.out.1]; omega) (by rw [HJ5.out.nx]; exact HA.out.2))
          clear hQ hs HTr
          go_wp2_with fail
          refine HSt.out.mono ?_
          rintro e w6 ⟨rfl, rfl⟩
          clear HSt
          go_wp2
          exact bodyPost_ret (v := .bool true) (by simp [results, Try.results5, go_sem]) rfl ⟨rfl, HJ5.out.r.bel⟩
        · skip
          have HE : Hid (P.trigE = 0) := by unfold Hid Ps.trigE; rw [if_neg (by rw [u0]; simp), if_neg n9]
          have HA := hid (And.intro u0 n9)
          have hnx := hid HJ.out.nx
          have hf0 := HJ.out.r.i.f0
          have hnx0 : 0 ≤ y.next := by rw [HJ.out.nx]; unfold Ps.next; omega
          clear u0 n9
          go_wp2_with fail
          refine HTr.out.mono ?_
          rintro e w5 ⟨P5, hQ⟩
          have hs := hQ.s
          obtain ⟨rfl, p5, c5, rfl⟩ := hQ.y HE.out
          have HS := hid hs
          have HSt := hid (strig_yes y sb T hT12.2 w5 (HJ.out.keptP (hs.qs HJ.out.r.i HJ.out.r.inb rfl rfl)).1 (by rw [HJ.out.id, HA.out.1]; omega) (by rw [HJ.out.nx]; have := HA.out.2; omega) hnx0)
          rw [← hnx.out]
          clear hQ hs HTr
          go_wp2_with fail
          refine HSt.out.mono ?_
          rintro e w6 ⟨rfl, hg, M, hM, hMs, hMv⟩
          have HJ6 := hid (HJ.out.trig HS.out HA.out.1 hg hM hMs hMv)
          clear hg hM hMs hMv HSt
          go_wp2
          exact bodyPost_ret (v := .bool true) (by simp [results, Try.results5, go_sem]) rfl ⟨rfl, HJ6.out.r.bel⟩
      · skip
        have HE : Hid (P.trigE = 141) := by unfold Hid Ps.trigE; rw [if_pos u0]
        have hpos : 0 < y.id := by rw [HJ.out.id]; exact Ps.under_pos HJ.out.r.i u0
        clear u0
        go_wp2_with fail
        refine HTr.out.mono ?_
        rintro e w5 ⟨P5, hQ⟩
        have hs := hQ.s
        obtain ⟨rfl, rfl⟩ := hQ.n (by rw [HE.out]; omega)
        have HJ5 := hid (HJ.out.stay (hs.qs HJ.out.r.i HJ.out.r.inb rfl rfl))
        rw [HE.out]
        have HSt := hid (strig_under y sb (T : Int) w5 HJ5.out.box hpos)
        clear hQ hs HTr
        go_wp2_with fail
        refine HSt.out.mono ?_
        rintro e w6 ⟨rfl, rfl⟩
        clear HSt
        go_wp2
        exact bodyPost_ret (v := .bool true) (by simp [results, Try.results5, go_sem]) rfl ⟨rfl, HJ5.out.r.bel⟩
    have hlt' : (k : Int) < (s.n : Int) := by omega
    obtain ⟨gb, o, hp, hSb, hgb, hat⟩ := HI.out.at_ (by omega)
    rw [hp]
    have hcell : ∀ r u, (elOpP.cells (s.item k))[r]? = some u → wr.cell? ⟨gb, o + k * 10 + r, none⟩ = some u := fun r u hu => (World.cell?_of_block (a := ⟨gb, o + k * 10 + r, none⟩) (HJ.out.r.bel.block gb hgb)).trans (hat k hlt r u hu)
    have c0 : wr.cell? ⟨gb, o + k * 10, none⟩ = some (.int .i64 (s.item k).kind) := hcell 0 _ rfl
    have c1 : wr.cell? ⟨gb, o + k * 10 + 1, none⟩ = some (.bool (s.item k).snd) := hcell 1 _ rfl
    have c2 : wr.cell? ⟨gb, o + k * 10 + 2, none⟩ = some (.bool (s.item k).abs) := hcell 2 _ rfl
    have c3 : wr.cell? ⟨gb, o + k * 10 + 3, none⟩ = some (.int .i64 (s.item k).id) := hcell 3 _ rfl
    have c4 : wr.cell? ⟨gb, o + k * 10 + 4, none⟩ = some (.int .i64 (s.item k).task) := hcell 4 _ rfl
    have c5 : wr.cell? ⟨gb, o + k * 10 + 5, none⟩ = some (.int .i64 (s.item k).pt.num) := hcell 5 _ rfl
    have c6 : wr.cell? ⟨gb, o + k * 10 + 6, none⟩ = some (.slice (s.item k).pt.cl.p (s.item k).pt.cl.n (s.item k).pt.cl.c) := hcell 6 _ rfl
    have c7 : wr.cell? ⟨gb, o + k * 10 + 7, none⟩ = some (.slice (s.item k).pt.lg.p (s.item k).pt.lg.n (s.item k).pt.lg.c) := hcell 7 _ rfl
    have c8 : wr.cell? ⟨gb, o + k * 10 + 8, none⟩ = some (.slice (s.item k).pt.pd.p (s.item k).pt.pd.n (s.item k).pt.pd.c) := hcell 8 _ rfl
    have c9 : wr.cell? ⟨gb, o + k * 10 + 9, none⟩ = some (.bool (s.item k).ok) := hcell 9 _ rfl
    clear hcell hat
    have HSt := hid (step_any (s.item k) y sb hb T sum P ts num w wr bb HJ.out (by have := HMk.out; omega))
    go_wp2_with fail
    refine HSt.out.mono ?_
    rintro e w5 ⟨hb5, P5, ts5, num5, y5, rfl, hJ5, hm5⟩
    have HJ5 := hid hJ5
    have HM5 : Hid (y5.marks ≤ ((k + 1 : Nat) : Int)) := by unfold Hid; have := HMk.out; omega
    have HOp := hid (open_any w5 bb P5 hJ5.r.i)
    clear hJ5 hm5 HSt HJ HMk hbl hsl c0 c1 c2 c3 c4 c5 c6 c7 c8 c9
    clear y num ts P hb
    go_wp2_with fail
    refine HOp.out.mono ?_
    rintro e w6 ⟨p6, c6, N6, hN6, rfl, hq6⟩
    have HJ6 := hid (HJ5.out.below hq6.bel)
    have c0 := HJ6.out.box.cell 0
    have c3 := HJ6.out.box.cell 3
    have sl := HJ6.out.box.lt
    simp [Sy.arr] at c0 c3
    rw [HJ6.out.id] at c0
    clear hq6 HOp HJ5
    by_cases u0 : P5.under = 0
    · rw [if_pos u0] at hN6
      subst hN6
      rw [u0] at c0
      rw [u0]
      clear u0
      go_wp2
      go_roundw
      case rel => exact ⟨k + 1, hb5, P5, ts5, num5, y5, by omega, by go_num, HJ6.out, HM5.out⟩
      case measure => simp [intOf]; omega
    · rw [if_neg u0] at hN6
      subst hN6
      obtain ⟨M, hM⟩ := HJ6.out.on u0
      have hpk := hM.picked
      have hup := Ps.under_pos HJ6.out.r.i u0
      have hu0 : (P5.under == 0) = false := by simp [u0]
      have hwl : P5.wants.length ≤ P5.tasks.toNat := P5.wantsU_len P5.tasks.toNat
      have ht5 := HJ6.out.t
      have hwp : IntKind.i64.wrap ((T : Int) - y5.picked) = (T : Int) - y5.picked := by rw [IntKind.wrap_i64]; omega
      have hne : ((P5.wants.length : Int) != (T : Int) - y5.picked) = false := by rw [bne_eq_false_iff_eq]; omega
      clear u0 hM hpk hwl ht5
      go_wp2
      go_roundw
      case rel => exact ⟨k + 1, hb5, P5, ts5, num5, y5, by omega, by go_num, HJ6.out, HM5.out⟩
      case measure => simp [intOf]; omega
end Go.Proofs.Ytldkepokcbjlpaa
