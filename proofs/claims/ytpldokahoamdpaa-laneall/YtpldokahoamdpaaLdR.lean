import Derived.Test.YtpldokahoamdpaaLdQ
namespace Go.Proofs.Ytpldokahoamdpaa
open Go.RowKit Go.Conc
set_option maxRecDepth 8000
theorem AB.start {w w1 : World} (h : Below w.heap.size w w1) : AB w w1 .no .no 0 := ⟨trivial, trivial, fun _ e => e.elim, fun _ e => e.elim, h, Nat.le_refl _, Nat.le_refl _⟩
/-- two new lanes beside a side that is there -/
theorem AB.add {w w0 w1 w2 : World} {A : Sd} {room : Int} {b ch cap : Nat} (h : AB w w0 A .no 0) (hl : LnI w1 A.C b ⟨room, none, ch, cap, []⟩) (hB1 : Below w0.heap.size w0 w1) (hb : w0.heap.size ≤ b) (hc : w0.heap.size ≤ ch) (hB2 : Below w1.heap.size w1 w2) (hr : RfI w2 (fun k => k < w1.heap.size) w1.heap.size ⟨room, false, ⟨none, 0, 0, fun _ => ⟨0, rz⟩⟩⟩) : AB w w2 A (.yes b w1.heap.size (.op ⟨room, none, ch, cap, []⟩ ⟨room, false, ⟨none, 0, 0, fun _ => ⟨0, rz⟩⟩⟩)) 0 := by
  have h0 := h.bel.size
  have h1 := hB1.size
  have hC : ∀ k, Sd.C (.yes b w1.heap.size (.op ⟨room, none, ch, cap, []⟩ ⟨room, false, ⟨none, 0, 0, fun _ => ⟨0, rz⟩⟩⟩)) k → w0.heap.size ≤ k := fun k hk => by
    rcases hk with e | e
    · rcases e with e | e | e
      · omega
      · have e' : k = ch := e; omega
      · cases e
    · rcases e with e | e
      · omega
      · cases e
  have hB : Below w0.heap.size w0 w2 := hB1.trans (hB2.mono h1)
  refine ⟨Sd.below (Sd.z h.a fun k hk hz => by have := hC k hz; omega) hB, ⟨?_, ?_, rfl, rfl, .nil⟩, h.la, fun k hk => Nat.le_trans h0 (hC k hk), h.bel.trans (hB.mono h0), h.na, Nat.le_refl _⟩
  · have h2 : LnI w1 (fun k => A.C k ∨ w1.heap.size ≤ k) b ⟨room, none, ch, cap, []⟩ := hl.z fun k hk hz => by
      rcases hz with e | e
      · exact e
      · omega
    refine (h2.below hB2).z fun k hk hz => ?_
    rcases hz with e | e
    · exact .inl e
    · rcases e with e | e
      · exact .inr (by omega)
      · cases e
  · exact hr.z fun k hk hz => by
      rcases hz with e | e
      · have := Sd.c_lt h.a e; show k < w1.heap.size; omega
      · exact hl.c_lt e
set_option maxRecDepth 60000 in
set_option maxHeartbeats 16000000 in
/-- LaneAll -/
theorem laneAll_of (hplay : PlaysOK) (first second : Int) (s : LT OpL) (w : World) (hin : LT.In elOpL w (fun b => b < w.heap.size) s) : Calls Try.prog 6 #[.int .i64 first, .int .i64 second, .slice s.p s.n s.c] w fun e w' => e = .returned (.bool true) ∧ Below w.heap.size w w' := by
  have HI := hid hin
  have HFw := hid (lfew_any s w hin)
  have hnn := hin.nn
  clear hin
  go_enter Try.func6, Try.ntmps6
  go_wp2_with fail
  refine HFw.out.mono ?_
  rintro e w1 ⟨r, rfl, hr, hB1⟩
  have HB1 := hid hB1
  cases r with
  | false =>
    clear hr hB1
    go_wp2
    exact bodyPost_ret (v := .bool true) (by simp [results, Try.results6, go_sem]) rfl ⟨rfl, HB1.out⟩
  | true =>
  have hsum := hr rfl
  have HSum := hid hsum
  clear hr hB1 hsum HFw
  by_cases hg1 : first < 0 ∨ 8 < first
  · by_cases hg2 : second < 0 ∨ 8 < second
    · have HG1 := hid hg1
      have HG2 := hid hg2
      clear hg1 hg2
      have HAB10 := hid (AB.start HB1.out)
      have HNw1 := hid (lnew_any first w1 (fun _ => False) (fun _ h => h.elim))
      go_wp2_with fail
      refine HNw1.out.mono ?_
      rintro e w2 ⟨hN, _⟩
      obtain ⟨rfl, hw⟩ := hN HG1.out
      subst w2
      have HRn1 := hid (rnew_bad first w1 HG1.out)
      clear hN HNw1
      go_wp2_with fail
      refine HRn1.out.mono ?_
      rintro e w3 ⟨rfl, hw⟩
      subst w3
      have HAB1 := HAB10
      clear HRn1
      have HAB20 := HAB1
      clear HAB10 HAB1
      have HNw2 := hid (lnew_any second w1 (fun _ => False) (fun _ h => h.elim))
      go_wp2_with fail
      refine HNw2.out.mono ?_
      rintro e w4 ⟨hN, _⟩
      obtain ⟨rfl, hw⟩ := hN HG2.out
      subst w4
      have HRn2 := hid (rnew_bad second w1 HG2.out)
      clear hN HNw2
      go_wp2_with fail
      refine HRn2.out.mono ?_
      rintro e w5 ⟨rfl, hw⟩
      subst w5
      have HAB2 := HAB20
      clear HRn2
      have HF := HAB2
      clear HAB20 HAB2
      go_wp2_with fail
      go_loopw [15] (fun x wr => ∃ (i : Nat), i ≤ s.n ∧ x = .int .i64 (i : Int) ∧ AB w wr .no .no (s.sumL i)) (fun x _ => s.n - (intOf x).toNat)
      case atStart => exact ⟨0, Nat.zero_le _, rfl, HF.out⟩
      case round =>
        obtain ⟨i, hi, rfl, hAB⟩ := hrel
        have HAB := hid hAB
        clear hAB HF
        by_cases hlt : i < s.n
        · have hlt' : (i : Int) < (s.n : Int) := by omega
          obtain ⟨bb, o, hp, hSb, hbb, hat⟩ := HI.out.at_ (by omega)
          rw [hp]
          have hcell : ∀ r u, (elOpL.cells (s.item i))[r]? = some u → wr.cell? ⟨bb, o + i * 4 + r, none⟩ = some u := fun r u hu => (World.cell?_of_block (a := ⟨bb, o + i * 4 + r, none⟩) (HAB.out.bel.block bb hbb)).trans (hat i hlt r u hu)
          have HC1 : Hid (∀ V, Below w.heap.size w V → V.cell? ⟨bb, o + i * 4 + 1, none⟩ = some (.bool (s.item i).sec)) := fun V hV => (World.cell?_of_block (a := ⟨bb, o + i * 4 + 1, none⟩) (hV.block bb hbb)).trans (hat i hlt 1 _ rfl)
          have c0 : wr.cell? ⟨bb, o + i * 4, none⟩ = some (.int .i64 (s.item i).kind) := hcell 0 _ rfl
          have c1 := hcell 1 _ rfl
          have c2 := hcell 2 _ rfl
          have c3 := hcell 3 _ rfl
          have hoi : OpL.In wr (fun j => j < w.heap.size) (s.item i) := elOpL.kept (HI.out.each i hlt) HAB.out.bel.size fun j hj hl => HAB.out.bel.block j hj
          have hsu := s.sumL_mono (show i + 1 ≤ s.n from hlt)
          rw [LT.sumL_succ] at hsu
          have hS0 := HSum.out
          have hti : (s.item i).its.n + (s.item i).rcs.n ≤ (s.item i).tot := by
            have := (s.item i).its.sumI_le (s.item i).its.n
            have := (s.item i).rcs.sumR_le (s.item i).rcs.n
            unfold OpL.tot
            omega
          have hts : (s.item i).its.sumI (s.item i).its.n ≤ (s.item i).tot := by unfold OpL.tot; omega
          have htr : (s.item i).rcs.sumR (s.item i).rcs.n ≤ (s.item i).tot := by unfold OpL.tot; omega
          cases hsec : (s.item i).sec with
          | true =>
            rw [hsec] at c1
            have HQ : Hid (AB w wr .no .no (s.sumL (i + 1))) := by
              rw [LT.sumL_succ]
              exact HAB.out.more (by omega)
            clear hcell hat hoi hsu hts htr hti c0 c2 c3
            go_wp2
            go_roundw
            case rel => exact ⟨i + 1, by omega, by go_num, HQ.out⟩
            case measure => simp [intOf]; omega
          | false =>
            rw [hsec] at c1
            have HQ : Hid (AB w wr .no .no (s.sumL (i + 1))) := by
              rw [LT.sumL_succ]
              exact HAB.out.more (by omega)
            clear hcell hat hoi hsu hts htr hti c0 c2 c3
            go_wp2
            go_roundw
            case rel => exact ⟨i + 1, by omega, by go_num, HQ.out⟩
            case measure => simp [intOf]; omega
        · obtain rfl : i = s.n := by omega
          go_wp2
          exact bodyPost_ret (v := .bool true) (by simp [results, Try.results6, go_sem]) rfl ⟨rfl, HAB.out.bel⟩
    · have HG1 := hid hg1
      have HG2 := hid hg2
      clear hg1 hg2
      have HAB10 := hid (AB.start HB1.out)
      have HNw1 := hid (lnew_any first w1 (fun _ => False) (fun _ h => h.elim))
      go_wp2_with fail
      refine HNw1.out.mono ?_
      rintro e w2 ⟨hN, _⟩
      obtain ⟨rfl, hw⟩ := hN HG1.out
      subst w2
      have HRn1 := hid (rnew_bad first w1 HG1.out)
      clear hN HNw1
      go_wp2_with fail
      refine HRn1.out.mono ?_
      rintro e w3 ⟨rfl, hw⟩
      subst w3
      have HAB1 := HAB10
      clear HRn1
      have HAB20 := HAB1
      clear HAB10 HAB1
      have HNw2 := hid (lnew_any second w1 (.no : Sd).C (fun k hk => Sd.c_lt HAB20.out.a hk))
      go_wp2_with fail
      refine HNw2.out.mono ?_
      rintro e w4 ⟨_, hN⟩
      obtain ⟨rfl, hL2, hBl2⟩ := hN HG2.out
      have HRn2 := hid (rnew_ok second w4 (by have := HG2.out; omega) (by have := HG2.out; omega) (fun k => k < w4.heap.size) (fun k hk => hk))
      clear hN HNw2
      have HL2 := hid hL2
      have HBl2 := hid hBl2
      clear hL2 hBl2
      go_wp2_with fail
      refine HRn2.out.mono ?_
      rintro e w5 ⟨rfl, hR2, hBr2⟩
      have HAB2 := hid (AB.add HAB20.out HL2.out HBl2.out (by omega) (by omega) hBr2 hR2)
      clear hR2 hBr2 HRn2 HL2 HBl2
      have HF := HAB2
      clear HAB20 HAB2
      go_wp2_with fail
      go_loopw [15] (fun x wr => ∃ (i : Nat) (s2 : Pq), i ≤ s.n ∧ x = .int .i64 (i : Int) ∧ AB w wr .no (.yes (w1.heap.size + 1) w4.heap.size s2) (s.sumL i)) (fun x _ => s.n - (intOf x).toNat)
      case atStart => exact ⟨0, _, Nat.zero_le _, rfl, HF.out⟩
      case round =>
        obtain ⟨i, s2, hi, rfl, hAB⟩ := hrel
        have HAB := hid hAB
        clear hAB HF
        by_cases hlt : i < s.n
        · have hlt' : (i : Int) < (s.n : Int) := by omega
          obtain ⟨bb, o, hp, hSb, hbb, hat⟩ := HI.out.at_ (by omega)
          rw [hp]
          have hcell : ∀ r u, (elOpL.cells (s.item i))[r]? = some u → wr.cell? ⟨bb, o + i * 4 + r, none⟩ = some u := fun r u hu => (World.cell?_of_block (a := ⟨bb, o + i * 4 + r, none⟩) (HAB.out.bel.block bb hbb)).trans (hat i hlt r u hu)
          have HC1 : Hid (∀ V, Below w.heap.size w V → V.cell? ⟨bb, o + i * 4 + 1, none⟩ = some (.bool (s.item i).sec)) := fun V hV => (World.cell?_of_block (a := ⟨bb, o + i * 4 + 1, none⟩) (hV.block bb hbb)).trans (hat i hlt 1 _ rfl)
          have c0 : wr.cell? ⟨bb, o + i * 4, none⟩ = some (.int .i64 (s.item i).kind) := hcell 0 _ rfl
          have c1 := hcell 1 _ rfl
          have c2 := hcell 2 _ rfl
          have c3 := hcell 3 _ rfl
          have hoi : OpL.In wr (fun j => j < w.heap.size) (s.item i) := elOpL.kept (HI.out.each i hlt) HAB.out.bel.size fun j hj hl => HAB.out.bel.block j hj
          have hsu := s.sumL_mono (show i + 1 ≤ s.n from hlt)
          rw [LT.sumL_succ] at hsu
          have hS0 := HSum.out
          have hti : (s.item i).its.n + (s.item i).rcs.n ≤ (s.item i).tot := by
            have := (s.item i).its.sumI_le (s.item i).its.n
            have := (s.item i).rcs.sumR_le (s.item i).rcs.n
            unfold OpL.tot
            omega
          have hts : (s.item i).its.sumI (s.item i).its.n ≤ (s.item i).tot := by unfold OpL.tot; omega
          have htr : (s.item i).rcs.sumR (s.item i).rcs.n ≤ (s.item i).tot := by unfold OpL.tot; omega
          cases hsec : (s.item i).sec with
          | true =>
            rw [hsec] at c1
            have HPl := hid (hplay wr (.no : Sd).C (w1.heap.size + 1) w4.heap.size s2 (HAB.out.swap).a (fun k hk => Sd.c_lt (HAB.out.swap).b hk) (s.item i) (fun k => k < w.heap.size) hoi (fun k _ hs e => by have := (HAB.out.swap).la k e; omega) (by omega) (by omega) (by have h7 : s2.len ≤ s.sumL i := (HAB.out.swap).na; omega))
            rw [hsec] at HPl
            have HTi := hid (show (s.item i).its.n + (s.item i).rcs.n ≤ (s.item i).tot from hti)
            clear hcell hat hoi hsu hts htr hti
            go_wp2_with fail
            refine HPl.out.mono ?_
            rintro e w9 ⟨rfl, s', hS, hl⟩
            have HQ : Hid (AB w w9 .no (.yes (w1.heap.size + 1) w4.heap.size s') (s.sumL (i + 1))) := by
              rw [LT.sumL_succ]
              exact ((AB.play HAB.out.swap hS hl).swap).more (by have := HTi.out; omega)
            have c1 : w9.cell? ⟨bb, o + i * 4 + 1, none⟩ = some (.bool (s.item i).sec) := HC1.out w9 HQ.out.bel
            rw [hsec] at c1
            clear hS hl HPl HTi
            go_wp2
            go_roundw
            case rel => exact ⟨i + 1, s', by omega, by go_num, HQ.out⟩
            case measure => simp [intOf]; omega
          | false =>
            rw [hsec] at c1
            have HQ : Hid (AB w wr .no (.yes (w1.heap.size + 1) w4.heap.size s2) (s.sumL (i + 1))) := by
              rw [LT.sumL_succ]
              exact HAB.out.more (by omega)
            clear hcell hat hoi hsu hts htr hti c0 c2 c3
            go_wp2
            go_roundw
            case rel => exact ⟨i + 1, s2, by omega, by go_num, HQ.out⟩
            case measure => simp [intOf]; omega
        · obtain rfl : i = s.n := by omega
          go_wp2
          exact bodyPost_ret (v := .bool true) (by simp [results, Try.results6, go_sem]) rfl ⟨rfl, HAB.out.bel⟩
  · by_cases hg2 : second < 0 ∨ 8 < second
    · have HG1 := hid hg1
      have HG2 := hid hg2
      clear hg1 hg2
      have HAB10 := hid (AB.start HB1.out)
      have HNw1 := hid (lnew_any first w1 (.no : Sd).C (fun k hk => Sd.c_lt HAB10.out.a hk))
      go_wp2_with fail
      refine HNw1.out.mono ?_
      rintro e w2 ⟨_, hN⟩
      obtain ⟨rfl, hL1, hBl1⟩ := hN HG1.out
      have HRn1 := hid (rnew_ok first w2 (by have := HG1.out; omega) (by have := HG1.out; omega) (fun k => k < w2.heap.size) (fun k hk => hk))
      clear hN HNw1
      have HL1 := hid hL1
      have HBl1 := hid hBl1
      clear hL1 hBl1
      go_wp2_with fail
      refine HRn1.out.mono ?_
      rintro e w3 ⟨rfl, hR1, hBr1⟩
      have HAB1 := hid (AB.add HAB10.out HL1.out HBl1.out (by omega) (by omega) hBr1 hR1)
      clear hR1 hBr1 HRn1 HL1 HBl1
      have HAB20 := hid HAB1.out.swap
      clear HAB10 HAB1
      have HNw2 := hid (lnew_any second w3 (fun _ => False) (fun _ h => h.elim))
      go_wp2_with fail
      refine HNw2.out.mono ?_
      rintro e w4 ⟨hN, _⟩
      obtain ⟨rfl, hw⟩ := hN HG2.out
      subst w4
      have HRn2 := hid (rnew_bad second w3 HG2.out)
      clear hN HNw2
      go_wp2_with fail
      refine HRn2.out.mono ?_
      rintro e w5 ⟨rfl, hw⟩
      subst w5
      have HAB2 := HAB20
      clear HRn2
      have HF := HAB2
      clear HAB20 HAB2
      go_wp2_with fail
      go_loopw [15] (fun x wr => ∃ (i : Nat) (s1 : Pq), i ≤ s.n ∧ x = .int .i64 (i : Int) ∧ AB w wr (.yes (w1.heap.size + 1) w2.heap.size s1) .no (s.sumL i)) (fun x _ => s.n - (intOf x).toNat)
      case atStart => exact ⟨0, _, Nat.zero_le _, rfl, HF.out⟩
      case round =>
        obtain ⟨i, s1, hi, rfl, hAB⟩ := hrel
        have HAB := hid hAB
        clear hAB HF
        by_cases hlt : i < s.n
        · have hlt' : (i : Int) < (s.n : Int) := by omega
          obtain ⟨bb, o, hp, hSb, hbb, hat⟩ := HI.out.at_ (by omega)
          rw [hp]
          have hcell : ∀ r u, (elOpL.cells (s.item i))[r]? = some u → wr.cell? ⟨bb, o + i * 4 + r, none⟩ = some u := fun r u hu => (World.cell?_of_block (a := ⟨bb, o + i * 4 + r, none⟩) (HAB.out.bel.block bb hbb)).trans (hat i hlt r u hu)
          have HC1 : Hid (∀ V, Below w.heap.size w V → V.cell? ⟨bb, o + i * 4 + 1, none⟩ = some (.bool (s.item i).sec)) := fun V hV => (World.cell?_of_block (a := ⟨bb, o + i * 4 + 1, none⟩) (hV.block bb hbb)).trans (hat i hlt 1 _ rfl)
          have c0 : wr.cell? ⟨bb, o + i * 4, none⟩ = some (.int .i64 (s.item i).kind) := hcell 0 _ rfl
          have c1 := hcell 1 _ rfl
          have c2 := hcell 2 _ rfl
          have c3 := hcell 3 _ rfl
          have hoi : OpL.In wr (fun j => j < w.heap.size) (s.item i) := elOpL.kept (HI.out.each i hlt) HAB.out.bel.size fun j hj hl => HAB.out.bel.block j hj
          have hsu := s.sumL_mono (show i + 1 ≤ s.n from hlt)
          rw [LT.sumL_succ] at hsu
          have hS0 := HSum.out
          have hti : (s.item i).its.n + (s.item i).rcs.n ≤ (s.item i).tot := by
            have := (s.item i).its.sumI_le (s.item i).its.n
            have := (s.item i).rcs.sumR_le (s.item i).rcs.n
            unfold OpL.tot
            omega
          have hts : (s.item i).its.sumI (s.item i).its.n ≤ (s.item i).tot := by unfold OpL.tot; omega
          have htr : (s.item i).rcs.sumR (s.item i).rcs.n ≤ (s.item i).tot := by unfold OpL.tot; omega
          cases hsec : (s.item i).sec with
          | true =>
            rw [hsec] at c1
            have HQ : Hid (AB w wr (.yes (w1.heap.size + 1) w2.heap.size s1) .no (s.sumL (i + 1))) := by
              rw [LT.sumL_succ]
              exact HAB.out.more (by omega)
            clear hcell hat hoi hsu hts htr hti c0 c2 c3
            go_wp2
            go_roundw
            case rel => exact ⟨i + 1, s1, by omega, by go_num, HQ.out⟩
            case measure => simp [intOf]; omega
          | false =>
            rw [hsec] at c1
            have HPl := hid (hplay wr (.no : Sd).C (w1.heap.size + 1) w2.heap.size s1 (HAB.out).a (fun k hk => Sd.c_lt (HAB.out).b hk) (s.item i) (fun k => k < w.heap.size) hoi (fun k _ hs e => by have := (HAB.out).la k e; omega) (by omega) (by omega) (by have h7 : s1.len ≤ s.sumL i := (HAB.out).na; omega))
            rw [hsec] at HPl
            have HTi := hid (show (s.item i).its.n + (s.item i).rcs.n ≤ (s.item i).tot from hti)
            clear hcell hat hoi hsu hts htr hti
            go_wp2_with fail
            refine HPl.out.mono ?_
            rintro e w9 ⟨rfl, s', hS, hl⟩
            have HQ : Hid (AB w w9 (.yes (w1.heap.size + 1) w2.heap.size s') .no (s.sumL (i + 1))) := by
              rw [LT.sumL_succ]
              exact (AB.play HAB.out hS hl).more (by have := HTi.out; omega)
            have c1 : w9.cell? ⟨bb, o + i * 4 + 1, none⟩ = some (.bool (s.item i).sec) := HC1.out w9 HQ.out.bel
            rw [hsec] at c1
            clear hS hl HPl HTi
            go_wp2
            go_roundw
            case rel => exact ⟨i + 1, s', by omega, by go_num, HQ.out⟩
            case measure => simp [intOf]; omega
        · obtain rfl : i = s.n := by omega
          go_wp2
          exact bodyPost_ret (v := .bool true) (by simp [results, Try.results6, go_sem]) rfl ⟨rfl, HAB.out.bel⟩
    · have HG1 := hid hg1
      have HG2 := hid hg2
      clear hg1 hg2
      have HAB10 := hid (AB.start HB1.out)
      have HNw1 := hid (lnew_any first w1 (.no : Sd).C (fun k hk => Sd.c_lt HAB10.out.a hk))
      go_wp2_with fail
      refine HNw1.out.mono ?_
      rintro e w2 ⟨_, hN⟩
      obtain ⟨rfl, hL1, hBl1⟩ := hN HG1.out
      have HRn1 := hid (rnew_ok first w2 (by have := HG1.out; omega) (by have := HG1.out; omega) (fun k => k < w2.heap.size) (fun k hk => hk))
      clear hN HNw1
      have HL1 := hid hL1
      have HBl1 := hid hBl1
      clear hL1 hBl1
      go_wp2_with fail
      refine HRn1.out.mono ?_
      rintro e w3 ⟨rfl, hR1, hBr1⟩
      have HAB1 := hid (AB.add HAB10.out HL1.out HBl1.out (by omega) (by omega) hBr1 hR1)
      clear hR1 hBr1 HRn1 HL1 HBl1
      have HAB20 := hid HAB1.out.swap
      clear HAB10 HAB1
      have HNw2 := hid (lnew_any second w3 (.yes (w1.heap.size + 1) w2.heap.size (.op ⟨first, none, w1.heap.size, first.toNat, []⟩ ⟨first, false, ⟨none, 0, 0, fun _ => ⟨0, rz⟩⟩⟩) : Sd).C (fun k hk => Sd.c_lt HAB20.out.a hk))
      go_wp2_with fail
      refine HNw2.out.mono ?_
      rintro e w4 ⟨_, hN⟩
      obtain ⟨rfl, hL2, hBl2⟩ := hN HG2.out
      have HRn2 := hid (rnew_ok second w4 (by have := HG2.out; omega) (by have := HG2.out; omega) (fun k => k < w4.heap.size) (fun k hk => hk))
      clear hN HNw2
      have HL2 := hid hL2
      have HBl2 := hid hBl2
      clear hL2 hBl2
      go_wp2_with fail
      refine HRn2.out.mono ?_
      rintro e w5 ⟨rfl, hR2, hBr2⟩
      have HAB2 := hid (AB.add HAB20.out HL2.out HBl2.out (by omega) (by omega) hBr2 hR2)
      clear hR2 hBr2 HRn2 HL2 HBl2
      have HF := HAB2
      clear HAB20 HAB2
      go_wp2_with fail
      go_loopw [15] (fun x wr => ∃ (i : Nat) (s1 s2 : Pq), i ≤ s.n ∧ x = .int .i64 (i : Int) ∧ AB w wr (.yes (w1.heap.size + 1) w2.heap.size s1) (.yes (w3.heap.size + 1) w4.heap.size s2) (s.sumL i)) (fun x _ => s.n - (intOf x).toNat)
      case atStart => exact ⟨0, _, _, Nat.zero_le _, rfl, HF.out⟩
      case round =>
        obtain ⟨i, s1, s2, hi, rfl, hAB⟩ := hrel
        have HAB := hid hAB
        clear hAB HF
        by_cases hlt : i < s.n
        · have hlt' : (i : Int) < (s.n : Int) := by omega
          obtain ⟨bb, o, hp, hSb, hbb, hat⟩ := HI.out.at_ (by omega)
          rw [hp]
          have hcell : ∀ r u, (elOpL.cells (s.item i))[r]? = some u → wr.cell? ⟨bb, o + i * 4 + r, none⟩ = some u := fun r u hu => (World.cell?_of_block (a := ⟨bb, o + i * 4 + r, none⟩) (HAB.out.bel.block bb hbb)).trans (hat i hlt r u hu)
          have HC1 : Hid (∀ V, Below w.heap.size w V → V.cell? ⟨bb, o + i * 4 + 1, none⟩ = some (.bool (s.item i).sec)) := fun V hV => (World.cell?_of_block (a := ⟨bb, o + i * 4 + 1, none⟩) (hV.block bb hbb)).trans (hat i hlt 1 _ rfl)
          have c0 : wr.cell? ⟨bb, o + i * 4, none⟩ = some (.int .i64 (s.item i).kind) := hcell 0 _ rfl
          have c1 := hcell 1 _ rfl
          have c2 := hcell 2 _ rfl
          have c3 := hcell 3 _ rfl
          have hoi : OpL.In wr (fun j => j < w.heap.size) (s.item i) := elOpL.kept (HI.out.each i hlt) HAB.out.bel.size fun j hj hl => HAB.out.bel.block j hj
          have hsu := s.sumL_mono (show i + 1 ≤ s.n from hlt)
          rw [LT.sumL_succ] at hsu
          have hS0 := HSum.out
          have hti : (s.item i).its.n + (s.item i).rcs.n ≤ (s.item i).tot := by
            have := (s.item i).its.sumI_le (s.item i).its.n
            have := (s.item i).rcs.sumR_le (s.item i).rcs.n
            unfold OpL.tot
            omega
          have hts : (s.item i).its.sumI (s.item i).its.n ≤ (s.item i).tot := by unfold OpL.tot; omega
          have htr : (s.item i).rcs.sumR (s.item i).rcs.n ≤ (s.item i).tot := by unfold OpL.tot; omega
          cases hsec : (s.item i).sec with
          | true =>
            rw [hsec] at c1
            have HPl := hid (hplay wr ((.yes (w1.heap.size + 1) w2.heap.size s1) : Sd).C (w3.heap.size + 1) w4.heap.size s2 (HAB.out.swap).a (fun k hk => Sd.c_lt (HAB.out.swap).b hk) (s.item i) (fun k => k < w.heap.size) hoi (fun k _ hs e => by have := (HAB.out.swap).la k e; omega) (by omega) (by omega) (by have h7 : s2.len ≤ s.sumL i := (HAB.out.swap).na; omega))
            rw [hsec] at HPl
            have HTi := hid (show (s.item i).its.n + (s.item i).rcs.n ≤ (s.item i).tot from hti)
            clear hcell hat hoi hsu hts htr hti
            go_wp2_with fail
            refine HPl.out.mono ?_
            rintro e w9 ⟨rfl, s', hS, hl⟩
            have HQ : Hid (AB w w9 (.yes (w1.heap.size + 1) w2.heap.size s1) (.yes (w3.heap.size + 1) w4.heap.size s') (s.sumL (i + 1))) := by
              rw [LT.sumL_succ]
              exact ((AB.play HAB.out.swap hS hl).swap).more (by have := HTi.out; omega)
            have c1 : w9.cell? ⟨bb, o + i * 4 + 1, none⟩ = some (.bool (s.item i).sec) := HC1.out w9 HQ.out.bel
            rw [hsec] at c1
            clear hS hl HPl HTi
            go_wp2
            go_roundw
            case rel => exact ⟨i + 1, s1, s', by omega, by go_num, HQ.out⟩
            case measure => simp [intOf]; omega
          | false =>
            rw [hsec] at c1
            have HPl := hid (hplay wr ((.yes (w3.heap.size + 1) w4.heap.size s2) : Sd).C (w1.heap.size + 1) w2.heap.size s1 (HAB.out).a (fun k hk => Sd.c_lt (HAB.out).b hk) (s.item i) (fun k => k < w.heap.size) hoi (fun k _ hs e => by have := (HAB.out).la k e; omega) (by omega) (by omega) (by have h7 : s1.len ≤ s.sumL i := (HAB.out).na; omega))
            rw [hsec] at HPl
            have HTi := hid (show (s.item i).its.n + (s.item i).rcs.n ≤ (s.item i).tot from hti)
            clear hcell hat hoi hsu hts htr hti
            go_wp2_with fail
            refine HPl.out.mono ?_
            rintro e w9 ⟨rfl, s', hS, hl⟩
            have HQ : Hid (AB w w9 (.yes (w1.heap.size + 1) w2.heap.size s') (.yes (w3.heap.size + 1) w4.heap.size s2) (s.sumL (i + 1))) := by
              rw [LT.sumL_succ]
              exact (AB.play HAB.out hS hl).more (by have := HTi.out; omega)
            have c1 : w9.cell? ⟨bb, o + i * 4 + 1, none⟩ = some (.bool (s.item i).sec) := HC1.out w9 HQ.out.bel
            rw [hsec] at c1
            clear hS hl HPl HTi
            go_wp2
            go_roundw
            case rel => exact ⟨i + 1, s', s2, by omega, by go_num, HQ.out⟩
            case measure => simp [intOf]; omega
        · obtain rfl : i = s.n := by omega
          go_wp2
          exact bodyPost_ret (v := .bool true) (by simp [results, Try.results6, go_sem]) rfl ⟨rfl, HAB.out.bel⟩
end Go.Proofs.Ytpldokahoamdpaa
