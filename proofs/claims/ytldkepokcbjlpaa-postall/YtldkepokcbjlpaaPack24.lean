import Derived.Test.YtldkepokcbjlpaaPack23
namespace Go.Proofs.Ytldkepokcbjlpaa
open Go.RowKit Go.Conc
set_option maxRecDepth 8000
theorem szAdd_all (w : World) (b : Nat) (l : Int) (n : Nat) (hb : Box w b #[.int .i64 l] 113) (hl : -1000000000000000 ≤ l) (hl2 : l ≤ 10000) (hn : n ≤ 140737488355328) :
    Calls Try.prog 63 #[.pointer (some ⟨b, 0, none⟩), .int .i64 (n : Int)] w fun e w' => ∃ r m, e = .returned (.bool r) ∧ Box w' b #[.int .i64 m] 113 ∧ Told l m n ∧ But (fun k => k = b) w w' := by
  by_cases h : 0 ≤ l
  · refine (szAdd_pos w b l (n : Int) hb h hl2 (by omega) (by omega)).mono ?_
    rintro e w' ⟨rfl, h1, h2⟩
    exact ⟨_, _, rfl, h1, ⟨fun _ => ⟨h, rfl⟩, by omega, by omega⟩, h2⟩
  · refine (szAdd_neg w b l (n : Int) hb (by omega)).mono ?_
    rintro e w' ⟨rfl, rfl⟩
    exact ⟨_, _, rfl, hb, Told.neg _ (by omega) hl, But.refl _ _⟩
def LT.sumL (l : LT (LT RT)) (i : Nat) : Nat := ((List.range i).map fun j => (l.item j).sumR (l.item j).n).sum
theorem LT.sumL_succ (l : LT (LT RT)) (i : Nat) : l.sumL (i + 1) = l.sumL i + (l.item i).sumR (l.item i).n := by simp [LT.sumL, List.range_succ]
theorem LT.sumL_mono (l : LT (LT RT)) {i j : Nat} (h : i ≤ j) : l.sumL i ≤ l.sumL j := by
  induction h with
  | refl => exact Nat.le_refl _
  | step _ ih => rw [LT.sumL_succ]; omega
set_option maxHeartbeats 2000000 in
theorem szLists_all (q : LT (LT RT)) (w : World) (S : Nat → Prop) (b : Nat) (l : Int) (hin : LT.In elRecs w S q) (hS : ¬ S b) (hb : Box w b #[.int .i64 l] 113) (hl : -1000000000000000 ≤ l) (hl2 : l ≤ 10000) :
    Calls Try.prog 52 #[.pointer (some ⟨b, 0, none⟩), .slice q.p q.n q.c] w fun e w' => SzPost b l (q.n + q.sumL q.n) w e w' := by
  have HI := hid hin
  have hnn := hin.nn
  have HA := hid (szAdd_all w b l q.n hb hl hl2 hnn)
  clear hin hb
  go_enter Try.func52, Try.ntmps52
  go_wp2_with fail
  refine HA.out.mono ?_
  rintro e w1 ⟨r1, m1, rfl, hb1, ht1, hk1⟩
  have H1 := hid (And.intro hb1 (And.intro ht1 hk1))
  clear hb1 ht1 hk1 HA
  go_wp2_with fail
  go_loopw [4] (fun x wr => ∃ (k : Nat) (m : Int), k ≤ q.n ∧ x = .int .i64 (k : Int) ∧ Box wr b #[.int .i64 m] 113 ∧ Told l m (q.n + q.sumL k) ∧ But (fun k => k = b) w wr) (fun x _ => q.n - (intOf x).toNat)
  case atStart => exact ⟨0, m1, Nat.zero_le _, rfl, H1.out.1, by simpa [LT.sumL] using H1.out.2.1, H1.out.2.2⟩
  case round =>
    obtain ⟨k, m, hk, rfl, hbm, ht, hkm⟩ := hrel
    have HO := hid (szOk_any wr b m hbm)
    have HM := hid (And.intro hbm (And.intro ht hkm))
    have hml := ht.le
    have hmo := ht.low
    have hbl := hbm.lt
    clear hbm ht hkm
    by_cases hlt : k < q.n
    · have hlt' : (k : Int) < (q.n : Int) := by omega
      by_cases hm : 0 ≤ m
      · have hd : decide (0 ≤ m) = true := decide_eq_true hm
        rw [hd] at HO
        obtain ⟨bb, o, hp, hSb, hbb, hat⟩ := HI.out.at_ (by omega)
        rw [hp]
        have hne : bb ≠ b := fun e => hS (e ▸ hSb)
        have c0 : wr.cell? ⟨bb, o + k, none⟩ = some (.slice (q.item k).p (q.item k).n (q.item k).c) := by
          have := (World.cell?_of_block (a := ⟨bb, o + k * 1 + 0, none⟩) (HM.out.2.2.block bb hbb hne)).trans (hat k hlt 0 _ rfl)
          simpa using this
        have hj : LT.In elRec w S (q.item k) := HI.out.each k hlt
        have HC := hid (szRecords_all (q.item k) wr S b m (hj.kept HM.out.2.2.size (fun x hx hl => HM.out.2.2.block x hl (fun e => hS (e ▸ hx)))) hS HM.out.1 hmo (by omega))
        clear hat hj
        go_wp2_with (first | (go_at_call 26; refine HO.out.mono ?_; rintro e w2 ⟨rfl, rfl⟩) | (go_at_call 53; refine HC.out.mono ?_; rintro e w3 ⟨rfl, m', hb3, ht3, hk3⟩))
        go_roundw
        case rel =>
          refine ⟨k + 1, m', by omega, by go_num, hb3, ?_, HM.out.2.2.trans hk3⟩
          rw [LT.sumL_succ, ← Nat.add_assoc]
          exact HM.out.2.1.two ht3
        case measure => simp [intOf]; omega
      · have hd : decide (0 ≤ m) = false := decide_eq_false hm
        rw [hd] at HO
        go_wp2_with (go_at_call 26; refine HO.out.mono ?_; rintro e w2 ⟨rfl, rfl⟩)
        go_end0
        exact ⟨rfl, m, HM.out.1, ⟨fun h => absurd h (by omega), HM.out.2.1.le, HM.out.2.1.low⟩, HM.out.2.2⟩
    · obtain rfl : k = q.n := by omega
      go_wp2_with fail
      go_end0
      exact ⟨rfl, m, HM.out.1, HM.out.2.1, HM.out.2.2⟩
def PtT.tot (t : PtT) : Nat := t.cl.totC + (t.lg.n + t.lg.sumL t.lg.n) + t.pd.sumR t.pd.n
theorem PtT.tot_sz {t : PtT} (h : t.tot ≤ 10000) : PtSz t := by
  unfold PtT.tot at h
  have h1 := LT.totC_sz (l := t.cl) (by omega)
  have h2 := LT.sumR_sz (l := t.pd) (by omega)
  have h3 : ∀ j, j < t.lg.n → SzR (t.lg.item j) := fun j hj => LT.sumR_sz (by
    have := t.lg.sumL_mono (show j + 1 ≤ t.lg.n from hj)
    rw [LT.sumL_succ] at this
    omega)
  exact ⟨h1.n, h1.item, by omega, fun j hj => (h3 j hj).n, fun j hj => (h3 j hj).item, h2.n, h2.item⟩
set_option maxHeartbeats 2000000 in
theorem szPart_all (t : PtT) (w : World) (S : Nat → Prop) (b : Nat) (l : Int) (hin : PtIn w S t) (hS : ¬ S b) (hb : Box w b #[.int .i64 l] 113) (hl : -1000000000000000 ≤ l) (hl2 : l ≤ 10000) :
    Calls Try.prog 27 #[.pointer (some ⟨b, 0, none⟩), .agg #[.int .i64 t.num, .slice t.cl.p t.cl.n t.cl.c, .slice t.lg.p t.lg.n t.lg.c, .slice t.pd.p t.pd.n t.pd.c]] w fun e w' => SzPost b l t.tot w e w' := by
  have hal : Below w.heap.size w (w.alloc (.cells #[.int .i64 t.num, .slice t.cl.p t.cl.n t.cl.c, .slice t.lg.p t.lg.n t.lg.c, .slice t.pd.p t.pd.n t.pd.c] 39)) := (Below.refl _ _).alloc (Nat.le_refl _) _
  have hX := Box.new w #[.int .i64 t.num, .slice t.cl.p t.cl.n t.cl.c, .slice t.lg.p t.lg.n t.lg.c, .slice t.pd.p t.pd.n t.pd.c] 39
  have hbw := hb.lt
  have hin2 : PtIn (w.alloc (.cells #[.int .i64 t.num, .slice t.cl.p t.cl.n t.cl.c, .slice t.lg.p t.lg.n t.lg.c, .slice t.pd.p t.pd.n t.pd.c] 39)) (fun k => S k ∧ k < w.heap.size) t := (hin.mono (S' := fun k => S k ∧ k < w.heap.size) fun k hk hl => ⟨hk, hl⟩).kept hal.size (fun k hk _ => hal.block k hk.2)
  have HC := hid (szCells_all t.cl _ _ b l hin2.cl (fun h => hS h.1) (hb.below hal) hl hl2)
  have HX := hid hX
  have HIn := hid hin2
  have HAl := hid hal
  clear hin hb hal hX hin2
  go_enter Try.func27, Try.ntmps27
  go_wp2_with fail
  refine HC.out.mono ?_
  rintro e w1 ⟨rfl, m1, hb1, ht1, hk1⟩
  have hX1 := HX.out.but hk1 (by omega)
  have x1 := hX1.cell 1
  have x2 := hX1.cell 2
  have xl := hX1.lt
  simp at x1 x2
  have HX1 := hid hX1
  have hi1 := HIn.out.kept hk1.size (fun k hk hl => hk1.block k hl (fun e => hS (e ▸ hk.1)))
  have HL := hid (szLists_all t.lg _ _ b m1 hi1.lg (fun h => hS h.1) hb1 ht1.low (by have := ht1.le; omega))
  have HI1 := hid hi1
  have H1 := hid (And.intro ht1 hk1)
  clear hX1 hi1 hb1 ht1 hk1 HC
  go_wp2_with fail
  refine HL.out.mono ?_
  rintro e w2 ⟨rfl, m2, hb2, ht2, hk2⟩
  have hX2 := HX1.out.but hk2 (by omega)
  have y2 := hX2.cell 3
  have yl := hX2.lt
  simp at y2
  have hi2 := HI1.out.kept hk2.size (fun k hk hl => hk2.block k hl (fun e => hS (e ▸ hk.1)))
  have HR := hid (szRecords_all t.pd _ _ b m2 hi2.pd (fun h => hS h.1) hb2 ht2.low (by have := ht2.le; have := H1.out.1.le; omega))
  have H2 := hid (And.intro ht2 hk2)
  clear hX2 hi2 hb2 ht2 hk2 HL
  go_wp2_with fail
  refine HR.out.mono ?_
  rintro e w3 ⟨rfl, m3, hb3, ht3, hk3⟩
  have H3 := hid (And.intro hb3 (And.intro ht3 hk3))
  clear hb3 ht3 hk3 HR
  go_wp2_with fail
  go_end0
  have hba := But.ofBelow (X := fun k => k = b) HAl.out
  exact ⟨rfl, m3, H3.out.1, (H1.out.1.two H2.out.1).two H3.out.2.1, hba.trans (H1.out.2.trans (H2.out.2.trans H3.out.2.2))⟩
end Go.Proofs.Ytldkepokcbjlpaa

namespace Go.Proofs.Ytldkepokcbjlpaa
open Go.RowKit Go.Conc
set_option maxRecDepth 8000
def LT.sumO (l : LT OpP) (i : Nat) : Nat := ((List.range i).map fun j => (l.item j).pt.tot).sum
theorem LT.sumO_succ (l : LT OpP) (i : Nat) : l.sumO (i + 1) = l.sumO i + (l.item i).pt.tot := by simp [LT.sumO, List.range_succ]
theorem LT.sumO_mono (l : LT OpP) {i j : Nat} (h : i ≤ j) : l.sumO i ≤ l.sumO j := by
  induction h with
  | refl => exact Nat.le_refl _
  | step _ ih => rw [LT.sumO_succ]; omega
def FewP (s : LT OpP) (w : World) (e : Ending) (w' : World) : Prop := ∃ r : Bool, e = .returned (.bool r) ∧ (r = true → ∀ j, j < s.n → PtSz (s.item j).pt) ∧ Below w.heap.size w w'
set_option maxHeartbeats 4000000 in
theorem lfew_any (s : LT OpP) (w : World) (hin : LT.In elOpP w (fun b => b < w.heap.size) s) : Calls Try.prog 7 #[.slice s.p s.n s.c] w fun e w' => FewP s w e w' := by
  have HI := hid hin
  have hnn := hin.nn
  have HNw := hid (szNew_any w)
  clear hin
  go_enter Try.func7, Try.ntmps7
  go_wp2_with fail
  refine HNw.out.mono ?_
  rintro e w1 ⟨rfl, rfl⟩
  have HB0 := hid (Box.new w #[.int .i64 10000] 113)
  have HAl : Hid (Below w.heap.size w (w.alloc (.cells #[.int .i64 10000] 113))) := (Below.refl _ _).alloc (Nat.le_refl _) _
  clear HNw
  go_wp2_with fail
  go_loopw [4] (fun x wr => ∃ (k : Nat) (m : Int), k ≤ s.n ∧ x = .int .i64 (k : Int) ∧ Box wr w.heap.size #[.int .i64 m] 113 ∧ Told 10000 m (s.sumO k) ∧ Below w.heap.size w wr) (fun x _ => s.n - (intOf x).toNat)
  case atStart => exact ⟨0, 10000, Nat.zero_le _, rfl, HB0.out, ⟨fun h => ⟨h, by simp [LT.sumO]⟩, Int.le_refl _, by omega⟩, HAl.out⟩
  case round =>
    obtain ⟨k, m, hk, rfl, hbm, ht, hkm⟩ := hrel
    have HO := hid (szOk_any wr w.heap.size m hbm)
    have HM := hid (And.intro hbm (And.intro ht hkm))
    have hml := ht.le
    have hmo := ht.low
    have hbl := hbm.lt
    clear hbm ht hkm HB0 HAl
    by_cases hlt : k < s.n
    · have hlt' : (k : Int) < (s.n : Int) := by omega
      by_cases hm : 0 ≤ m
      · have hd : decide (0 ≤ m) = true := decide_eq_true hm
        rw [hd] at HO
        obtain ⟨bb, o, hp, hSb, hbb, hat⟩ := HI.out.at_ (by omega)
        rw [hp]
        have hcell : ∀ r u, (elOpP.cells (s.item k))[r]? = some u → wr.cell? ⟨bb, o + k * 10 + r, none⟩ = some u := fun r u hu => (World.cell?_of_block (a := ⟨bb, o + k * 10 + r, none⟩) (HM.out.2.2.block bb hbb)).trans (hat k hlt r u hu)
        have c5 := hcell 5 _ rfl
        have c6 := hcell 6 _ rfl
        have c7 := hcell 7 _ rfl
        have c8 := hcell 8 _ rfl
        have hj : PtIn w (fun b => b < w.heap.size) (s.item k).pt := HI.out.each k hlt
        have HC := hid (szPart_all (s.item k).pt wr (fun b => b < w.heap.size) w.heap.size m (hj.kept HM.out.2.2.size (fun x hx _ => HM.out.2.2.block x hx)) (Nat.lt_irrefl _) HM.out.1 hmo (by omega))
        clear hcell hat hj
        go_wp2_with (first | (go_at_call 26; refine HO.out.mono ?_; rintro e w2 ⟨rfl, rfl⟩) | (go_at_call 27; refine HC.out.mono ?_; rintro e w3 ⟨rfl, m', hb3, ht3, hk3⟩))
        go_roundw
        case rel =>
          refine ⟨k + 1, m', by omega, by go_num, hb3, ?_, HM.out.2.2.trans (hk3.below HM.out.2.2.size (fun j hj e => by omega))⟩
          rw [LT.sumO_succ]
          exact HM.out.2.1.two ht3
        case measure => simp [intOf]; omega
      · have hd : decide (0 ≤ m) = false := decide_eq_false hm
        rw [hd] at HO
        go_wp2_with (go_at_call 26; refine HO.out.mono ?_; rintro e w2 ⟨rfl, rfl⟩)
        exact bodyPost_ret (v := .bool false) (by simp [results, Try.results7, go_sem]) rfl ⟨false, rfl, (fun h => by cases h), HM.out.2.2⟩
    · obtain rfl : k = s.n := by omega
      go_wp2_with (go_at_call 26; refine HO.out.mono ?_; rintro e w2 ⟨rfl, rfl⟩)
      refine bodyPost_ret (v := .bool (decide (0 ≤ m))) (by simp [results, Try.results7, go_sem]) rfl ⟨_, rfl, fun h j hj => ?_, HM.out.2.2⟩
      have h0 := (HM.out.2.1.ok (of_decide_eq_true h)).2
      have h1 := s.sumO_mono (show j + 1 ≤ s.n from hj)
      rw [LT.sumO_succ] at h1
      have h2 : 0 ≤ m := of_decide_eq_true h
      exact PtT.tot_sz (by omega)
end Go.Proofs.Ytldkepokcbjlpaa
