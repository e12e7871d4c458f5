import Derived.Test.YtdmhemofhmfkoabGreatDoorPack8
import Derived.Test.YtdmhemofhmfkoabGreatDoorParF
namespace Go.Proofs.YtdmhemofhmfkoabGreatDoor
open Go.RowKit
set_option maxRecDepth 8000

/-- the reader's place -/
def plc (w : World) (rb : Nat) : Nat := match w.cell? ⟨rb, 1, none⟩ with
  | some v => (intOf v).toNat
  | none => 0
theorem Rd.plc {w : World} {rb : Nat} {s : ByteArray} {a q : Nat} (h : Rd w rb s a q) : plc w rb = a := by
  have h1 := h.cell 1
  simp at h1
  unfold YtdmhemofhmfkoabGreatDoor.plc
  rw [h1]
  rfl
/-- the error's variable that is read, whatever is done from block B on -/
structure Errs (B : Nat) (w : World) : Prop where
  range : ∃ tp p, ∀ w', Below B w w' → w'.var? Tryz.prog "strconv.ErrRange" = some #[.iface tp p]
theorem Errs.on {B : Nat} {w w' : World} (h : Errs B w) (hb : Below B w w') : Errs B w' := by
  obtain ⟨tp, p, h1⟩ := h.range
  exact ⟨⟨tp, p, fun w2 h2 => h1 w2 (hb.trans h2)⟩⟩
theorem Errs.mono {B C : Nat} {w : World} (h : Errs B w) (hb : B ≤ C) : Errs C w := by
  obtain ⟨tp, p, h1⟩ := h.range
  exact ⟨⟨tp, p, fun w2 h2 => h1 w2 (h2.mono hb)⟩⟩
theorem cut_size (s : ByteArray) (a p : Nat) : (s.extract a p).size ≤ s.size := by
  rw [ByteArray.size_extract]
  omega
theorem parseInt_ok (s : ByteArray) (a p : Nat) (v : Int) (w : World) (hs : s.size ≤ 140737488355328) (h : Lib.parseIntB 64 (cutL s a p) = .ok v) :
    Calls Tryz.prog 107 #[.string (s.extract a p), .int .i64 10, .int .i64 64] w fun e w' => e = .returned (.tuple #[.int .i64 v, .nilIface]) ∧ Below w.heap.size w w' := by
  refine (Tryz.strconv_ParseInt_10_at64_ok (s.extract a p) (by have := cut_size s a p; omega) v h w).mono ?_
  rintro e w' ⟨rfl, rfl | ⟨t, rfl⟩⟩
  · exact ⟨rfl, Below.refl _ _⟩
  · exact ⟨rfl, Lib.bytesWorld_below _ _ _⟩
theorem parseInt_range (s : ByteArray) (a p : Nat) (tp : TypeId) (pv : Value) (w : World) (hs : s.size ≤ 140737488355328) (h : Lib.parseIntB 64 (cutL s a p) = .range) (hvar : w.var? Tryz.prog "strconv.ErrRange" = some #[.iface tp pv]) :
    Calls Tryz.prog 107 #[.string (s.extract a p), .int .i64 10, .int .i64 64] w fun e w' => ∃ N, e = .returned (.tuple #[.int .i64 (Lib.intSat 64 (s.extract a p).data.toList), .iface 177 (.pointer (some ⟨N, 0, none⟩))]) ∧ Below w.heap.size w w' := by
  refine (Tryz.strconv_ParseInt_10_at64_range_var (s.extract a p) (by have := cut_size s a p; omega) h tp pv w hvar).mono ?_
  rintro e w' ⟨N, rfl, _, _, hb⟩
  exact ⟨N, rfl, hb⟩
theorem below_size' {B : Nat} {w w' : World} (h : Below B w w') (hB : B ≤ w.heap.size) : B ≤ w'.heap.size := Nat.le_trans hB h.size

set_option maxHeartbeats 4000000 in
theorem integer_any (B rb : Nat) (s : ByteArray) (a q : Nat) (w : World) (hb0 : Rd w rb s a q) (ha : a ≤ s.size) (hs : s.size ≤ 140737488355328) (hB : B ≤ rb) (hEr : Errs B w) :
    Calls Tryz.prog 69 #[.pointer (some ⟨rb, 0, none⟩)] w fun x w' => RdPost rb s q w (intS s a) VT.val x w' := by
  have hrb := hb0.lt
  have hal : Below w.heap.size w (w.alloc (.cells #[.int .i64 0, .int .i64 0, .string ⟨#[]⟩, .slice none 0 0] 24)) := (Below.refl _ _).alloc (Nat.le_refl _) _
  have HR0 := hid (Box.below hb0 hal)
  have HZ0 := hid (Box.new w #[.int .i64 0, .int .i64 0, .string ⟨#[]⟩, .slice none 0 0] 24)
  have HP := hid (fun W (hW : Below (w.alloc (.cells #[.int .i64 0, .int .i64 0, .string ⟨#[]⟩, .slice none 0 0] 24)).heap.size (w.alloc (.cells #[.int .i64 0, .int .i64 0, .string ⟨#[]⟩, .slice none 0 0] 24)) W) => peek_any rb s a q W (Box.below HR0.out hW) ha)
  have HA := hid hal
  have HEr := hid hEr
  have x1 := HR0.out.cell 1
  simp at x1
  obtain ⟨c, hc⟩ : ∃ c, pk s a = c := ⟨_, rfl⟩
  rw [hc] at HP
  have HC := hid hc
  have hclt : c < 256 := by rw [← hc]; exact pk_lt s _
  clear hb0 hal hEr hc
  go_enter Tryz.func69, Tryz.ntmps69
  go_wp2_with fail
  refine (HP.out _ (Below.refl _ _)).mono ?_
  rintro e w1 ⟨rfl, hb1⟩
  have HR1 := hid (HR0.out.below hb1)
  have HZ1 := hid (HZ0.out.below hb1)
  have HK1 := hid ((But.one w rb).trans (But.ofBelow (HA.out.trans (hb1.mono HA.out.size))))
  have y1 := HR1.out.cell 1
  have f1 := HR1.out.frozen 1
  simp at y1
  have hw1 : IntKind.i64.wrap ((a : Int) + 1) = (a : Int) + 1 := by rw [IntKind.wrap_i64]; omega
  by_cases h0 : c = 48
  · have hlt : a < s.size := pk_pos (by rw [HC.out]; omega)
    have HX : Hid (intS s a = .ok (mkI 0, a + 1)) := by unfold Hid intS; rw [if_pos (by rw [HC.out]; exact h0)]
    subst h0
    have HRs := hid (Rd.to HR1.out ((a : Int) + 1) (a + 1) (by omega))
    have HKs := hid (HK1.out.setAt 1 (.int .i64 ((a : Int) + 1)))
    have HZs := hid (Box.but HZ1.out ((But.one w1 rb).setAt 1 (.int .i64 ((a : Int) + 1))) (fun h => by omega))
    have q0 := HZs.out.cell 0
    have q1 := HZs.out.cell 1
    have q2 := HZs.out.cell 2
    have q3 := HZs.out.cell 3
    have r0 := HZs.out.frozen 0
    have r1 := HZs.out.frozen 1
    have r2 := HZs.out.frozen 2
    have r3 := HZs.out.frozen 3
    have v0 := HZ1.out.cell 0
    have v1 := HZ1.out.cell 1
    have v2 := HZ1.out.cell 2
    have v3 := HZ1.out.cell 3
    have vf0 := HZ1.out.frozen 0
    have vf1 := HZ1.out.frozen 1
    have vf2 := HZ1.out.frozen 2
    have vf3 := HZ1.out.frozen 3
    simp at q0 q1 q2 q3 v0 v1 v2 v3
    have hne : w.heap.size ≠ rb := by omega
    have hne2 : rb ≠ w.heap.size := by omega
    have HRf := hid (show Rd (set4 (w1.setCell ⟨rb, 1, none⟩ (.int .i64 ((a : Int) + 1))) w.heap.size (mkI 0)) rb s (a + 1) q from Box.but HRs.out (set4_but (X := fun y => y = w.heap.size) (mkI 0) (But.one _ w.heap.size) (fun _ => rfl)) (fun h => by omega))
    have HKf := hid (set4_but (b := w.heap.size) (mkI 0) HKs.out (fun h => by omega))
    clear HP hb1 HR1 HZ1 HK1 HRs HKs HZs
    go_wp2
    refine bodyPost_ret (v := .agg #[.int .i64 1, .int .i64 0, .string ⟨#[]⟩, .slice none 0 0]) (by simp [results, Tryz.results69, go_sem, q0, q1, q2, q3]) rfl ?_
    exact RdPost.ok HX.out rfl HRf.out HKf.out
  · have e0 : ((c : Int) == 48) = false := by simp; omega
    go_wp2_with fail
    refine (HP.out _ hb1).mono ?_
    rintro e w2 ⟨rfl, hb2⟩
    have HR2 := hid (HR1.out.below hb2)
    have HZ2 := hid (HZ1.out.below hb2)
    have HK2 := hid (HK1.out.trans (But.ofBelow hb2))
    have x2 := HR2.out.cell 1
    have f2 := HR2.out.frozen 1
    simp at x2
    clear HP hb1 HR1 HZ1 HK1 y1 f1 x1 HR0 HZ0 HA
    by_cases h45 : c = 45
    · have HSg : Hid (sgS s a = a + 1) := by unfold Hid sgS; rw [if_pos (by rw [HC.out]; exact h45)]
      have hlt : a < s.size := pk_pos (by rw [HC.out]; omega)
      subst h45
      have HRs := hid (Rd.to HR2.out ((a : Int) + 1) (a + 1) (by omega))
      have HKs := hid (HK2.out.setAt 1 (.int .i64 ((a : Int) + 1)))
      have HZs := hid (Box.but HZ2.out ((But.one w2 rb).setAt 1 (.int .i64 ((a : Int) + 1))) (fun h => by omega))
      have hb : a + 1 ≤ s.size := hlt
      have hge0 : a ≤ a + 1 := by omega
      clear HR2 HK2 HZ2 e0
      obtain ⟨w3, hw3⟩ : ∃ w3, w3 = w2.setCell ⟨rb, 1, none⟩ (.int .i64 ((a : Int) + 1)) := ⟨_, rfl⟩
      rw [← hw3] at HRs HKs HZs
      have HR2 := HRs
      have HK2 := HKs
      have HZ2 := HZs
      have HPb := hid (fun W (hW : Below w3.heap.size w3 W) => peek_any rb s (a + 1) q W (HR2.out.below hW) hb)
      obtain ⟨c2, hc2⟩ : ∃ c2, pk s (a + 1) = c2 := ⟨_, rfl⟩
      rw [hc2] at HPb
      have hc2lt : c2 < 256 := by rw [← hc2]; exact pk_lt s _
      have HC2 := hid hc2
      clear hc2
      go_wp2_with fail
      rw [← hw3]
      refine (HPb.out _ (Below.refl _ _)).mono ?_
      rintro e w13 ⟨rfl, hb3⟩
      go_wp2_with fail
      refine (isDigit_any c2 w13).mono ?_
      rintro e w14 ⟨rfl, hw4⟩
      subst w14
      have HR3 := hid (HR2.out.below hb3)
      have HZ3 := hid (HZ2.out.below hb3)
      have HK3 := hid (HK2.out.trans (But.ofBelow hb3))
      have y1 := HR3.out.cell 1
      simp at y1
      by_cases hdig : 48 ≤ c2 ∧ c2 ≤ 57
      · have hd : decide (48 ≤ c2 ∧ c2 ≤ 57) = true := by simp [hdig]
        simp only [hd]
        clear hd
        go_wp2_with fail
        refine (HPb.out _ hb3).mono ?_
        rintro e w14 ⟨rfl, hb4⟩
        have hb34 := hb3.trans (hb4.mono hb3.size)
        have HR4 := hid (HR3.out.below hb4)
        have HZ4 := hid (HZ3.out.below hb4)
        have HK4 := hid (HK3.out.trans (But.ofBelow hb4))
        have z1 := HR4.out.cell 1
        simp at z1
        by_cases h48 : c2 = 48
        · have HX : Hid (intS s a = .error ((a + 1), 28)) := by unfold Hid intS; rw [if_neg (by rw [HC.out]; exact h0), HSg.out, if_neg (by rw [HC2.out]; omega)]
          have HG := hid (fun W => giveUp_any (((a + 1) : Nat) : Int) 28 W)
          subst h48
          clear HPb y1
          go_wp2_with fail
          refine (HG.out _).mono ?_
          rintro e w15 ⟨rfl, hw5⟩
          subst w15
          exact ⟨rfl, RdPost.err HX.out rfl HK4.out⟩
        · have e48 : ((c2 : Int) == 48) = false := by simp; omega
          have HI : Hid (intS s a = numS a (dgE s (a + 1)) (Lib.parseIntB 64 (cutL s a (dgE s (a + 1))))) := by unfold Hid intS; rw [if_neg (by rw [HC.out]; exact h0), HSg.out, if_pos (by rw [HC2.out]; omega)]
          have HN : Hid (Lib.parseIntB 64 (cutL s a (dgE s (a + 1))) ≠ .«syntax») := by
            have h := num_whole (s := s) (a := a) (by rw [HSg.out, HC2.out]; omega)
            rw [HSg.out] at h
            exact h
          have hle := dgE_le (s := s) hb
          have hge := dgE_ge s (a + 1)
          obtain ⟨E, hE0⟩ : ∃ E, dgE s (a + 1) = E := ⟨_, rfl⟩
          rw [hE0] at HI HN hle hge
          have HEq := hid hE0
          clear hE0 HPb hb3 hb4 hb34 HR2 HZ2 HK2 HR3 HZ3 HK3 y1 z1 hdig h48 HC2
          go_wp2_with fail
          go_loopw [] (fun wr => ∃ p : Nat, p ≤ s.size ∧ dgE s p = E ∧ Rd wr rb s p q ∧ Box wr w.heap.size #[.int .i64 0, .int .i64 0, .string ⟨#[]⟩, .slice none 0 0] 24 ∧ But (fun y => y = rb) w wr) (fun wr => s.size - plc wr rb)
          case atStart => exact ⟨(a + 1), hb, HEq.out, HR4.out, HZ4.out, HK4.out⟩
          case round =>
            obtain ⟨p, hp, hpE, hrd, hbx, hbut⟩ := hrel
            clear HR4 HZ4 HK4
            have HPp := hid (peek_any rb s p q wr hrd hp)
            have HR := hid hrd
            have HZ := hid hbx
            have HK := hid hbut
            have hplc := hrd.plc
            obtain ⟨c3, hc3⟩ : ∃ c3, pk s p = c3 := ⟨_, rfl⟩
            rw [hc3] at HPp
            have HC3 := hid hc3
            have hpE' := hid hpE
            have hpE2 := hid hplc
            clear hrd hbx hbut hc3 hpE hplc
            go_wp2_with fail
            refine HPp.out.mono ?_
            rintro e w15 ⟨rfl, hb5⟩
            go_wp2_with fail
            refine (isDigit_any c3 w15).mono ?_
            rintro e w16 ⟨rfl, hw6⟩
            subst w16
            have HR5 := hid (HR.out.below hb5)
            have HZ5 := hid (HZ.out.below hb5)
            have HK5 := hid (HK.out.trans (But.ofBelow hb5))
            have y0 := HR5.out.cell 0
            have y1 := HR5.out.cell 1
            have g1 := HR5.out.frozen 1
            simp at y0 y1
            by_cases hdig : 48 ≤ c3 ∧ c3 ≤ 57
            · have hd : decide (48 ≤ c3 ∧ c3 ≤ 57) = true := by simp [hdig]
              simp only [hd]
              have hlt : p < s.size := pk_pos (by rw [HC3.out]; omega)
              have hst : dgE s (p + 1) = E := by rw [← hpE'.out]; exact dgE_step (by rw [HC3.out]; exact hdig)
              have hw1 : IntKind.i64.wrap ((p : Int) + 1) = (p : Int) + 1 := by rw [IntKind.wrap_i64]; omega
              have hS := Rd.to HR5.out ((p : Int) + 1) (p + 1) (by omega)
              have HS := hid hS
              have HM : Hid (s.size - plc (w15.setCell ⟨rb, 1, none⟩ (.int .i64 ((p : Int) + 1))) rb < s.size - plc wr rb) := by
                unfold Hid
                rw [hS.plc, hpE2.out]
                omega
              have HKs := hid (HK5.out.setAt 1 (.int .i64 ((p : Int) + 1)))
              have HZs := hid (Box.but HZ5.out ((But.one w15 rb).setAt 1 (.int .i64 ((p : Int) + 1))) (fun h => by omega))
              have HQ := hid (And.intro hlt hst)
              clear hd hdig hS hst HPp hb5
              go_wp2
              go_roundw
              case rel => exact ⟨p + 1, HQ.out.1, HQ.out.2, HS.out, HZs.out, HKs.out⟩
              case measure => exact HM.out
            · have hd : decide (48 ≤ c3 ∧ c3 ≤ 57) = false := by simp; omega
              simp only [hd]
              have hpe : p = E := by rw [← hpE'.out]; exact (dgE_stop (by rw [HC3.out]; exact hdig)).symm
              subst hpe
              have hae : (a : Int) ≤ (p : Int) := by omega
              have hpe2 : (p : Int) ≤ (s.size : Int) := by omega
              clear hd hdig HPp HC3 hpE' hpE2 HEq
              have HBel := hid (HK5.out.below (B := B) (by omega) (fun k hk => by omega))
              cases hpi : Lib.parseIntB 64 (cutL s a p) with
              | «syntax» => exact absurd hpi HN.out
              | ok v =>
                have HX : Hid (intS s a = .ok (mkI v, p)) := by unfold Hid; rw [HI.out, hpi]; rfl
                have HPI := hid (fun W => parseInt_ok s a p v W hs hpi)
                clear HI HN hpi
                go_wp2_with fail
                go_region_held (fun W => W.cell? ⟨rb, 0, none⟩ = some (.string s) ∧ W.cell? ⟨rb, 1, none⟩ = some (.int .i64 p)) (go_keep)
                  ((go_at_call 107; refine (HPI.out _).mono ?_; rintro e w17 ⟨rfl, hb7'⟩; have hb7 : Below w15.heap.size w15 w17 := (Below.refl _ _).drew.trans hb7'; have u0 := (HR5.out.below hb7).cell 0; have u1 := (HR5.out.below hb7).cell 1; simp at u0 u1))
                all_goals
                  have HZ7 := hid (HZ5.out.below hb7)
                  have HR7 := hid (HR5.out.below hb7)
                  have HK7 := hid (HK5.out.trans (But.ofBelow hb7))
                  have q0 := HZ7.out.cell 0
                  have q1 := HZ7.out.cell 1
                  have q2 := HZ7.out.cell 2
                  have q3 := HZ7.out.cell 3
                  have r0 := HZ7.out.frozen 0
                  have r1 := HZ7.out.frozen 1
                  have r2 := HZ7.out.frozen 2
                  have r3 := HZ7.out.frozen 3
                  simp at q0 q1 q2 q3
                  have HRf := hid (show Rd (set4 w17 w.heap.size (mkI v)) rb s p q from Box.but HR7.out (set4_but (X := fun y => y = w.heap.size) (mkI v) (But.one w17 w.heap.size) (fun _ => rfl)) (fun h => by omega))
                  have HKf := hid (set4_but (b := w.heap.size) (mkI v) HK7.out (fun h => by omega))
                  clear HPI hb7 hb7' HR5 HZ5 HK5
                  go_wp2
                  refine bodyPost_ret (v := .agg #[.int .i64 1, .int .i64 v, .string ⟨#[]⟩, .slice none 0 0]) (by simp [results, Tryz.results69, go_sem, q0, q1, q2, q3]) rfl ?_
                  exact RdPost.ok HX.out rfl HRf.out HKf.out
              | range =>
                have HX : Hid (intS s a = .error (a, 29)) := by unfold Hid; rw [HI.out, hpi]; rfl
                obtain ⟨tp, pv, hvar⟩ := HEr.out.range
                have HPI := hid (fun W (hW : Below w15.heap.size w15 W) => parseInt_range s a p tp pv W hs hpi (hvar W (HBel.out.trans (hW.mono (below_size' HBel.out (by omega))))))
                have HG := hid (fun W => giveUp_any ((a : Nat) : Int) 29 W)
                clear HI HN hpi hvar
                go_wp2_with fail
                go_region_held (fun W => W.cell? ⟨rb, 0, none⟩ = some (.string s) ∧ W.cell? ⟨rb, 1, none⟩ = some (.int .i64 p)) (go_keep)
                  ((go_at_call 107; refine (HPI.out _ (Below.refl _ _).drew).mono ?_; rintro e w17 ⟨N7, rfl, hb7'⟩; have hb7 : Below w15.heap.size w15 w17 := (Below.refl _ _).drew.trans hb7'; have u0 := (HR5.out.below hb7).cell 0; have u1 := (HR5.out.below hb7).cell 1; simp at u0 u1))
                all_goals
                  have HK7 := hid (HK5.out.trans (But.ofBelow hb7))
                  clear HPI hb7 hb7' HR5 HZ5 HK5
                  go_wp2_with fail
                  refine (HG.out _).mono ?_
                  rintro e w18 ⟨rfl, hw8⟩
                  subst w18
                  exact ⟨rfl, RdPost.err HX.out rfl HK7.out⟩
      · have hd : decide (48 ≤ c2 ∧ c2 ≤ 57) = false := by simp; omega
        simp only [hd]
        have HX : Hid (intS s a = .error ((a + 1), 28)) := by unfold Hid intS; rw [if_neg (by rw [HC.out]; exact h0), HSg.out, if_neg (by rw [HC2.out]; omega)]
        have HG := hid (fun W => giveUp_any (((a + 1) : Nat) : Int) 28 W)
        clear hd HPb
        go_wp2_with fail
        refine (HG.out _).mono ?_
        rintro e w15 ⟨rfl, hw5⟩
        subst w15
        exact ⟨rfl, RdPost.err HX.out rfl HK3.out⟩
    · have HSg : Hid (sgS s a = a) := by unfold Hid sgS; rw [if_neg (by rw [HC.out]; exact h45)]
      have e45 : ((c : Int) == 45) = false := by simp; omega
      have hb := ha
      have hge0 : a ≤ a := by omega
      have HPb := hid (fun W (hW : Below w2.heap.size w2 W) => peek_any rb s a q W (HR2.out.below hW) hb)
      obtain ⟨c2, hc2⟩ : ∃ c2, pk s a = c2 := ⟨_, rfl⟩
      rw [hc2] at HPb
      have hc2lt : c2 < 256 := by rw [← hc2]; exact pk_lt s _
      have HC2 := hid hc2
      clear hc2
      go_wp2_with fail
      refine (HPb.out _ (Below.refl _ _)).mono ?_
      rintro e w3 ⟨rfl, hb3⟩
      go_wp2_with fail
      refine (isDigit_any c2 w3).mono ?_
      rintro e w4 ⟨rfl, hw4⟩
      subst w4
      have HR3 := hid (HR2.out.below hb3)
      have HZ3 := hid (HZ2.out.below hb3)
      have HK3 := hid (HK2.out.trans (But.ofBelow hb3))
      have y1 := HR3.out.cell 1
      simp at y1
      by_cases hdig : 48 ≤ c2 ∧ c2 ≤ 57
      · have hd : decide (48 ≤ c2 ∧ c2 ≤ 57) = true := by simp [hdig]
        simp only [hd]
        clear hd
        go_wp2_with fail
        refine (HPb.out _ hb3).mono ?_
        rintro e w4 ⟨rfl, hb4⟩
        have hb34 := hb3.trans (hb4.mono hb3.size)
        have HR4 := hid (HR3.out.below hb4)
        have HZ4 := hid (HZ3.out.below hb4)
        have HK4 := hid (HK3.out.trans (But.ofBelow hb4))
        have z1 := HR4.out.cell 1
        simp at z1
        by_cases h48 : c2 = 48
        · have HX : Hid (intS s a = .error (a, 28)) := by unfold Hid intS; rw [if_neg (by rw [HC.out]; exact h0), HSg.out, if_neg (by rw [HC2.out]; omega)]
          have HG := hid (fun W => giveUp_any ((a : Nat) : Int) 28 W)
          subst h48
          clear HPb y1
          go_wp2_with fail
          refine (HG.out _).mono ?_
          rintro e w5 ⟨rfl, hw5⟩
          subst w5
          exact ⟨rfl, RdPost.err HX.out rfl HK4.out⟩
        · have e48 : ((c2 : Int) == 48) = false := by simp; omega
          have HI : Hid (intS s a = numS a (dgE s a) (Lib.parseIntB 64 (cutL s a (dgE s a)))) := by unfold Hid intS; rw [if_neg (by rw [HC.out]; exact h0), HSg.out, if_pos (by rw [HC2.out]; omega)]
          have HN : Hid (Lib.parseIntB 64 (cutL s a (dgE s a)) ≠ .«syntax») := by
            have h := num_whole (s := s) (a := a) (by rw [HSg.out, HC2.out]; omega)
            rw [HSg.out] at h
            exact h
          have hle := dgE_le (s := s) hb
          have hge := dgE_ge s a
          obtain ⟨E, hE0⟩ : ∃ E, dgE s a = E := ⟨_, rfl⟩
          rw [hE0] at HI HN hle hge
          have HEq := hid hE0
          clear hE0 HPb hb3 hb4 hb34 HR2 HZ2 HK2 HR3 HZ3 HK3 y1 z1 hdig h48 HC2
          go_wp2_with fail
          go_loopw [] (fun wr => ∃ p : Nat, p ≤ s.size ∧ dgE s p = E ∧ Rd wr rb s p q ∧ Box wr w.heap.size #[.int .i64 0, .int .i64 0, .string ⟨#[]⟩, .slice none 0 0] 24 ∧ But (fun y => y = rb) w wr) (fun wr => s.size - plc wr rb)
          case atStart => exact ⟨a, hb, HEq.out, HR4.out, HZ4.out, HK4.out⟩
          case round =>
            obtain ⟨p, hp, hpE, hrd, hbx, hbut⟩ := hrel
            clear HR4 HZ4 HK4
            have HPp := hid (peek_any rb s p q wr hrd hp)
            have HR := hid hrd
            have HZ := hid hbx
            have HK := hid hbut
            have hplc := hrd.plc
            obtain ⟨c3, hc3⟩ : ∃ c3, pk s p = c3 := ⟨_, rfl⟩
            rw [hc3] at HPp
            have HC3 := hid hc3
            have hpE' := hid hpE
            have hpE2 := hid hplc
            clear hrd hbx hbut hc3 hpE hplc
            go_wp2_with fail
            refine HPp.out.mono ?_
            rintro e w5 ⟨rfl, hb5⟩
            go_wp2_with fail
            refine (isDigit_any c3 w5).mono ?_
            rintro e w6 ⟨rfl, hw6⟩
            subst w6
            have HR5 := hid (HR.out.below hb5)
            have HZ5 := hid (HZ.out.below hb5)
            have HK5 := hid (HK.out.trans (But.ofBelow hb5))
            have y0 := HR5.out.cell 0
            have y1 := HR5.out.cell 1
            have g1 := HR5.out.frozen 1
            simp at y0 y1
            by_cases hdig : 48 ≤ c3 ∧ c3 ≤ 57
            · have hd : decide (48 ≤ c3 ∧ c3 ≤ 57) = true := by simp [hdig]
              simp only [hd]
              have hlt : p < s.size := pk_pos (by rw [HC3.out]; omega)
              have hst : dgE s (p + 1) = E := by rw [← hpE'.out]; exact dgE_step (by rw [HC3.out]; exact hdig)
              have hw1 : IntKind.i64.wrap ((p : Int) + 1) = (p : Int) + 1 := by rw [IntKind.wrap_i64]; omega
              have hS := Rd.to HR5.out ((p : Int) + 1) (p + 1) (by omega)
              have HS := hid hS
              have HM : Hid (s.size - plc (w5.setCell ⟨rb, 1, none⟩ (.int .i64 ((p : Int) + 1))) rb < s.size - plc wr rb) := by
                unfold Hid
                rw [hS.plc, hpE2.out]
                omega
              have HKs := hid (HK5.out.setAt 1 (.int .i64 ((p : Int) + 1)))
              have HZs := hid (Box.but HZ5.out ((But.one w5 rb).setAt 1 (.int .i64 ((p : Int) + 1))) (fun h => by omega))
              have HQ := hid (And.intro hlt hst)
              clear hd hdig hS hst HPp hb5
              go_wp2
              go_roundw
              case rel => exact ⟨p + 1, HQ.out.1, HQ.out.2, HS.out, HZs.out, HKs.out⟩
              case measure => exact HM.out
            · have hd : decide (48 ≤ c3 ∧ c3 ≤ 57) = false := by simp; omega
              simp only [hd]
              have hpe : p = E := by rw [← hpE'.out]; exact (dgE_stop (by rw [HC3.out]; exact hdig)).symm
              subst hpe
              have hae : (a : Int) ≤ (p : Int) := by omega
              have hpe2 : (p : Int) ≤ (s.size : Int) := by omega
              clear hd hdig HPp HC3 hpE' hpE2 HEq
              have HBel := hid (HK5.out.below (B := B) (by omega) (fun k hk => by omega))
              cases hpi : Lib.parseIntB 64 (cutL s a p) with
              | «syntax» => exact absurd hpi HN.out
              | ok v =>
                have HX : Hid (intS s a = .ok (mkI v, p)) := by unfold Hid; rw [HI.out, hpi]; rfl
                have HPI := hid (fun W => parseInt_ok s a p v W hs hpi)
                clear HI HN hpi
                go_wp2_with fail
                go_region_held (fun W => W.cell? ⟨rb, 0, none⟩ = some (.string s) ∧ W.cell? ⟨rb, 1, none⟩ = some (.int .i64 p)) (go_keep)
                  ((go_at_call 107; refine (HPI.out _).mono ?_; rintro e w7 ⟨rfl, hb7'⟩; have hb7 : Below w5.heap.size w5 w7 := (Below.refl _ _).drew.trans hb7'; have u0 := (HR5.out.below hb7).cell 0; have u1 := (HR5.out.below hb7).cell 1; simp at u0 u1))
                all_goals
                  have HZ7 := hid (HZ5.out.below hb7)
                  have HR7 := hid (HR5.out.below hb7)
                  have HK7 := hid (HK5.out.trans (But.ofBelow hb7))
                  have q0 := HZ7.out.cell 0
                  have q1 := HZ7.out.cell 1
                  have q2 := HZ7.out.cell 2
                  have q3 := HZ7.out.cell 3
                  have r0 := HZ7.out.frozen 0
                  have r1 := HZ7.out.frozen 1
                  have r2 := HZ7.out.frozen 2
                  have r3 := HZ7.out.frozen 3
                  simp at q0 q1 q2 q3
                  have HRf := hid (show Rd (set4 w7 w.heap.size (mkI v)) rb s p q from Box.but HR7.out (set4_but (X := fun y => y = w.heap.size) (mkI v) (But.one w7 w.heap.size) (fun _ => rfl)) (fun h => by omega))
                  have HKf := hid (set4_but (b := w.heap.size) (mkI v) HK7.out (fun h => by omega))
                  clear HPI hb7 hb7' HR5 HZ5 HK5
                  go_wp2
                  refine bodyPost_ret (v := .agg #[.int .i64 1, .int .i64 v, .string ⟨#[]⟩, .slice none 0 0]) (by simp [results, Tryz.results69, go_sem, q0, q1, q2, q3]) rfl ?_
                  exact RdPost.ok HX.out rfl HRf.out HKf.out
              | range =>
                have HX : Hid (intS s a = .error (a, 29)) := by unfold Hid; rw [HI.out, hpi]; rfl
                obtain ⟨tp, pv, hvar⟩ := HEr.out.range
                have HPI := hid (fun W (hW : Below w5.heap.size w5 W) => parseInt_range s a p tp pv W hs hpi (hvar W (HBel.out.trans (hW.mono (below_size' HBel.out (by omega))))))
                have HG := hid (fun W => giveUp_any ((a : Nat) : Int) 29 W)
                clear HI HN hpi hvar
                go_wp2_with fail
                go_region_held (fun W => W.cell? ⟨rb, 0, none⟩ = some (.string s) ∧ W.cell? ⟨rb, 1, none⟩ = some (.int .i64 p)) (go_keep)
                  ((go_at_call 107; refine (HPI.out _ (Below.refl _ _).drew).mono ?_; rintro e w7 ⟨N7, rfl, hb7'⟩; have hb7 : Below w5.heap.size w5 w7 := (Below.refl _ _).drew.trans hb7'; have u0 := (HR5.out.below hb7).cell 0; have u1 := (HR5.out.below hb7).cell 1; simp at u0 u1))
                all_goals
                  have HK7 := hid (HK5.out.trans (But.ofBelow hb7))
                  clear HPI hb7 hb7' HR5 HZ5 HK5
                  go_wp2_with fail
                  refine (HG.out _).mono ?_
                  rintro e w8 ⟨rfl, hw8⟩
                  subst w8
                  exact ⟨rfl, RdPost.err HX.out rfl HK7.out⟩
      · have hd : decide (48 ≤ c2 ∧ c2 ≤ 57) = false := by simp; omega
        simp only [hd]
        have HX : Hid (intS s a = .error (a, 28)) := by unfold Hid intS; rw [if_neg (by rw [HC.out]; exact h0), HSg.out, if_neg (by rw [HC2.out]; omega)]
        have HG := hid (fun W => giveUp_any ((a : Nat) : Int) 28 W)
        clear hd HPb
        go_wp2_with fail
        refine (HG.out _).mono ?_
        rintro e w5 ⟨rfl, hw5⟩
        subst w5
        exact ⟨rfl, RdPost.err HX.out rfl HK3.out⟩
end Go.Proofs.YtdmhemofhmfkoabGreatDoor
