import Derived.Test.YtdmhemofhmfkoabGreatDoorPack5
import Derived.Test.YtdmhemofhmfkoabGreatDoorPack6
namespace Go.Proofs.YtdmhemofhmfkoabGreatDoor
open Go.RowKit
set_option maxRecDepth 8000

/-- these bytes stand here -/
def wordS (s : ByteArray) : List Nat → Nat → Except (Nat × Nat) Nat
  | [], a => .ok a
  | c :: r, a => if pk s a = c then wordS s r (a + 1) else .error (a, 28)
def noneOf : Except (Nat × Nat) Nat → Except (Nat × Nat) (VT × Nat)
  | .error e => .error e
  | .ok a => .ok (mkN, a)
def noneS (s : ByteArray) (a : Nat) : Except (Nat × Nat) (VT × Nat) := noneOf (wordS s [110, 111, 110, 101] a)

set_option maxHeartbeats 4000000 in
theorem none_any (rb : Nat) (s : ByteArray) (a q : Nat) (w : World) (hb : Rd w rb s a q) (ha : a ≤ s.size) (hs : s.size ≤ 140737488355328) :
    Calls Tryz.prog 66 #[.pointer (some ⟨rb, 0, none⟩)] w fun x w' => RdPost rb s q w (noneS s a) VT.val x w' := by
  have HB := hid hb
  have hrb := hb.lt
  obtain ⟨R, hR⟩ : ∃ R, wordS s [110, 111, 110, 101] a = R := ⟨_, rfl⟩
  have HN : Hid (noneS s a = noneOf R) := by unfold Hid noneS; rw [hR]
  clear hb
  go_enter Tryz.func66, Tryz.ntmps66
  go_wp2_with fail
  go_loopw [4] (fun x wr => ∃ k : Nat, k ≤ 4 ∧ x = .int .i64 (k : Int) ∧ a + k ≤ s.size ∧ wordS s ([110, 111, 110, 101].drop k) (a + k) = R ∧ Rd wr rb s (a + k) q ∧ Box wr w.heap.size #[.int .i64 0, .int .i64 0, .string ⟨#[]⟩, .slice none 0 0] 24 ∧ But (fun y => y = rb) w wr) (fun x _ => (4 - intOf x).toNat)
  case atStart => exact ⟨0, by omega, rfl, ha, hR, HB.out.below ((Below.refl _ _).alloc (Nat.le_refl _) _), Box.new w _ 24, (But.one w rb).alloc _⟩
  case round =>
    obtain ⟨k, hk, rfl, hak, hw, hrd, hbx, hbut⟩ := hrel
    have HP : Hid (∀ W, Below wr.heap.size wr W → Calls Tryz.prog 63 #[.pointer (some ⟨rb, 0, none⟩)] W fun x w' => x = .returned (.int .u8 (pk s (a + k))) ∧ Below W.heap.size W w') := fun W hW => peek_any rb s (a + k) q W (hrd.below hW) hak
    have HRd := hid hrd
    have HBx := hid hbx
    have HBut := hid hbut
    have hin : w.heap.size < wr.heap.size := hbx.lt
    clear hrd hbx hbut
    by_cases hk4 : k = 4
    · subst hk4
      have hRo : R = .ok (a + 4) := hw.symm
      have HX : Hid (noneS s a = .ok (mkN, a + 4)) := by unfold Hid; rw [HN.out, hRo]; rfl
      have z0 := HBx.out.cell 0
      have z1 := HBx.out.cell 1
      have z2 := HBx.out.cell 2
      have z3 := HBx.out.cell 3
      have g0 := HBx.out.frozen 0
      have g1 := HBx.out.frozen 1
      have g2 := HBx.out.frozen 2
      have g3 := HBx.out.frozen 3
      simp at z0 z1 z2 z3
      clear HP hw hRo
      have HKb := hid (set4_but (b := w.heap.size) mkN HBut.out (fun h => by omega))
      have HRb := hid (show Rd (set4 wr w.heap.size mkN) rb s (a + 4) q from Box.but HRd.out (set4_but (X := fun y => y = w.heap.size) mkN (But.one wr w.heap.size) (fun _ => rfl)) (fun h => by omega))
      go_wp2
      refine bodyPost_ret (v := .agg #[.int .i64 0, .int .i64 0, .string ⟨#[]⟩, .slice none 0 0]) (by simp [results, Tryz.results66, go_sem, z0, z1, z2, z3]) rfl ?_
      exact RdPost.ok HX.out rfl HRb.out HKb.out
    · have hcs : k = 0 ∨ k = 1 ∨ k = 2 ∨ k = 3 := by omega
      clear hk4 hk
      obtain ⟨c, hc⟩ : ∃ c, pk s (a + k) = c := ⟨_, rfl⟩
      have hpos : c ≠ 0 → a + k < s.size := fun h => pk_pos (by rw [hc]; exact h)
      rw [hc] at HP
      have HC := hid hc
      have HW := hid hw
      have HG := hid (fun W => giveUp_any ((a + k : Nat) : Int) 28 W)
      have e1 : IntKind.i64.wrap (((a + k : Nat) : Int) + 1) = ((a + k : Nat) : Int) + 1 := by rw [IntKind.wrap_i64]; omega
      clear hw hc
      generalize hA : a + k = A at *
      rcases hcs with rfl | rfl | rfl | rfl
      · have l0 : ((⟨#[110, 111, 110, 101]⟩ : ByteArray)[0]'(by decide)).toNat = 110 := rfl
        go_wp2_with fail
        go_region_held (fun _ => True) (exact trivial) ((go_at_call 63; refine (HP.out _ (Below.refl _ _).drew).mono ?_; rintro e w1 ⟨rfl, hb1⟩))
        all_goals
          have hb1' : Below wr.heap.size wr w1 := (Below.refl _ _).drew.trans hb1
          have HB1 := hid (HRd.out.below hb1')
          have HBx1 := hid (HBx.out.below hb1')
          have y1 := HB1.out.cell 1
          have f1 := HB1.out.frozen 1
          simp at y1
          have HK1 := hid (HBut.out.trans (But.ofBelow hb1'))
          clear hb1 hb1'
          by_cases hcc : c = 110
          · subst hcc
            have hlt := hpos (by decide)
            have HS := hid (Rd.to HB1.out ((A : Int) + 1) (A + 1) (by omega))
            have HKs := hid (HK1.out.setAt 1 (.int .i64 ((A : Int) + 1)))
            have HBs := hid (Box.but HBx1.out ((But.one w1 rb).setAt 1 (.int .i64 ((A : Int) + 1))) (fun h => by omega))
            have HWs : Hid (wordS s ([110, 111, 110, 101].drop (0 + 1)) (A + 1) = R) := by unfold Hid; rw [← HW.out]; exact (if_pos HC.out).symm
            go_wp2
            go_roundw
            case measure => decide
            exact ⟨0 + 1, by omega, rfl, by omega, by rw [show a + (0 + 1) = A + 1 by omega]; exact HWs.out, by rw [show a + (0 + 1) = A + 1 by omega]; exact HS.out, HBs.out, HKs.out⟩
          · have e2 : ((c : Int) != 110) = true := by simp; omega
            have HX : Hid (noneS s a = .error (A, 28)) := by unfold Hid; rw [HN.out, ← HW.out]; show noneOf (if pk s A = 110 then _ else _) = _; rw [if_neg (by rw [HC.out]; exact hcc)]; rfl
            go_wp2_with fail
            refine (HG.out _).mono ?_
            rintro e w2 ⟨rfl, hw2⟩
            subst w2
            exact ⟨rfl, RdPost.err HX.out rfl HK1.out⟩
      · have l0 : ((⟨#[110, 111, 110, 101]⟩ : ByteArray)[1]'(by decide)).toNat = 111 := rfl
        go_wp2_with fail
        go_region_held (fun _ => True) (exact trivial) ((go_at_call 63; refine (HP.out _ (Below.refl _ _).drew).mono ?_; rintro e w1 ⟨rfl, hb1⟩))
        all_goals
          have hb1' : Below wr.heap.size wr w1 := (Below.refl _ _).drew.trans hb1
          have HB1 := hid (HRd.out.below hb1')
          have HBx1 := hid (HBx.out.below hb1')
          have y1 := HB1.out.cell 1
          have f1 := HB1.out.frozen 1
          simp at y1
          have HK1 := hid (HBut.out.trans (But.ofBelow hb1'))
          clear hb1 hb1'
          by_cases hcc : c = 111
          · subst hcc
            have hlt := hpos (by decide)
            have HS := hid (Rd.to HB1.out ((A : Int) + 1) (A + 1) (by omega))
            have HKs := hid (HK1.out.setAt 1 (.int .i64 ((A : Int) + 1)))
            have HBs := hid (Box.but HBx1.out ((But.one w1 rb).setAt 1 (.int .i64 ((A : Int) + 1))) (fun h => by omega))
            have HWs : Hid (wordS s ([110, 111, 110, 101].drop (1 + 1)) (A + 1) = R) := by unfold Hid; rw [← HW.out]; exact (if_pos HC.out).symm
            go_wp2
            go_roundw
            case measure => decide
            exact ⟨1 + 1, by omega, rfl, by omega, by rw [show a + (1 + 1) = A + 1 by omega]; exact HWs.out, by rw [show a + (1 + 1) = A + 1 by omega]; exact HS.out, HBs.out, HKs.out⟩
          · have e2 : ((c : Int) != 111) = true := by simp; omega
            have HX : Hid (noneS s a = .error (A, 28)) := by unfold Hid; rw [HN.out, ← HW.out]; show noneOf (if pk s A = 111 then _ else _) = _; rw [if_neg (by rw [HC.out]; exact hcc)]; rfl
            go_wp2_with fail
            refine (HG.out _).mono ?_
            rintro e w2 ⟨rfl, hw2⟩
            subst w2
            exact ⟨rfl, RdPost.err HX.out rfl HK1.out⟩
      · have l0 : ((⟨#[110, 111, 110, 101]⟩ : ByteArray)[2]'(by decide)).toNat = 110 := rfl
        go_wp2_with fail
        go_region_held (fun _ => True) (exact trivial) ((go_at_call 63; refine (HP.out _ (Below.refl _ _).drew).mono ?_; rintro e w1 ⟨rfl, hb1⟩))
        all_goals
          have hb1' : Below wr.heap.size wr w1 := (Below.refl _ _).drew.trans hb1
          have HB1 := hid (HRd.out.below hb1')
          have HBx1 := hid (HBx.out.below hb1')
          have y1 := HB1.out.cell 1
          have f1 := HB1.out.frozen 1
          simp at y1
          have HK1 := hid (HBut.out.trans (But.ofBelow hb1'))
          clear hb1 hb1'
          by_cases hcc : c = 110
          · subst hcc
            have hlt := hpos (by decide)
            have HS := hid (Rd.to HB1.out ((A : Int) + 1) (A + 1) (by omega))
            have HKs := hid (HK1.out.setAt 1 (.int .i64 ((A : Int) + 1)))
            have HBs := hid (Box.but HBx1.out ((But.one w1 rb).setAt 1 (.int .i64 ((A : Int) + 1))) (fun h => by omega))
            have HWs : Hid (wordS s ([110, 111, 110, 101].drop (2 + 1)) (A + 1) = R) := by unfold Hid; rw [← HW.out]; exact (if_pos HC.out).symm
            go_wp2
            go_roundw
            case measure => decide
            exact ⟨2 + 1, by omega, rfl, by omega, by rw [show a + (2 + 1) = A + 1 by omega]; exact HWs.out, by rw [show a + (2 + 1) = A + 1 by omega]; exact HS.out, HBs.out, HKs.out⟩
          · have e2 : ((c : Int) != 110) = true := by simp; omega
            have HX : Hid (noneS s a = .error (A, 28)) := by unfold Hid; rw [HN.out, ← HW.out]; show noneOf (if pk s A = 110 then _ else _) = _; rw [if_neg (by rw [HC.out]; exact hcc)]; rfl
            go_wp2_with fail
            refine (HG.out _).mono ?_
            rintro e w2 ⟨rfl, hw2⟩
            subst w2
            exact ⟨rfl, RdPost.err HX.out rfl HK1.out⟩
      · have l0 : ((⟨#[110, 111, 110, 101]⟩ : ByteArray)[3]'(by decide)).toNat = 101 := rfl
        go_wp2_with fail
        go_region_held (fun _ => True) (exact trivial) ((go_at_call 63; refine (HP.out _ (Below.refl _ _).drew).mono ?_; rintro e w1 ⟨rfl, hb1⟩))
        all_goals
          have hb1' : Below wr.heap.size wr w1 := (Below.refl _ _).drew.trans hb1
          have HB1 := hid (HRd.out.below hb1')
          have HBx1 := hid (HBx.out.below hb1')
          have y1 := HB1.out.cell 1
          have f1 := HB1.out.frozen 1
          simp at y1
          have HK1 := hid (HBut.out.trans (But.ofBelow hb1'))
          clear hb1 hb1'
          by_cases hcc : c = 101
          · subst hcc
            have hlt := hpos (by decide)
            have HS := hid (Rd.to HB1.out ((A : Int) + 1) (A + 1) (by omega))
            have HKs := hid (HK1.out.setAt 1 (.int .i64 ((A : Int) + 1)))
            have HBs := hid (Box.but HBx1.out ((But.one w1 rb).setAt 1 (.int .i64 ((A : Int) + 1))) (fun h => by omega))
            have HWs : Hid (wordS s ([110, 111, 110, 101].drop (3 + 1)) (A + 1) = R) := by unfold Hid; rw [← HW.out]; exact (if_pos HC.out).symm
            go_wp2
            go_roundw
            case measure => decide
            exact ⟨3 + 1, by omega, rfl, by omega, by rw [show a + (3 + 1) = A + 1 by omega]; exact HWs.out, by rw [show a + (3 + 1) = A + 1 by omega]; exact HS.out, HBs.out, HKs.out⟩
          · have e2 : ((c : Int) != 101) = true := by simp; omega
            have HX : Hid (noneS s a = .error (A, 28)) := by unfold Hid; rw [HN.out, ← HW.out]; show noneOf (if pk s A = 101 then _ else _) = _; rw [if_neg (by rw [HC.out]; exact hcc)]; rfl
            go_wp2_with fail
            refine (HG.out _).mono ?_
            rintro e w2 ⟨rfl, hw2⟩
            subst w2
            exact ⟨rfl, RdPost.err HX.out rfl HK1.out⟩
end Go.Proofs.YtdmhemofhmfkoabGreatDoor
