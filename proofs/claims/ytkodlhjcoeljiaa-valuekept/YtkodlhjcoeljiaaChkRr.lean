import Derived.Test.YtkodlhjcoeljiaaChkRS
import Derived.Test.YtkodlhjcoeljiaaCheckR
namespace Go.Proofs.Ytkodlhjcoeljiaa
open Go.RowKit
set_option maxRecDepth 8000

set_option maxHeartbeats 1000000 in
theorem refCheckRecord_any (r : RT) (w : World) (S : Nat → Prop) (hin : RT.In w S r) :
    Calls Try.prog 24 #[r.val] w fun e w' => e = .returned (.int .i64 (chkRec r)) ∧ Below w.heap.size w w' := by
  have HC : Hid (∀ W, Below w.heap.size w W → Calls Try.prog 11 #[r.v.val] W fun e w' => e = .returned (.int .i64 (chk r.v 0 0).1) ∧ Below W.heap.size W w') := fun W hW => refCheck_any r.v W S (hin.v.below hW)
  unfold VT.val at HC
  have HL : Hid (Ints w S r.p r.n r.c r.loop) := hin.l
  have hks := hin.k
  have hnn := hin.l.nn
  have HW : Hid (Below w.heap.size w (w.alloc (.cells #[.string r.key, .int .i64 r.v.kind, .int .i64 r.v.int, .string r.v.text, .slice r.v.p r.v.n r.v.c, .slice r.p r.n r.c] 47))) := (Below.refl _ _).alloc (Nat.le_refl _) _
  have HB := hid (Box.new w #[.string r.key, .int .i64 r.v.kind, .int .i64 r.v.int, .string r.v.text, .slice r.v.p r.v.n r.v.c, .slice r.p r.n r.c] 47)
  have E : Hid (chkRec r = if 12 < r.key.size then 24 else if (chk r.v 0 0).1 ≠ 0 then (chk r.v 0 0).1 else if 3 < r.n then 25 else firstN (fun j => chkLoop (r.loop j)) r.n) := rfl
  unfold RT.val
  generalize chkRec r = res at *
  clear hin
  by_cases hk : 12 < r.key.size
  · have hk' : (12 : Int) < (r.key.size : Int) := by omega
    have e : res = 24 := by rw [E.out, if_pos hk]
    go_enter Try.func24, Try.ntmps24
    go_wp2
    go_ret
    exact ⟨by first | rfl | (rw [e]; rfl), HW.out⟩
  · have hk' : ¬ (12 : Int) < (r.key.size : Int) := by omega
    have E1 : Hid (res = if (chk r.v 0 0).1 ≠ 0 then (chk r.v 0 0).1 else if 3 < r.n then 25 else firstN (fun j => chkLoop (r.loop j)) r.n) := by unfold Hid; rw [E.out, if_neg hk]
    go_enter Try.func24, Try.ntmps24
    go_wp2_with fail
    refine (HC.out _ HW.out).mono ?_
    rintro e w1 ⟨rfl, hb1⟩
    have hB1 := HB.out.below hb1
    have hbw := HW.out.trans (hb1.mono HW.out.size)
    have x5 := hB1.cell 5
    simp at x5
    have HX := hid (And.intro hB1 hbw)
    clear hB1 hb1
    by_cases hc : (chk r.v 0 0).1 = 0
    · have E2 : Hid (res = if 3 < r.n then 25 else firstN (fun j => chkLoop (r.loop j)) r.n) := by unfold Hid; rw [E1.out, if_neg (by rw [hc]; simp)]
      rw [hc]
      by_cases hn3 : 3 < r.n
      · have hn3' : (3 : Int) < (r.n : Int) := by omega
        have e : res = 25 := by rw [E2.out, if_pos hn3]
        go_wp2
        go_ret
        exact ⟨by first | rfl | (rw [e]; rfl), hbw⟩
      · have hn3' : ¬ (3 : Int) < (r.n : Int) := by omega
        have E3 : Hid (res = firstN (fun j => chkLoop (r.loop j)) r.n) := by unfold Hid; rw [E2.out, if_neg hn3]
        go_wp2_with fail
        go_loopw [4] (fun x wr => ∃ j : Nat, j ≤ r.n ∧ x = .int .i64 j ∧ firstN (fun j => chkLoop (r.loop j)) j = 0 ∧ wr = w1) (fun x _ => r.n - (intOf x).toNat)
        case atStart => exact ⟨0, Nat.zero_le _, rfl, rfl, rfl⟩
        case round =>
          obtain ⟨j, hj, rfl, hf, hwr⟩ := hrel
          subst wr
          have HF := hid hf
          clear hf
          by_cases hlt : j < r.n
          · have hlt' : (j : Int) < (r.n : Int) := by omega
            obtain ⟨bb, o, hp, hSb, hbl, hat⟩ := HL.out.at_ (show 0 < r.n by omega)
            have d0 := (hbw.cell (p := ⟨bb, o + j, none⟩) hbl).trans (hat j hlt)
            rw [hp] at x5 ⊢
            clear hat
            by_cases h0 : r.loop j < 0
            · have e : res = 25 := by
                have hl : chkLoop (r.loop j) = 25 := by unfold chkLoop; rw [if_pos (.inl h0)]
                rw [E3.out, firstN_hit HF.out hlt (by simp only [hl]; decide)]; exact hl
              go_wp2
              go_ret
              exact ⟨by first | rfl | (rw [e]; rfl), hbw⟩
            · by_cases h9 : 9 < r.loop j
              · have e : res = 25 := by
                  have hl : chkLoop (r.loop j) = 25 := by unfold chkLoop; rw [if_pos (.inr h9)]
                  rw [E3.out, firstN_hit HF.out hlt (by simp only [hl]; decide)]; exact hl
                go_wp2
                go_ret
                exact ⟨by first | rfl | (rw [e]; rfl), hbw⟩
              · have e : Hid (firstN (fun j => chkLoop (r.loop j)) (j + 1) = 0) := by
                  unfold Hid
                  rw [firstN_succ HF.out]; unfold chkLoop; rw [if_neg (by omega)]
                go_wp2
                go_roundw
                case rel => exact ⟨j + 1, by omega, by go_num, e.out, by first | rfl | trivial⟩
                case measure => simp [intOf]; omega
          · have hje : j = r.n := by omega
            have e : res = 0 := by rw [E3.out, ← hje]; exact HF.out
            have hlt' : ¬ (j : Int) < (r.n : Int) := by omega
            go_wp2
            go_ret
            exact ⟨by first | rfl | (rw [e]; rfl), hbw⟩
    · have hc' : ¬ ((chk r.v 0 0).1 : Int) = 0 := by omega
      have e : res = (chk r.v 0 0).1 := by rw [E1.out, if_pos hc]
      go_wp2
      go_ret
      exact ⟨by first | rfl | (rw [e]; rfl), hbw⟩
end Go.Proofs.Ytkodlhjcoeljiaa
