import Derived.Test.YtikfpoabaaiegaaPack11
import Derived.Test.YtikfpoabaaiegaaPack14
import Derived.Test.YtikfpoabaaiegaaWpE
namespace Go.Proofs.Ytikfpoabaaiegaa
open Go.RowKit
set_option maxRecDepth 8000

set_option maxHeartbeats 1000000 in
theorem checkRecord_any (r : RT) (w : World) (S : Nat → Prop) (hin : RT.In w S r) (hS : ∀ b, S b → b < w.heap.size) :
    Calls Try.prog 65 #[r.val] w fun e w' => e = .returned (.int .i64 (chkRec r)) ∧ Below w.heap.size w w' := by
  have HC : Hid (∀ W, Below w.heap.size w W → Calls Try.prog 112 #[r.v.val] W fun e w' => e = .returned (.int .i64 (chk r.v 0 0).1) ∧ Below W.heap.size W w') := fun W hW => check_any r.v W S (hin.v.below hW) (fun b hb => Nat.lt_of_lt_of_le (hS b hb) hW.size)
  unfold VT.val at HC
  have HL : Hid (Ints w S r.p r.n r.c r.loop) := hin.l
  have hks := hin.k
  have hnn := hin.l.nn
  have HW : Hid (Below w.heap.size w (w.alloc (.cells #[.string r.key, .int .i64 r.v.kind, .int .i64 r.v.int, .string r.v.text, .slice r.v.p r.v.n r.v.c, .slice r.p r.n r.c] 27))) := (Below.refl _ _).alloc (Nat.le_refl _) _
  have HB := hid (Box.new w #[.string r.key, .int .i64 r.v.kind, .int .i64 r.v.int, .string r.v.text, .slice r.v.p r.v.n r.v.c, .slice r.p r.n r.c] 27)
  have E : Hid (chkRec r = if 12 < r.key.size then 24 else if (chk r.v 0 0).1 ≠ 0 then (chk r.v 0 0).1 else if 3 < r.n then 25 else firstC (fun j => chkLoop (r.loop j)) r.n) := rfl
  unfold RT.val
  generalize chkRec r = res at *
  clear hin hS
  by_cases hk : 12 < r.key.size
  · have hk' : (12 : Int) < (r.key.size : Int) := by omega
    have e : res = 24 := by rw [E.out, if_pos hk]
    go_enter Try.func65, Try.ntmps65
    go_wp2
    go_ret
    exact ⟨by first | rfl | (rw [e]; rfl), HW.out⟩
  · have hk' : ¬ (12 : Int) < (r.key.size : Int) := by omega
    have E1 : Hid (res = if (chk r.v 0 0).1 ≠ 0 then (chk r.v 0 0).1 else if 3 < r.n then 25 else firstC (fun j => chkLoop (r.loop j)) r.n) := by unfold Hid; rw [E.out, if_neg hk]
    go_enter Try.func65, Try.ntmps65
    go_wp2_with fail
    refine (HC.out _ HW.out).mono ?_
    rintro e w1 ⟨rfl, hb1⟩
    have hB1 := HB.out.below hb1
    have hbw := HW.out.trans (hb1.mono HW.out.size)
    have x5 := hB1.cell 5
    simp at x5
    have HX := hid (And.intro hB1 hbw)
    clear hB1 hb1
    by_cases hc : (chk r.v 0 0).1 = 0
    · have E2 : Hid (res = if 3 < r.n then 25 else firstC (fun j => chkLoop (r.loop j)) r.n) := by unfold Hid; rw [E1.out, if_neg (by rw [hc]; simp)]
      rw [hc]
      by_cases hn3 : 3 < r.n
      · have hn3' : (3 : Int) < (r.n : Int) := by omega
        have e : res = 25 := by rw [E2.out, if_pos hn3]
        go_wp2
        go_ret
        exact ⟨by first | rfl | (rw [e]; rfl), hbw⟩
      · have hn3' : ¬ (3 : Int) < (r.n : Int) := by omega
        have E3 : Hid (res = firstC (fun j => chkLoop (r.loop j)) r.n) := by unfold Hid; rw [E2.out, if_neg hn3]
        go_wp2_with fail
        go_loopw [23] (fun x wr => ∃ j : Nat, j ≤ r.n ∧ x = .int .i64 j ∧ firstC (fun j => chkLoop (r.loop j)) j = 0 ∧ wr = w1) (fun x _ => r.n - (intOf x).toNat)
        case atStart => exact ⟨0, Nat.zero_le _, rfl, rfl, rfl⟩
        case round =>
          obtain ⟨j, hj, rfl, hf, hwr⟩ := hrel
          subst wr
          have HF := hid hf
          clear hf
          by_cases hlt : j < r.n
          · have hlt' : (j : Int) < (r.n : Int) := by omega
            obtain ⟨bb, o, hp, hSb, hbl, hat⟩ := HL.out.at_ (show 0 < r.n by omega)
            have d0 := (hbw.cell (p := ⟨bb, o + j, none⟩) hbl).trans (hat j hlt)
            rw [hp]
            clear hat
            by_cases h0 : r.loop j < 0
            · have e : res = 25 := by
                have hl : chkLoop (r.loop j) = 25 := by unfold chkLoop; rw [if_pos (.inl h0)]
                rw [E3.out, firstC_hit HF.out hlt (by simp only [hl]; decide)]; exact hl
              go_wp2
              go_ret
              exact ⟨by first | rfl | (rw [e]; rfl), hbw⟩
            · by_cases h9 : 9 < r.loop j
              · have e : res = 25 := by
                  have hl : chkLoop (r.loop j) = 25 := by unfold chkLoop; rw [if_pos (.inr h9)]
                  rw [E3.out, firstC_hit HF.out hlt (by simp only [hl]; decide)]; exact hl
                go_wp2
                go_ret
                exact ⟨by first | rfl | (rw [e]; rfl), hbw⟩
              · have e : Hid (firstC (fun j => chkLoop (r.loop j)) (j + 1) = 0) := by
                  unfold Hid
                  rw [firstC_succ HF.out]; unfold chkLoop; rw [if_neg (by omega)]
                go_wp2
                go_roundw
                case rel => exact ⟨j + 1, by omega, by go_num, e.out, by first | rfl | trivial⟩
                case measure => simp [intOf]; omega
          · have hje : j = r.n := by omega
            have e : res = 0 := by rw [E3.out, ← hje]; exact HF.out
            have hlt' : ¬ (j : Int) < (r.n : Int) := by omega
            go_wp2
            go_ret
            exact ⟨by first | rfl | (rw [e]; rfl), hbw⟩
    · have hc' : ¬ ((chk r.v 0 0).1 : Int) = 0 := by omega
      have e : res = (chk r.v 0 0).1 := by rw [E1.out, if_pos hc]
      go_wp2
      go_ret
      exact ⟨by first | rfl | (rw [e]; rfl), hbw⟩
end Go.Proofs.Ytikfpoabaaiegaa

namespace Go.Proofs.Ytikfpoabaaiegaa
open Go.RowKit
set_option maxRecDepth 8000

set_option maxHeartbeats 1000000 in
theorem checkVals_any (t : VT) (w : World) (S : Nat → Prop) (hin : VT.In w S t) (hS : ∀ b, S b → b < w.heap.size) :
    Calls Try.prog 98 #[.slice t.p t.n t.c] w fun e w' => e = .returned (.int .i64 (chkVals t)) ∧ Below w.heap.size w w' := by
  have HI := hid hin
  have HSS := hid hS
  obtain ⟨k, i, s, n, p, c, f, rfl⟩ := hin.mk_
  have E : Hid (chkVals (.mk k i s n p c f) = if 6 < n then 27 else firstC (fun q => (chk (f q) 0 0).1) n) := rfl
  generalize chkVals (.mk k i s n p c f) = res at *
  have hnn := hin.fit.nn
  simp only [VT.p_mk, VT.n_mk, VT.c_mk] at hnn ⊢
  clear hin hS
  by_cases hn : 6 < n
  · have hn' : (6 : Int) < (n : Int) := by omega
    have e : res = 27 := by rw [E.out, if_pos hn]
    go_enter Try.func98, Try.ntmps98
    go_wp2
    go_ret
    exact ⟨by first | rfl | (rw [e]; rfl), Below.refl _ _⟩
  · have hn' : ¬ (6 : Int) < (n : Int) := by omega
    have E1 : Hid (res = firstC (fun q => (chk (f q) 0 0).1) n) := by unfold Hid; rw [E.out, if_neg hn]
    go_enter Try.func98, Try.ntmps98
    go_wp2_with fail
    go_loopw [11] (fun x wr => ∃ j : Nat, j ≤ n ∧ x = .int .i64 j ∧ firstC (fun q => (chk (f q) 0 0).1) j = 0 ∧ Below w.heap.size w wr) (fun x _ => n - (intOf x).toNat)
    case atStart => exact ⟨0, Nat.zero_le _, rfl, rfl, Below.refl _ _⟩
    case round =>
      obtain ⟨j, hj, rfl, hf, hbel⟩ := hrel
      have HF := hid hf
      clear hf
      by_cases hlt : j < n
      · have hlt' : (j : Int) < (n : Int) := by omega
        obtain ⟨bb, o, hp, hSb, hbl, hat⟩ := HI.out.at_ (show 0 < (VT.mk k i s n p c f).n from by simp only [VT.n]; omega)
        simp only [VT.p_mk] at hp
        subst hp
        obtain ⟨d0, d1, d2, d3⟩ := (hat j hlt).kept (hbel.block bb hbl)
        simp only [VT.item_mk] at d0 d1 d2 d3
        have HC : Hid (∀ W, Below wr.heap.size wr W → Calls Try.prog 112 #[(f j).val] W fun e w' => e = .returned (.int .i64 (chk (f j) 0 0).1) ∧ Below W.heap.size W w') := fun W hW =>
          check_any (f j) W S (((HI.out.sub hlt).kept hbel.size fun b hb hl => hbel.block b hl).below hW) (fun b hb => Nat.lt_of_lt_of_le (HSS.out b hb) (Nat.le_trans hbel.size hW.size))
        unfold VT.val at HC
        have HBe := hid hbel
        have hsw := hbel.size
        clear hat hbel
        go_wp2_with fail
        refine (HC.out _ ((Below.refl _ _).alloc (Nat.le_refl _) _)).mono ?_
        rintro e w2 ⟨rfl, hb2⟩
        have HB2 : Hid (Below w.heap.size w w2) := (HBe.out.alloc hsw _).trans (hb2.mono (by simp; omega))
        clear hb2 d0 d1 d2 d3
        by_cases hc : (chk (f j) 0 0).1 = 0
        · have HF2 : Hid (firstC (fun q => (chk (f q) 0 0).1) (j + 1) = 0) := by unfold Hid; rw [firstC_succ HF.out]; exact hc
          rw [hc]
          clear hc
          go_wp2
          go_roundw
          case rel => exact ⟨j + 1, by omega, by go_num, HF2.out, HB2.out⟩
          case measure => simp [intOf]; omega
        · have hc' : ¬ ((chk (f j) 0 0).1 : Int) = 0 := by omega
          have e : Hid (res = (chk (f j) 0 0).1) := by unfold Hid; rw [E1.out, firstC_hit HF.out hlt hc]
          go_wp2
          go_ret
          exact ⟨by rw [e.out]; rfl, HB2.out⟩
      · have hje : j = n := by omega
        have e : Hid (res = 0) := by unfold Hid; rw [E1.out, ← hje]; exact HF.out
        have hlt' : ¬ (j : Int) < (n : Int) := by omega
        go_wp2
        go_ret
        exact ⟨by rw [e.out]; rfl, hbel⟩

set_option maxHeartbeats 2000000 in
theorem checkState_any (s : ST) (w : World) (S : Nat → Prop) (hin : ST.In w S s) (hS : ∀ b, S b → b < w.heap.size) :
    Calls Try.prog 53 #[s.val] w fun e w' => e = .returned (.int .i64 (chkState s)) ∧ Below w.heap.size w w' := by
  have E : Hid (chkState s = if s.num < 0 ∨ 1073741824 < s.num then 26 else if 64 < s.n then 27 else firstC (chkCell s.cell) s.n) := rfl
  generalize chkState s = res at *
  have HI := hid hin
  have HSS := hid hS
  obtain ⟨num, p, n, c, f⟩ := s
  have hnn := hin.nn
  unfold ST.val
  simp only at E hnn ⊢
  have HW : Hid (Below w.heap.size w (w.alloc (.cells #[.int .i64 num, .slice p n c] 30))) := (Below.refl _ _).alloc (Nat.le_refl _) _
  have HB := hid (Box.new w #[.int .i64 num, .slice p n c] 30)
  clear hin hS
  by_cases h0 : num < 0
  · have e : Hid (res = 26) := by unfold Hid; rw [E.out, if_pos (.inl h0)]
    go_enter Try.func53, Try.ntmps53
    go_wp2
    go_ret
    exact ⟨by rw [e.out]; rfl, HW.out⟩
  · by_cases h1 : 1073741824 < num
    · have e : Hid (res = 26) := by unfold Hid; rw [E.out, if_pos (.inr h1)]
      go_enter Try.func53, Try.ntmps53
      go_wp2
      go_ret
      exact ⟨by rw [e.out]; rfl, HW.out⟩
    · by_cases h64 : 64 < n
      · have h64' : (64 : Int) < (n : Int) := by omega
        have e : Hid (res = 27) := by unfold Hid; rw [E.out, if_neg (by omega), if_pos h64]
        go_enter Try.func53, Try.ntmps53
        go_wp2
        go_ret
        exact ⟨by rw [e.out]; rfl, HW.out⟩
      · have h64' : ¬ (64 : Int) < (n : Int) := by omega
        have E1 : Hid (res = firstC (chkCell f) n) := by unfold Hid; rw [E.out, if_neg (by omega), if_neg h64]
        go_enter Try.func53, Try.ntmps53
        go_wp2_with fail
        go_loopw [21] (fun x wr => ∃ j : Nat, j ≤ n ∧ x = .int .i64 j ∧ firstC (chkCell f) j = 0 ∧ Box wr w.heap.size #[.int .i64 num, .slice p n c] 30 ∧ Below w.heap.size w wr) (fun x _ => n - (intOf x).toNat)
        case atStart => exact ⟨0, Nat.zero_le _, rfl, rfl, HB.out, HW.out⟩
        case round =>
          obtain ⟨j, hj, rfl, hf, hBx, hbel⟩ := hrel
          have HF := hid hf
          have x1 := hBx.cell 1
          simp at x1
          have hxl := hBx.lt
          have HX := hid (And.intro hBx hbel)
          clear hf hBx
          by_cases hlt : j < n
          · have hlt' : (j : Int) < (n : Int) := by omega
            obtain ⟨bb, o, hp, hSb, hbl, hat⟩ := HI.out.at_ (show 0 < n by omega)
            simp only at hp
            subst hp
            obtain ⟨d0, d1⟩ := (hat j hlt).kept (hbel.block bb hbl)
            simp only at d0 d1
            have hks := (HI.out.each j hlt).fit.s1
            simp only at hks
            have hbl' : bb < wr.heap.size := Nat.lt_of_lt_of_le hbl hbel.size
            have hsw := hbel.size
            have HC : Hid (∀ W, Below wr.heap.size wr W → Calls Try.prog 98 #[.slice (f j).p (f j).n (f j).c] W fun e w' => e = .returned (.int .i64 (chkVals (f j))) ∧ Below W.heap.size W w') := fun W hW =>
              checkVals_any (f j) W S (((HI.out.each j hlt).kept hbel.size fun b hb hl => hbel.block b hl).below hW) (fun b hb => Nat.lt_of_lt_of_le (HSS.out b hb) (Nat.le_trans hbel.size hW.size))
            by_cases hk : 12 < (f j).text.size
            · have hk' : (12 : Int) < ((f j).text.size : Int) := by omega
              have hl : chkCell f j = 24 := by unfold chkCell; rw [if_pos hk]
              have e : Hid (res = 24) := by unfold Hid; rw [E1.out, firstC_hit HF.out hlt (by rw [hl]; decide), hl]
              have HB2 : Hid (Below w.heap.size w (wr.alloc (.cells #[.string (f j).text, .slice (f j).p (f j).n (f j).c] 154))) := hbel.alloc hsw _
              clear hat hl hbel
              go_wp2
              go_ret
              exact ⟨by rw [e.out]; rfl, HB2.out⟩
            · have hk' : ¬ (12 : Int) < ((f j).text.size : Int) := by omega
              have hB2 : Box (wr.alloc (.cells #[.string (f j).text, .slice (f j).p (f j).n (f j).c] 154)) wr.heap.size #[.string (f j).text, .slice (f j).p (f j).n (f j).c] 154 := Box.new _ _ _
              by_cases hj0 : j = 0
              · subst hj0
                have hl : chkCell f 0 = chkVals (f 0) := by unfold chkCell; rw [if_neg hk, if_neg (by omega)]
                simp only [Nat.zero_mul, Nat.add_zero] at d0 d1
                go_wp2_with fail
                go_region
                all_goals
                  go_wp2_with fail
                  refine (HC.out _ ?_).mono ?_
                  first | exact ((Below.refl _ _).alloc (Nat.le_refl _) _).drew | exact (Below.refl _ _).alloc (Nat.le_refl _) _
                  rintro e w2 ⟨rfl, hb2⟩
                  have hb3 : Below wr.heap.size wr w2 := by
                    refine Below.trans ?_ (hb2.mono ?_)
                    · first | exact ((Below.refl _ _).alloc (Nat.le_refl _) _).drew | exact (Below.refl _ _).alloc (Nat.le_refl _) _
                    · simp
                  have HB2 : Hid (Box w2 w.heap.size #[.int .i64 num, .slice (some ⟨bb, o, none⟩) n c] 30 ∧ Below w.heap.size w w2) := ⟨HX.out.1.below hb3, HX.out.2.trans (hb3.mono hsw)⟩
                  clear hb2 hb3 d0 d1 hbel hat hB2
                  by_cases hc : chkVals (f (0)) = 0
                  · have HF2 : Hid (firstC (chkCell f) (0 + 1) = 0) := by unfold Hid; rw [firstC_succ HF.out, hl]; exact hc
                    rw [hc]
                    clear hc hl
                    go_wp2
                    go_roundw
                    case rel => exact ⟨0 + 1, by omega, by go_num, HF2.out, HB2.out.1, HB2.out.2⟩
                    case measure => simp [intOf]; omega
                  · have hc' : ¬ (chkVals (f (0)) : Int) = 0 := by omega
                    have e : Hid (res = chkVals (f (0))) := by unfold Hid; rw [E1.out, firstC_hit HF.out hlt (by rw [hl]; exact hc), hl]
                    clear hl
                    go_wp2
                    go_ret
                    exact ⟨by rw [e.out]; rfl, HB2.out.2⟩
              · obtain ⟨m, rfl⟩ : ∃ m, j = m + 1 := ⟨j - 1, by omega⟩
                have c0 := ((hat m (show m < n by omega)).kept (hbel.block bb hbl)).c0
                simp only at c0
                have hle := le_not_lt (f (m + 1)).text.toList (f m).text.toList
                cases hb : Op.bytesLess (f m).text.toList (f (m + 1)).text.toList with
                | false =>
                  rw [hb] at hle
                  have hl : chkCell f (m + 1) = 27 := by unfold chkCell; rw [if_neg hk, if_pos ⟨by omega, hb⟩]
                  have e : Hid (res = 27) := by unfold Hid; rw [E1.out, firstC_hit HF.out hlt (by rw [hl]; decide), hl]
                  have HB2 : Hid (Below w.heap.size w (wr.alloc (.cells #[.string (f (m + 1)).text, .slice (f (m + 1)).p (f (m + 1)).n (f (m + 1)).c] 154)).drew) := (hbel.alloc hsw _).drew
                  clear hat hl hbel
                  go_wp2_with fail
                  go_region
                  all_goals
                    go_wp2
                    go_ret
                    exact ⟨by rw [e.out]; rfl, HB2.out⟩
                | true =>
                  rw [hb] at hle
                  have hl : chkCell f (m + 1) = chkVals (f (m + 1)) := by unfold chkCell; rw [if_neg hk, if_neg (by intro h; rw [Nat.add_sub_cancel, hb] at h; cases h.2)]
                  go_wp2_with fail
                  go_region
                  all_goals
                    go_wp2_with fail
                    refine (HC.out _ ?_).mono ?_
                    first | exact ((Below.refl _ _).alloc (Nat.le_refl _) _).drew | exact (Below.refl _ _).alloc (Nat.le_refl _) _
                    rintro e w2 ⟨rfl, hb2⟩
                    have hb3 : Below wr.heap.size wr w2 := by
                      refine Below.trans ?_ (hb2.mono ?_)
                      · first | exact ((Below.refl _ _).alloc (Nat.le_refl _) _).drew | exact (Below.refl _ _).alloc (Nat.le_refl _) _
                      · simp
                    have HB2 : Hid (Box w2 w.heap.size #[.int .i64 num, .slice (some ⟨bb, o, none⟩) n c] 30 ∧ Below w.heap.size w w2) := ⟨HX.out.1.below hb3, HX.out.2.trans (hb3.mono hsw)⟩
                    clear hb2 hb3 d0 d1 hbel hat hB2
                    by_cases hc : chkVals (f (m + 1)) = 0
                    · have HF2 : Hid (firstC (chkCell f) (m + 1 + 1) = 0) := by unfold Hid; rw [firstC_succ HF.out, hl]; exact hc
                      rw [hc]
                      clear hc hl
                      go_wp2
                      go_roundw
                      case rel => exact ⟨m + 1 + 1, by omega, by go_num, HF2.out, HB2.out.1, HB2.out.2⟩
                      case measure => simp [intOf]; omega
                    · have hc' : ¬ (chkVals (f (m + 1)) : Int) = 0 := by omega
                      have e : Hid (res = chkVals (f (m + 1))) := by unfold Hid; rw [E1.out, firstC_hit HF.out hlt (by rw [hl]; exact hc), hl]
                      clear hl
                      go_wp2
                      go_ret
                      exact ⟨by rw [e.out]; rfl, HB2.out.2⟩
          · have hje : j = n := by omega
            have e : Hid (res = 0) := by unfold Hid; rw [E1.out, ← hje]; exact HF.out
            have hlt' : ¬ (j : Int) < (n : Int) := by omega
            go_wp2
            go_ret
            exact ⟨by rw [e.out]; rfl, hbel⟩
end Go.Proofs.Ytikfpoabaaiegaa

namespace Go.Proofs.Ytikfpoabaaiegaa
open Go.RowKit
set_option maxRecDepth 8000

set_option maxHeartbeats 1000000 in
theorem within_any (n : Nat) (b : Nat) (hn : n ≤ b) (w : World) : Calls Try.prog 102 #[.int .i64 n, .int .i64 b] w fun x w' => x = .returned (.bool true) ∧ w' = w := by
  have h1 : (0 : Int) ≤ (n : Int) := by omega
  have h2 : (n : Int) ≤ (b : Int) := by omega
  go_enter Try.func102, Try.ntmps102
  go_wp2
  go_ret
  exact ⟨rfl, rfl⟩
def okPost (w : World) (x : Ending) (w' : World) : Prop := x = .returned (.int .i64 0) ∧ Below w.heap.size w w'
set_option maxHeartbeats 4000000 in
theorem ckRecords_any (l : LT RT) (w : World) (S : Nat → Prop) (hin : LT.In elRec w S l) (hS : ∀ b, S b → b < w.heap.size) (hn : l.n ≤ 256) (hr : ∀ j, j < l.n → chkRec (l.item j) = 0) : Calls Try.prog 105 #[.slice l.p l.n l.c] w fun x w' => okPost w x w' := by
  have HIn := hid hin
  have HR := hid hr
  have HS := hid hS
  obtain ⟨p, n, c, item⟩ := l
  simp only at *
  have hn' : ¬ (256 : Int) < (n : Int) := by omega
  clear hin hr hS
  go_enter Try.func105, Try.ntmps105
  go_wp2_with fail
  go_loopw [11] (fun x wr => ∃ j : Nat, j ≤ n ∧ x = .int .i64 j ∧ Below w.heap.size w wr) (fun x _ => n - (intOf x).toNat)
  case atStart => exact ⟨0, Nat.zero_le _, rfl, Below.refl _ _⟩
  case round =>
    obtain ⟨j, hj, rfl, hbel⟩ := hrel
    by_cases hlt : j < n
    · have hlt' : (j : Int) < (n : Int) := by omega
      obtain ⟨bb, o, hp, hSb, hbl, hat⟩ := HIn.out.at_ (show 0 < n by omega)
      simp only at hp
      subst hp
      have hca : ∀ r u, (elRec.cells (item j))[r]? = some u → wr.cell? ⟨bb, o + j * 6 + r, none⟩ = some u := fun r u hu => (World.cell?_of_block (a := ⟨bb, o + j * 6 + r, none⟩) (hbel.block bb hbl)).trans (hat j hlt r u hu)
      have d0 := hca 0 _ rfl
      have d1 := hca 1 _ rfl
      have d2 := hca 2 _ rfl
      have d3 := hca 3 _ rfl
      have d4 := hca 4 _ rfl
      have d5 := hca 5 _ rfl
      simp only [Nat.add_zero] at d0
      have ha : Below wr.heap.size wr (wr.alloc (.cells #[.string (item j).key, .int .i64 (item j).v.kind, .int .i64 (item j).v.int, .string (item j).v.text, .slice (item j).v.p (item j).v.n (item j).v.c, .slice (item j).p (item j).n (item j).c] 27)) := (Below.refl _ _).alloc (Nat.le_refl _) _
      have hi : RT.In w S (item j) := HIn.out.each j hlt
      have HC := hid (checkRecord_any (item j) _ S ((hi.kept hbel.size fun b _ hl => hbel.block b hl).below ha) (fun b hb => by have := HS.out b hb; have := hbel.size; have := ha.size; omega))
      have HB := hid (hbel.trans (ha.mono hbel.size))
      have hws := hbel.size
      have h0 := HR.out j hlt
      unfold RT.val at HC
      clear hat hca ha hi hbel
      go_wp2_with fail
      refine HC.out.mono ?_
      rintro e w2 ⟨rfl, hb2⟩
      have HB2 := hid (HB.out.trans (hb2.mono (by have := HB.out.size; simp; omega)))
      rw [h0]
      clear hb2 HC d0 d1 d2 d3 d4 d5 h0
      go_wp2
      go_roundw
      case rel => exact ⟨j + 1, by omega, by go_num, HB2.out⟩
      case measure => simp [intOf]; omega
    · obtain rfl : j = n := by omega
      have hlt' : ¬ (j : Int) < (j : Int) := by omega
      have HF := hid hbel
      clear hbel
      go_wp2
      go_ret
      exact ⟨rfl, HF.out⟩
/-- keys that rise -/
def Rises (l : LT ByteArray) : Prop := ∀ j, j < l.n → (l.item j).size ≤ 12 ∧ (0 < j → Op.bytesLess (l.item (j - 1)).toList (l.item j).toList = true)
set_option maxHeartbeats 4000000 in
theorem ckGone_any (l : LT ByteArray) (w : World) (S : Nat → Prop) (hin : LT.In elStr w S l) (hn : l.n ≤ 64) (hr : Rises l) : Calls Try.prog 134 #[.slice l.p l.n l.c] w fun x w' => okPost w x w' := by
  have HIn := hid hin
  have HR := hid hr
  obtain ⟨p, n, c, item⟩ := l
  simp only at *
  have hn' : ¬ (64 : Int) < (n : Int) := by omega
  clear hin hr
  go_enter Try.func134, Try.ntmps134
  go_wp2_with fail
  go_loopw [10] (fun x wr => ∃ j : Nat, j ≤ n ∧ x = .int .i64 j ∧ wr = w) (fun x _ => n - (intOf x).toNat)
  case atStart => exact ⟨0, Nat.zero_le _, rfl, rfl⟩
  case round =>
    obtain ⟨j, hj, rfl, rfl⟩ := hrel
    by_cases hlt : j < n
    · have hlt' : (j : Int) < (n : Int) := by omega
      obtain ⟨bb, o, hp, hSb, hbl, hat⟩ := HIn.out.at_ (show 0 < n by omega)
      simp only at hp
      subst hp
      have d0 : wr.cell? ⟨bb, o + j, none⟩ = some (.string (item j)) := by simpa [elStr] using hat j hlt 0 _ rfl
      obtain ⟨hk12, hks⟩ := HR.out j hlt
      simp only at hk12 hks
      have hk12' : ¬ (12 : Int) < ((item j).size : Int) := by omega
      cases j with
      | zero =>
        simp only [Nat.add_zero] at d0
        clear hat hks
        go_wp2
        go_roundw
        case rel => exact ⟨0 + 1, by omega, rfl, trivial⟩
        case measure => simp [intOf]; omega
      | succ i =>
        have d1 : wr.cell? ⟨bb, o + i, none⟩ = some (.string (item i)) := by simpa [elStr] using hat i (show i < n by omega) 0 _ rfl
        have hq := hks (by omega)
        simp only [Nat.add_sub_cancel] at hq
        have hle := le_not_lt (item (i + 1)).toList (item i).toList
        rw [hq] at hle
        have hle' : (Op.bytesLess (item (i + 1)).toList (item i).toList || (item (i + 1)).toList == (item i).toList) = false := hle
        have h0 : (0 : Int) < ((i + 1 : Nat) : Int) := by omega
        have hi1 : ((i + 1 : Nat) : Int) - 1 = (i : Int) := by omega
        clear hat hks hq hle
        go_wp2
        go_roundw
        case rel => exact ⟨i + 1 + 1, by omega, by go_num, trivial⟩
        case measure => simp [intOf]; omega
    · obtain rfl : j = n := by omega
      have hlt' : ¬ (j : Int) < (j : Int) := by omega
      go_wp2
      go_ret
      exact ⟨rfl, Below.refl _ _⟩
end Go.Proofs.Ytikfpoabaaiegaa

namespace Go.Proofs.Ytikfpoabaaiegaa
open Go.RowKit
set_option maxRecDepth 8000

set_option maxHeartbeats 4000000 in
theorem ckRow_any (o : OT) (w : World) (S : Nat → Prop) (hin : RT.In w S o.rec_) (hS : ∀ b, S b → b < w.heap.size) (hn : o.num ≤ 1073741824) (hr : chkRec o.rec_ = 0) : Calls Try.prog 62 #[o.val] w fun x w' => okPost w x w' := by
  have ha : Below w.heap.size w (w.alloc (.cells #[.int .i64 (o.num : Int), .string o.rec_.key, .int .i64 o.rec_.v.kind, .int .i64 o.rec_.v.int, .string o.rec_.v.text, .slice o.rec_.v.p o.rec_.v.n o.rec_.v.c, .slice o.rec_.p o.rec_.n o.rec_.c] 43)) := (Below.refl _ _).alloc (Nat.le_refl _) _
  have HW := fun W => within_any o.num 1073741824 hn W
  have HC := hid (checkRecord_any o.rec_ _ S (hin.below ha) (fun b hb => by have := hS b hb; have := ha.size; omega))
  have HA := hid ha
  unfold OT.val
  unfold RT.val at HC
  rw [hr] at HC
  clear hin hS ha
  go_enter Try.func62, Try.ntmps62
  go_wp2_with fail
  refine (HW _).mono ?_
  rintro x w1 ⟨rfl, rfl⟩
  go_wp2_with fail
  refine HC.out.mono ?_
  rintro x w2 ⟨rfl, hb2⟩
  have HB := hid (HA.out.trans (hb2.mono HA.out.size))
  clear hb2 HC
  go_wp2
  go_ret
  exact ⟨rfl, HB.out⟩
set_option maxHeartbeats 4000000 in
theorem ckMan_any (m : MT) (hm : VM m) (w : World) (S : Nat → Prop) (hin : LT.In elRow w S m.rows) : Calls Try.prog 59 #[m.val] w fun x w' => okPost w x w' := by
  have hn := hm.n
  have hid_ := hm.id
  have hrows := hm.rows
  have hbx := Box.new w #[.int .i64 (m.id : Int), .int .u32 (m.sum : Int), .slice m.rows.p m.rows.n m.rows.c] 41
  have c0 := hbx.cell 0
  have c1 := hbx.cell 1
  have c2 := hbx.cell 2
  simp only [List.getElem?_toArray, List.getElem?_cons_zero, List.getElem?_cons_succ] at c0 c1 c2
  have ha : Below w.heap.size w (w.alloc (.cells #[.int .i64 (m.id : Int), .int .u32 (m.sum : Int), .slice m.rows.p m.rows.n m.rows.c] 41)) := (Below.refl _ _).alloc (Nat.le_refl _) _
  have HW := fun W => within_any m.id 9999 hid_ W
  have HIn := hid hin
  have HA := hid ha
  have HR := hid hrows
  unfold MT.val
  obtain ⟨id, sum, ⟨p, n, c, item⟩⟩ := m
  simp only at *
  have hn' : ¬ (12 : Int) < (n : Int) := by omega
  clear hin ha hrows hbx
  go_enter Try.func59, Try.ntmps59
  go_wp2_with fail
  refine (HW _).mono ?_
  rintro x w1 ⟨rfl, hw1⟩
  subst w1
  go_wp2_with fail
  go_loopw [18] (fun x wr => ∃ j : Nat, j ≤ n ∧ x = .int .i64 j ∧ Below w.heap.size w wr) (fun x _ => n - (intOf x).toNat)
  case atStart => exact ⟨0, Nat.zero_le _, rfl, HA.out⟩
  case round =>
    obtain ⟨j, hj, rfl, hbel⟩ := hrel
    by_cases hlt : j < n
    · have hlt' : (j : Int) < (n : Int) := by omega
      obtain ⟨bb, o, hp, hSb, hbl, hat⟩ := HIn.out.at_ (show 0 < n by omega)
      simp only at hp
      subst hp
      have hca : ∀ r u, (elRow.cells (item j))[r]? = some u → wr.cell? ⟨bb, o + j * 2 + r, none⟩ = some u := fun r u hu => (World.cell?_of_block (a := ⟨bb, o + j * 2 + r, none⟩) (hbel.block bb hbl)).trans (hat j hlt r u hu)
      have d0 := hca 0 _ rfl
      have d1 := hca 1 _ rfl
      simp only [Nat.add_zero] at d0
      have ha : Below wr.heap.size wr (wr.alloc (.cells #[.int .i64 ((item j).1 : Int), .int .u32 ((item j).2 : Int)] 110)) := (Below.refl _ _).alloc (Nat.le_refl _) _
      have HW2 := fun W => within_any (item j).1 65536 (HR.out j hlt).1 W
      have HB := hid (hbel.trans (ha.mono hbel.size))
      clear hat hca ha hbel
      go_wp2_with fail
      refine (HW2 _).mono ?_
      rintro e w2 ⟨rfl, hw2⟩
      subst w2
      clear HW2 d0 d1
      go_wp2
      go_roundw
      case rel => exact ⟨j + 1, by omega, by go_num, HB.out⟩
      case measure => simp [intOf]; omega
    · obtain rfl : j = n := by omega
      have hlt' : ¬ (j : Int) < (j : Int) := by omega
      have HF := hid hbel
      clear hbel
      go_wp2
      go_ret
      exact ⟨rfl, HF.out⟩
/-- a segment that can be written -/
structure FG (g : GT) : Prop where
  id : g.id ≤ 9999
  task : g.task ≤ 11
  base : g.base ≤ 9999
  sum : g.sum < 4294967296
  zero0 : g.base = 0 → g.sum = 0 ∧ g.d.num = 0 ∧ g.d.set.n = 0 ∧ g.d.gone.n = 0 ∧ chkState g.st = 0
  zero1 : g.base ≠ 0 → g.st.num = 0 ∧ g.st.n = 0 ∧ chkState ⟨(g.d.num : Int), g.d.set.p, g.d.set.n, g.d.set.c, g.d.set.item⟩ = 0 ∧ g.d.gone.n ≤ 64 ∧ Rises g.d.gone
  ln : g.logs.n ≤ 4
  ln2 : ∀ j, j < g.logs.n → (g.logs.item j).n ≤ 256
  logs : ∀ j, j < g.logs.n → ∀ i, i < (g.logs.item j).n → chkRec ((g.logs.item j).item i) = 0
  pn : g.pend.n ≤ 256
  pend : ∀ j, j < g.pend.n → chkRec (g.pend.item j) = 0
set_option maxHeartbeats 4000000 in
theorem hoks_any (g : GT) (hg : FG g) (w : World) : Calls Try.prog 103 #[g.val] w fun x w' => x = .returned (.bool false) ∧ Below w.heap.size w w' := by
  have hbx := Box.new w #[.int .i64 (g.id : Int), .int .i64 (g.task : Int), .int .i64 (g.base : Int), .int .u32 (g.sum : Int), .int .i64 g.st.num, .slice g.st.p g.st.n g.st.c, .int .i64 (g.d.num : Int), .slice g.d.set.p g.d.set.n g.d.set.c, .slice g.d.gone.p g.d.gone.n g.d.gone.c, .slice g.logs.p g.logs.n g.logs.c, .slice g.pend.p g.pend.n g.pend.c] 38
  have c0 := hbx.cell 0
  have c1 := hbx.cell 1
  have c2 := hbx.cell 2
  have c3 := hbx.cell 3
  have c4 := hbx.cell 4
  have c5 := hbx.cell 5
  have c6 := hbx.cell 6
  have c7 := hbx.cell 7
  have c8 := hbx.cell 8
  have c9 := hbx.cell 9
  have c10 := hbx.cell 10
  simp only [List.getElem?_toArray, List.getElem?_cons_zero, List.getElem?_cons_succ] at c0 c1 c2 c3 c4 c5 c6 c7 c8 c9 c10
  have ha : Below w.heap.size w (w.alloc (.cells #[.int .i64 (g.id : Int), .int .i64 (g.task : Int), .int .i64 (g.base : Int), .int .u32 (g.sum : Int), .int .i64 g.st.num, .slice g.st.p g.st.n g.st.c, .int .i64 (g.d.num : Int), .slice g.d.set.p g.d.set.n g.d.set.c, .slice g.d.gone.p g.d.gone.n g.d.gone.c, .slice g.logs.p g.logs.n g.logs.c, .slice g.pend.p g.pend.n g.pend.c] 38)) := (Below.refl _ _).alloc (Nat.le_refl _) _
  unfold GT.val
  clear hbx ha
  cases hz : ((g.base : Int) == 0)
  · have hne : g.base ≠ 0 := by simpa using hz
    obtain ⟨h1, h2, _⟩ := hg.zero1 hne
    rw [h1, h2] at *
    go_enter Try.func103, Try.ntmps103
    go_wp2
    go_ret
    exact ⟨rfl, (Below.refl _ _).alloc (Nat.le_refl _) _⟩
  · have heq : g.base = 0 := by simpa using hz
    obtain ⟨h1, h2, h3, h4, _⟩ := hg.zero0 heq
    rw [h1, h2, h3, h4] at *
    go_enter Try.func103, Try.ntmps103
    go_wp2
    go_ret
    exact ⟨rfl, (Below.refl _ _).alloc (Nat.le_refl _) _⟩
set_option maxHeartbeats 4000000 in
theorem ckKept_any (g : GT) (hg : FG g) (w : World) (S : Nat → Prop) (hin : GT.In w S g) (hS : ∀ b, S b → b < w.heap.size) : Calls Try.prog 104 #[g.val] w fun x w' => okPost w x w' := by
  have hbx := Box.new w #[.int .i64 (g.id : Int), .int .i64 (g.task : Int), .int .i64 (g.base : Int), .int .u32 (g.sum : Int), .int .i64 g.st.num, .slice g.st.p g.st.n g.st.c, .int .i64 (g.d.num : Int), .slice g.d.set.p g.d.set.n g.d.set.c, .slice g.d.gone.p g.d.gone.n g.d.gone.c, .slice g.logs.p g.logs.n g.logs.c, .slice g.pend.p g.pend.n g.pend.c] 38
  have c0 := hbx.cell 0
  have c1 := hbx.cell 1
  have c2 := hbx.cell 2
  have c3 := hbx.cell 3
  have c4 := hbx.cell 4
  have c5 := hbx.cell 5
  have c6 := hbx.cell 6
  have c7 := hbx.cell 7
  have c8 := hbx.cell 8
  have c9 := hbx.cell 9
  have c10 := hbx.cell 10
  simp only [List.getElem?_toArray, List.getElem?_cons_zero, List.getElem?_cons_succ] at c0 c1 c2 c3 c4 c5 c6 c7 c8 c9 c10
  have ha : Below w.heap.size w (w.alloc (.cells #[.int .i64 (g.id : Int), .int .i64 (g.task : Int), .int .i64 (g.base : Int), .int .u32 (g.sum : Int), .int .i64 g.st.num, .slice g.st.p g.st.n g.st.c, .int .i64 (g.d.num : Int), .slice g.d.set.p g.d.set.n g.d.set.c, .slice g.d.gone.p g.d.gone.n g.d.gone.c, .slice g.logs.p g.logs.n g.logs.c, .slice g.pend.p g.pend.n g.pend.c] 38)) := (Below.refl _ _).alloc (Nat.le_refl _) _
  have hin2 := hin.below ha
  have hS2 : ∀ b, S b → b < (w.alloc (.cells #[.int .i64 (g.id : Int), .int .i64 (g.task : Int), .int .i64 (g.base : Int), .int .u32 (g.sum : Int), .int .i64 g.st.num, .slice g.st.p g.st.n g.st.c, .int .i64 (g.d.num : Int), .slice g.d.set.p g.d.set.n g.d.set.c, .slice g.d.gone.p g.d.gone.n g.d.gone.c, .slice g.logs.p g.logs.n g.logs.c, .slice g.pend.p g.pend.n g.pend.c] 38)).heap.size := fun b hb => by have := hS b hb; have := ha.size; omega
  have HA := hid ha
  have HBx := hid hbx
  unfold GT.val
  cases hz : ((g.base : Int) == 0)
  · have hne : g.base ≠ 0 := by simpa using hz
    have hq := hg.zero1 hne
    have h3 := hq.2.2.1
    have h4 := hq.2.2.2.1
    have h5 := hq.2.2.2.2
    have HC := hid (checkState_any ⟨(g.d.num : Int), g.d.set.p, g.d.set.n, g.d.set.c, g.d.set.item⟩ _ S (ST.ofLT hin2.d.set hin2.d.n) hS2)
    rw [h3] at HC
    have HG : Hid (∀ W, Below (w.alloc (.cells #[.int .i64 (g.id : Int), .int .i64 (g.task : Int), .int .i64 (g.base : Int), .int .u32 (g.sum : Int), .int .i64 g.st.num, .slice g.st.p g.st.n g.st.c, .int .i64 (g.d.num : Int), .slice g.d.set.p g.d.set.n g.d.set.c, .slice g.d.gone.p g.d.gone.n g.d.gone.c, .slice g.logs.p g.logs.n g.logs.c, .slice g.pend.p g.pend.n g.pend.c] 38)).heap.size (w.alloc (.cells #[.int .i64 (g.id : Int), .int .i64 (g.task : Int), .int .i64 (g.base : Int), .int .u32 (g.sum : Int), .int .i64 g.st.num, .slice g.st.p g.st.n g.st.c, .int .i64 (g.d.num : Int), .slice g.d.set.p g.d.set.n g.d.set.c, .slice g.d.gone.p g.d.gone.n g.d.gone.c, .slice g.logs.p g.logs.n g.logs.c, .slice g.pend.p g.pend.n g.pend.c] 38)) W → Calls Try.prog 134 #[.slice g.d.gone.p g.d.gone.n g.d.gone.c] W fun x w' => okPost W x w') := fun W hW => ckGone_any g.d.gone W S (hin2.d.gone.below hW) h4 h5
    unfold ST.val at HC
    clear hin hin2 hS hS2 ha hbx h3 h4 h5 hq hne
    go_enter Try.func104, Try.ntmps104
    go_wp2_with fail
    refine HC.out.mono ?_
    rintro x w1 ⟨rfl, hb1⟩
    have HB1 := hid hb1
    have hbx1 := HBx.out.below hb1
    have y8 := hbx1.cell 8
    simp only [List.getElem?_toArray, List.getElem?_cons_zero, List.getElem?_cons_succ] at y8
    clear hb1 HC hbx1
    go_wp2_with fail
    refine (HG.out _ HB1.out).mono ?_
    rintro x w2 ⟨rfl, hb2⟩
    have HB2 := hid ((HA.out.trans (HB1.out.mono HA.out.size)).trans (hb2.mono (by have := HB1.out.size; have := HA.out.size; omega)))
    clear hb2 HG
    go_wp2
    go_ret
    exact ⟨rfl, HB2.out⟩
  · have heq : g.base = 0 := by simpa using hz
    have h5 := (hg.zero0 heq).2.2.2.2
    have HC := hid (checkState_any g.st _ S hin2.st.i hS2)
    rw [h5] at HC
    unfold ST.val at HC
    clear hin hin2 hS hS2 ha hbx h5 heq
    go_enter Try.func104, Try.ntmps104
    go_wp2_with fail
    refine HC.out.mono ?_
    rintro x w1 ⟨rfl, hb1⟩
    have HB1 := hid (HA.out.trans (hb1.mono HA.out.size))
    clear hb1 HC
    go_wp2
    go_ret
    exact ⟨rfl, HB1.out⟩
set_option maxHeartbeats 4000000 in
theorem ckSeg_any (g : GT) (hg : FG g) (w : World) (S : Nat → Prop) (hin : GT.In w S g) (hS : ∀ b, S b → b < w.heap.size) : Calls Try.prog 56 #[g.val] w fun x w' => okPost w x w' := by
  have hbx := Box.new w #[.int .i64 (g.id : Int), .int .i64 (g.task : Int), .int .i64 (g.base : Int), .int .u32 (g.sum : Int), .int .i64 g.st.num, .slice g.st.p g.st.n g.st.c, .int .i64 (g.d.num : Int), .slice g.d.set.p g.d.set.n g.d.set.c, .slice g.d.gone.p g.d.gone.n g.d.gone.c, .slice g.logs.p g.logs.n g.logs.c, .slice g.pend.p g.pend.n g.pend.c] 38
  have c0 := hbx.cell 0
  have c1 := hbx.cell 1
  have c2 := hbx.cell 2
  have c3 := hbx.cell 3
  have c4 := hbx.cell 4
  have c5 := hbx.cell 5
  have c6 := hbx.cell 6
  have c7 := hbx.cell 7
  have c8 := hbx.cell 8
  have c9 := hbx.cell 9
  have c10 := hbx.cell 10
  simp only [List.getElem?_toArray, List.getElem?_cons_zero, List.getElem?_cons_succ] at c0 c1 c2 c3 c4 c5 c6 c7 c8 c9 c10
  have ha : Below w.heap.size w (w.alloc (.cells #[.int .i64 (g.id : Int), .int .i64 (g.task : Int), .int .i64 (g.base : Int), .int .u32 (g.sum : Int), .int .i64 g.st.num, .slice g.st.p g.st.n g.st.c, .int .i64 (g.d.num : Int), .slice g.d.set.p g.d.set.n g.d.set.c, .slice g.d.gone.p g.d.gone.n g.d.gone.c, .slice g.logs.p g.logs.n g.logs.c, .slice g.pend.p g.pend.n g.pend.c] 38)) := (Below.refl _ _).alloc (Nat.le_refl _) _
  have HIn := hid (hin.below ha)
  have HS2 : Hid (∀ b, S b → b < (w.alloc (.cells #[.int .i64 (g.id : Int), .int .i64 (g.task : Int), .int .i64 (g.base : Int), .int .u32 (g.sum : Int), .int .i64 g.st.num, .slice g.st.p g.st.n g.st.c, .int .i64 (g.d.num : Int), .slice g.d.set.p g.d.set.n g.d.set.c, .slice g.d.gone.p g.d.gone.n g.d.gone.c, .slice g.logs.p g.logs.n g.logs.c, .slice g.pend.p g.pend.n g.pend.c] 38)).heap.size) := fun b hb => by have := hS b hb; have := ha.size; omega
  have HA := hid ha
  have HBx := hid hbx
  have HG := hid hg
  have HW1 := fun W => within_any g.id 9999 hg.id W
  have HW2 := fun W => within_any g.task 11 hg.task W
  have HW3 := fun W => within_any g.base 9999 hg.base W
  have HO := hid (hoks_any g hg (w.alloc (.cells #[.int .i64 (g.id : Int), .int .i64 (g.task : Int), .int .i64 (g.base : Int), .int .u32 (g.sum : Int), .int .i64 g.st.num, .slice g.st.p g.st.n g.st.c, .int .i64 (g.d.num : Int), .slice g.d.set.p g.d.set.n g.d.set.c, .slice g.d.gone.p g.d.gone.n g.d.gone.c, .slice g.logs.p g.logs.n g.logs.c, .slice g.pend.p g.pend.n g.pend.c] 38)))
  have hln : ¬ (4 : Int) < (g.logs.n : Int) := by have := hg.ln; omega
  unfold GT.val at HO ⊢
  clear hin hS ha hbx hg
  go_enter Try.func56, Try.ntmps56
  go_wp2_with fail
  refine (HW1 _).mono ?_
  rintro x w1 ⟨rfl, hw1⟩
  subst w1
  go_wp2_with fail
  refine (HW2 _).mono ?_
  rintro x w1 ⟨rfl, hw1⟩
  subst w1
  go_wp2_with fail
  refine (HW3 _).mono ?_
  rintro x w1 ⟨rfl, hw1⟩
  subst w1
  go_wp2_with fail
  refine HO.out.mono ?_
  rintro x w1 ⟨rfl, hb1⟩
  have hx1 := HBx.out.below hb1
  have y0 := hx1.cell 0
  have y1 := hx1.cell 1
  have y2 := hx1.cell 2
  have y3 := hx1.cell 3
  have y4 := hx1.cell 4
  have y5 := hx1.cell 5
  have y6 := hx1.cell 6
  have y7 := hx1.cell 7
  have y8 := hx1.cell 8
  have y9 := hx1.cell 9
  have y10 := hx1.cell 10
  simp only [List.getElem?_toArray, List.getElem?_cons_zero, List.getElem?_cons_succ] at y0 y1 y2 y3 y4 y5 y6 y7 y8 y9 y10
  have hi1 := HIn.out.below hb1
  have HK := hid (ckKept_any g HG.out w1 S hi1 (fun b hb => by have := HS2.out b hb; have := hb1.size; omega))
  have HX1 := hid hx1
  have HI1 := hid hi1
  have HB1 := hid hb1
  unfold GT.val at HK
  clear hx1 hi1 hb1 HO HW1 HW2 HW3 c0 c1 c2 c3 c4 c5 c6 c7 c8 c9 c10
  go_wp2_with fail
  refine HK.out.mono ?_
  rintro x w2 ⟨rfl, hb2⟩
  have hx2 := HX1.out.below hb2
  have z0 := hx2.cell 0
  have z1 := hx2.cell 1
  have z2 := hx2.cell 2
  have z3 := hx2.cell 3
  have z4 := hx2.cell 4
  have z5 := hx2.cell 5
  have z6 := hx2.cell 6
  have z7 := hx2.cell 7
  have z8 := hx2.cell 8
  have z9 := hx2.cell 9
  have z10 := hx2.cell 10
  simp only [List.getElem?_toArray, List.getElem?_cons_zero, List.getElem?_cons_succ] at z0 z1 z2 z3 z4 z5 z6 z7 z8 z9 z10
  have HI2 := hid (HI1.out.below hb2)
  have HX2 := hid hx2
  have hsA := HA.out.size
  have hs1 := HB1.out.size
  have HB2 := hid ((HA.out.trans (HB1.out.mono hsA)).trans (hb2.mono (by omega)))
  have HS3 : Hid (∀ b, S b → b < w2.heap.size) := fun b hb => by have := HS2.out b hb; have := hb2.size; omega
  have HLg := hid (And.intro HG.out.ln2 HG.out.logs)
  have HPd := hid (And.intro HG.out.pn HG.out.pend)
  clear hx2 hb2 HK HX1 HI1 HB1 y0 y1 y2 y3 y4 y5 y6 y7 y8 y9 y10 hsA hs1 HS2 HIn HA HBx
  go_wp2_with fail
  go_loopw [37] (fun x wr => ∃ j : Nat, j ≤ g.logs.n ∧ x = .int .i64 j ∧ Below w2.heap.size w2 wr) (fun x _ => g.logs.n - (intOf x).toNat)
  case atStart => exact ⟨0, Nat.zero_le _, rfl, Below.refl _ _⟩
  case round =>
    obtain ⟨j, hj, rfl, hbel⟩ := hrel
    have hsr := hbel.size
    by_cases hlt : j < g.logs.n
    · have hlt' : (j : Int) < (g.logs.n : Int) := by omega
      obtain ⟨bb, o, hp, hSb, hbl, hat⟩ := HI2.out.logs.at_ (by omega)
      have d0 : wr.cell? ⟨bb, o + j, none⟩ = some (.slice (g.logs.item j).p (g.logs.item j).n (g.logs.item j).c) := by
        have h1 := hat j hlt 0 _ rfl
        simp [elRecs] at h1
        exact (World.cell?_of_block (a := ⟨bb, o + j, none⟩) (hbel.block bb hbl)).trans h1
      rw [hp]
      have hi : LT.In elRec w2 S (g.logs.item j) := HI2.out.logs.each j hlt
      have HC := hid (ckRecords_any (g.logs.item j) wr S (hi.below hbel) (fun b hb => by have := HS3.out b hb; omega) (HLg.out.1 j hlt) (HLg.out.2 j hlt))
      have HB := hid hbel
      have HP := hid hp
      clear hat hi hbel hp
      go_wp2_with fail
      refine HC.out.mono ?_
      rintro e w3 ⟨rfl, hb3⟩
      have HB3 := hid (HB.out.trans (hb3.mono HB.out.size))
      clear hb3 HC d0
      go_wp2
      go_roundw
      case rel => exact ⟨j + 1, by omega, by go_num, HB3.out⟩
      case measure => simp [intOf]; omega
    · obtain rfl : j = g.logs.n := by omega
      have hlt' : ¬ (g.logs.n : Int) < (g.logs.n : Int) := by omega
      have hx3 := HX2.out.below hbel
      have q10 := hx3.cell 10
      simp only [List.getElem?_toArray, List.getElem?_cons_zero, List.getElem?_cons_succ] at q10
      have HC := hid (ckRecords_any g.pend wr S (HI2.out.pend.below hbel) (fun b hb => by have := HS3.out b hb; omega) HPd.out.1 HPd.out.2)
      have HB := hid (HB2.out.trans (hbel.mono HB2.out.size))
      clear hbel hx3
      go_wp2_with fail
      refine HC.out.mono ?_
      rintro e w3 ⟨rfl, hb3⟩
      have HB3 := hid (HB.out.trans (hb3.mono HB.out.size))
      clear hb3 HC
      go_wp2
      go_ret
      exact ⟨rfl, HB3.out⟩
end Go.Proofs.Ytikfpoabaaiegaa

namespace Go.Proofs.Ytikfpoabaaiegaa
open Go.RowKit
set_option maxRecDepth 8000

/-- an error's number is told -/
def errPost (k : Nat) (w : World) (x : Ending) (w' : World) : Prop := x = .returned (.int .i64 (k : Int)) ∧ Below w.heap.size w w'
set_option maxHeartbeats 1000000 in
theorem within_yes (n : Int) (b : Nat) (h1 : 0 ≤ n) (h2 : n ≤ (b : Int)) (w : World) : Calls Try.prog 102 #[.int .i64 n, .int .i64 b] w fun x w' => x = .returned (.bool true) ∧ w' = w := by
  go_enter Try.func102, Try.ntmps102
  go_wp2
  go_ret
  exact ⟨rfl, rfl⟩
set_option maxHeartbeats 1000000 in
theorem within_no (n : Int) (b : Nat) (h : ¬ (0 ≤ n ∧ n ≤ (b : Int))) (w : World) : Calls Try.prog 102 #[.int .i64 n, .int .i64 b] w fun x w' => x = .returned (.bool false) ∧ w' = w := by
  by_cases h1 : 0 ≤ n
  · have h2 : ¬ n ≤ (b : Int) := fun h2 => h ⟨h1, h2⟩
    go_enter Try.func102, Try.ntmps102
    go_wp2
    go_ret
    exact ⟨rfl, rfl⟩
  · go_enter Try.func102, Try.ntmps102
    go_wp2
    go_ret
    exact ⟨rfl, rfl⟩
theorem within_gen (n : Int) (b : Nat) (w : World) : Calls Try.prog 102 #[.int .i64 n, .int .i64 b] w fun x w' => x = .returned (.bool (decide (0 ≤ n ∧ n ≤ (b : Int)))) ∧ w' = w := by
  by_cases h : 0 ≤ n ∧ n ≤ (b : Int)
  · rw [decide_eq_true h]; exact within_yes n b h.1 h.2 w
  · rw [decide_eq_false h]; exact within_no n b h w
/-- what is wrong with a list of records -/
def chkRecs (l : LT RT) : Nat := if 256 < l.n then 43 else firstC (fun j => chkRec (l.item j)) l.n
set_option maxHeartbeats 4000000 in
theorem ckRecords_gen (l : LT RT) (w : World) (S : Nat → Prop) (hin : LT.In elRec w S l) (hS : ∀ b, S b → b < w.heap.size) : Calls Try.prog 105 #[.slice l.p l.n l.c] w fun x w' => errPost (chkRecs l) w x w' := by
  have E : Hid (chkRecs l = if 256 < l.n then 43 else firstC (fun j => chkRec (l.item j)) l.n) := rfl
  generalize chkRecs l = res at *
  have HIn := hid hin
  have HS := hid hS
  obtain ⟨p, n, c, item⟩ := l
  simp only at *
  clear hin hS
  by_cases hn : 256 < n
  · have hn' : (256 : Int) < (n : Int) := by omega
    have e := E.out
    rw [if_pos hn] at e
    subst e
    go_enter Try.func105, Try.ntmps105
    go_wp2
    go_ret
    exact ⟨rfl, Below.refl _ _⟩
  have hn' : ¬ (256 : Int) < (n : Int) := by omega
  have E2 : Hid (res = firstC (fun j => chkRec (item j)) n) := by have e := E.out; rw [if_neg hn] at e; exact e
  clear E
  go_enter Try.func105, Try.ntmps105
  go_wp2_with fail
  go_loopw [11] (fun x wr => ∃ j : Nat, j ≤ n ∧ x = .int .i64 j ∧ Below w.heap.size w wr ∧ firstC (fun j => chkRec (item j)) j = 0) (fun x _ => n - (intOf x).toNat)
  case atStart => exact ⟨0, Nat.zero_le _, rfl, Below.refl _ _, rfl⟩
  case round =>
    obtain ⟨j, hj, rfl, hbel, hz⟩ := hrel
    have HZ := hid hz
    clear hz
    by_cases hlt : j < n
    · have hlt' : (j : Int) < (n : Int) := by omega
      obtain ⟨bb, o, hp, hSb, hbl, hat⟩ := HIn.out.at_ (show 0 < n by omega)
      simp only at hp
      subst hp
      have hca : ∀ r u, (elRec.cells (item j))[r]? = some u → wr.cell? ⟨bb, o + j * 6 + r, none⟩ = some u := fun r u hu => (World.cell?_of_block (a := ⟨bb, o + j * 6 + r, none⟩) (hbel.block bb hbl)).trans (hat j hlt r u hu)
      have d0 := hca 0 _ rfl
      have d1 := hca 1 _ rfl
      have d2 := hca 2 _ rfl
      have d3 := hca 3 _ rfl
      have d4 := hca 4 _ rfl
      have d5 := hca 5 _ rfl
      simp only [Nat.add_zero] at d0
      have ha : Below wr.heap.size wr (wr.alloc (.cells #[.string (item j).key, .int .i64 (item j).v.kind, .int .i64 (item j).v.int, .string (item j).v.text, .slice (item j).v.p (item j).v.n (item j).v.c, .slice (item j).p (item j).n (item j).c] 27)) := (Below.refl _ _).alloc (Nat.le_refl _) _
      have hi : RT.In w S (item j) := HIn.out.each j hlt
      have HC := hid (checkRecord_any (item j) _ S ((hi.kept hbel.size fun b _ hl => hbel.block b hl).below ha) (fun b hb => by have := HS.out b hb; have := hbel.size; have := ha.size; omega))
      have HB := hid (hbel.trans (ha.mono hbel.size))
      have hws := hbel.size
      obtain ⟨k, hk⟩ : ∃ k, k = chkRec (item j) := ⟨_, rfl⟩
      rw [← hk] at HC
      have HK := hid hk
      unfold RT.val at HC
      clear hat hca ha hi hbel hk
      go_wp2_with fail
      refine HC.out.mono ?_
      rintro e w2 ⟨rfl, hb2⟩
      have HB2 := hid (HB.out.trans (hb2.mono (by have := HB.out.size; simp; omega)))
      clear hb2 HC d0 d1 d2 d3 d4 d5
      cases hk0 : ((k : Int) == 0)
      · have hkn : k ≠ 0 := by simpa using hk0
        have HKn := hid hkn
        clear hkn
        go_wp2
        go_ret
        refine ⟨?_, HB2.out⟩
        rw [E2.out, firstC_hit HZ.out hlt (by show chkRec (item j) ≠ 0; rw [← HK.out]; exact HKn.out), HK.out]
        rfl
      · have hkz : k = 0 := by simpa using hk0
        have HZ2 : Hid (firstC (fun j => chkRec (item j)) (j + 1) = 0) := by
          show firstC (fun j => chkRec (item j)) (j + 1) = 0
          rw [firstC_succ HZ.out, ← HK.out, hkz]
        clear hkz
        go_wp2
        go_roundw
        case rel => exact ⟨j + 1, by omega, by go_num, HB2.out, HZ2.out⟩
        case measure => simp [intOf]; omega
    · obtain rfl : j = n := by omega
      have hlt' : ¬ (j : Int) < (j : Int) := by omega
      have HF := hid hbel
      clear hbel
      go_wp2
      go_ret
      refine ⟨?_, HF.out⟩
      rw [E2.out, HZ.out]
      rfl
/-- what is wrong with key j of those that go -/
def chkGo (f : Nat → ByteArray) (j : Nat) : Nat := if 12 < (f j).size then 24 else if 0 < j ∧ Op.bytesLess (f (j - 1)).toList (f j).toList = false then 42 else 0
def chkGone (l : LT ByteArray) : Nat := if 64 < l.n then 43 else firstC (chkGo l.item) l.n
set_option maxHeartbeats 4000000 in
theorem ckGone_gen (l : LT ByteArray) (w : World) (S : Nat → Prop) (hin : LT.In elStr w S l) : Calls Try.prog 134 #[.slice l.p l.n l.c] w fun x w' => errPost (chkGone l) w x w' := by
  have E : Hid (chkGone l = if 64 < l.n then 43 else firstC (chkGo l.item) l.n) := rfl
  generalize chkGone l = res at *
  have HIn := hid hin
  obtain ⟨p, n, c, item⟩ := l
  simp only at *
  clear hin
  by_cases hn : 64 < n
  · have hn' : (64 : Int) < (n : Int) := by omega
    have e := E.out
    rw [if_pos hn] at e
    subst e
    go_enter Try.func134, Try.ntmps134
    go_wp2
    go_ret
    exact ⟨rfl, Below.refl _ _⟩
  have hn' : ¬ (64 : Int) < (n : Int) := by omega
  have E2 : Hid (res = firstC (chkGo item) n) := by have e := E.out; rw [if_neg hn] at e; exact e
  clear E
  go_enter Try.func134, Try.ntmps134
  go_wp2_with fail
  go_loopw [10] (fun x wr => ∃ j : Nat, j ≤ n ∧ x = .int .i64 j ∧ wr = w ∧ firstC (chkGo item) j = 0) (fun x _ => n - (intOf x).toNat)
  case atStart => exact ⟨0, Nat.zero_le _, rfl, rfl, rfl⟩
  case round =>
    obtain ⟨j, hj, rfl, rfl, hz⟩ := hrel
    have HZ := hid hz
    clear hz
    by_cases hlt : j < n
    · have hlt' : (j : Int) < (n : Int) := by omega
      obtain ⟨bb, o, hp, hSb, hbl, hat⟩ := HIn.out.at_ (show 0 < n by omega)
      simp only at hp
      subst hp
      have d0 : wr.cell? ⟨bb, o + j, none⟩ = some (.string (item j)) := by simpa [elStr] using hat j hlt 0 _ rfl
      have HG : Hid (chkGo item j = if 12 < (item j).size then 24 else if 0 < j ∧ Op.bytesLess (item (j - 1)).toList (item j).toList = false then 42 else 0) := rfl
      by_cases hk : 12 < (item j).size
      · have hk12' : (12 : Int) < ((item j).size : Int) := by omega
        have e := HG.out
        rw [if_pos hk] at e
        have HR : Hid (res = 24) := by
          show res = 24
          rw [E2.out, firstC_hit HZ.out hlt (by rw [e]; decide), e]
        clear hat e
        go_wp2
        go_ret
        refine ⟨?_, Below.refl _ _⟩
        rw [HR.out]
        rfl
      · have hk12' : ¬ (12 : Int) < ((item j).size : Int) := by omega
        cases j with
        | zero =>
          simp only [Nat.add_zero] at d0
          have e := HG.out
          rw [if_neg hk, if_neg (fun h => absurd h.1 (by decide))] at e
          have HZ2 : Hid (firstC (chkGo item) (0 + 1) = 0) := by
            show firstC (chkGo item) (0 + 1) = 0
            rw [firstC_succ HZ.out, e]
          clear hat e
          go_wp2
          go_roundw
          case rel => exact ⟨0 + 1, by omega, rfl, trivial, HZ2.out⟩
          case measure => simp [intOf]; omega
        | succ i =>
          have d1 : wr.cell? ⟨bb, o + i, none⟩ = some (.string (item i)) := by simpa [elStr] using hat i (show i < n by omega) 0 _ rfl
          have e := HG.out
          rw [if_neg hk] at e
          simp only [Nat.add_sub_cancel] at e
          have h0 : (0 : Int) < ((i + 1 : Nat) : Int) := by omega
          have hi1 : ((i + 1 : Nat) : Int) - 1 = (i : Int) := by omega
          have hle := le_not_lt (item (i + 1)).toList (item i).toList
          cases hb : Op.bytesLess (item i).toList (item (i + 1)).toList
          · rw [if_pos ⟨by omega, hb⟩] at e
            rw [hb] at hle
            have hle' : (Op.bytesLess (item (i + 1)).toList (item i).toList || (item (i + 1)).toList == (item i).toList) = true := hle
            have HR : Hid (res = 42) := by
              show res = 42
              rw [E2.out, firstC_hit HZ.out hlt (by rw [e]; decide), e]
            clear hat e hle hb
            go_wp2
            go_ret
            refine ⟨?_, Below.refl _ _⟩
            rw [HR.out]
            rfl
          · rw [if_neg (fun h => by rw [hb] at h; exact absurd h.2 (by decide))] at e
            rw [hb] at hle
            have hle' : (Op.bytesLess (item (i + 1)).toList (item i).toList || (item (i + 1)).toList == (item i).toList) = false := hle
            have HZ2 : Hid (firstC (chkGo item) (i + 1 + 1) = 0) := by
              show firstC (chkGo item) (i + 1 + 1) = 0
              rw [firstC_succ HZ.out, e]
            clear hat e hle hb
            go_wp2
            go_roundw
            case rel => exact ⟨i + 1 + 1, by omega, by go_num, trivial, HZ2.out⟩
            case measure => simp [intOf]; omega
    · obtain rfl : j = n := by omega
      have hlt' : ¬ (j : Int) < (j : Int) := by omega
      go_wp2
      go_ret
      refine ⟨?_, Below.refl _ _⟩
      rw [E2.out, HZ.out]
      rfl
/-- an output log's entry, its number any -/
structure OI where
  num : Int
  rec_ : RT
def OI.val (o : OI) : Value := .agg #[.int .i64 o.num, .string o.rec_.key, .int .i64 o.rec_.v.kind, .int .i64 o.rec_.v.int, .string o.rec_.v.text, .slice o.rec_.v.p o.rec_.v.n o.rec_.v.c, .slice o.rec_.p o.rec_.n o.rec_.c]
def chkOut (o : OI) : Nat := if 0 ≤ o.num ∧ o.num ≤ 1073741824 then chkRec o.rec_ else 43
set_option maxHeartbeats 4000000 in
theorem ckRow_gen (o : OI) (w : World) (S : Nat → Prop) (hin : RT.In w S o.rec_) (hS : ∀ b, S b → b < w.heap.size) : Calls Try.prog 62 #[o.val] w fun x w' => errPost (chkOut o) w x w' := by
  have ha : Below w.heap.size w (w.alloc (.cells #[.int .i64 o.num, .string o.rec_.key, .int .i64 o.rec_.v.kind, .int .i64 o.rec_.v.int, .string o.rec_.v.text, .slice o.rec_.v.p o.rec_.v.n o.rec_.v.c, .slice o.rec_.p o.rec_.n o.rec_.c] 43)) := (Below.refl _ _).alloc (Nat.le_refl _) _
  have HC := hid (checkRecord_any o.rec_ _ S (hin.below ha) (fun b hb => by have := hS b hb; have := ha.size; omega))
  have HA := hid ha
  unfold OI.val
  unfold RT.val at HC
  unfold chkOut
  clear hin hS ha
  by_cases hn : 0 ≤ o.num ∧ o.num ≤ 1073741824
  · have HW := fun W => within_yes o.num 1073741824 hn.1 hn.2 W
    rw [if_pos hn]
    clear hn
    go_enter Try.func62, Try.ntmps62
    go_wp2_with fail
    refine (HW _).mono ?_
    rintro x w1 ⟨rfl, rfl⟩
    go_wp2_with fail
    refine HC.out.mono ?_
    rintro x w2 ⟨rfl, hb2⟩
    have HB := hid (HA.out.trans (hb2.mono HA.out.size))
    clear hb2 HC
    go_wp2
    go_ret
    exact ⟨rfl, HB.out⟩
  · have HW := fun W => within_no o.num 1073741824 hn W
    rw [if_neg hn]
    clear hn HC
    go_enter Try.func62, Try.ntmps62
    go_wp2_with fail
    refine (HW _).mono ?_
    rintro x w1 ⟨rfl, rfl⟩
    go_wp2
    go_ret
    exact ⟨rfl, HA.out⟩
end Go.Proofs.Ytikfpoabaaiegaa
