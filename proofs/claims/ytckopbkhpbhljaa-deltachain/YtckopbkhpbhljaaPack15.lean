import Derived.Test.YtckopbkhpbhljaaPack14
namespace Go.Proofs.Ytckopbkhpbhljaa
open Go.RowKit
set_option maxRecDepth 8000

set_option maxHeartbeats 1000000 in
theorem check_any (t : VT) (w : World) (S : Nat → Prop) (hin : VT.In w S t) (hS : ∀ b, S b → b < w.heap.size) :
    Calls Try.prog 77 #[t.val] w fun e w' => e = .returned (.int .i64 (chk t 0 0).1) ∧ Below w.heap.size w w' := by
  have HC : Hid (∀ W b, Below w.heap.size w W → w.heap.size ≤ b → Box W b #[.int .i64 ((0 : Nat) : Int)] 3 → Calls Try.prog 93 #[t.val, .int .i64 ((0 : Nat) : Int), .pointer (some ⟨b, 0, none⟩)] W fun e w' => e = .returned (.int .i64 (chk t 0 0).1) ∧ Box w' b #[.int .i64 (chk t 0 0).2] 3 ∧ But (fun k => k = b) W w') :=
    fun W b hW hb hB => checkPart_any t W S b 0 0 (hin.below hW) (fun h => by have := hS b h; omega) hB (by omega) (by omega)
  obtain ⟨k, i, s, n, p, c, f, rfl⟩ := hin.mk_
  clear hin hS
  generalize chk (.mk k i s n p c f) 0 0 = r at *
  simp only [VT.val, VT.kind_mk, VT.int_mk, VT.text_mk, VT.p_mk, VT.n_mk, VT.c_mk] at HC ⊢
  go_enter Try.func77, Try.ntmps77
  go_wp2_with fail
  refine (HC.out _ (w.heap.size + 1) ?_ ?_ ?_).mono ?_
  · exact ((Below.refl _ _).alloc (Nat.le_refl _) _).alloc (by simp) _
  · omega
  · have h := Box.new (w.alloc (.cells #[.int .i64 k, .int .i64 i, .string s, .slice p n c] 60)) #[.int .i64 0] 3
    simpa using h
  · rintro e w1 ⟨rfl, _, hK⟩
    have hb1 : Below w.heap.size w w1 := (((Below.refl w.heap.size w).alloc (Nat.le_refl _) _).alloc (by simp) _).trans (hK.below (by simp; omega) (fun x hx => by omega))
    clear hK HC
    go_wp2
    go_ret
    exact ⟨rfl, hb1⟩
end Go.Proofs.Ytckopbkhpbhljaa

namespace Go.Proofs.Ytckopbkhpbhljaa
open Go.RowKit
set_option maxRecDepth 8000

set_option maxHeartbeats 1000000 in
theorem checkVals_any (t : VT) (w : World) (S : Nat → Prop) (hin : VT.In w S t) (hS : ∀ b, S b → b < w.heap.size) :
    Calls Try.prog 56 #[.slice t.p t.n t.c] w fun e w' => e = .returned (.int .i64 (chkVals t)) ∧ Below w.heap.size w w' := by
  have HI := hid hin
  have HSS := hid hS
  obtain ⟨k, i, s, n, p, c, f, rfl⟩ := hin.mk_
  have E : Hid (chkVals (.mk k i s n p c f) = if 6 < n then 27 else firstC (fun q => (chk (f q) 0 0).1) n) := rfl
  generalize chkVals (.mk k i s n p c f) = res at *
  have hnn := hin.fit.nn
  simp only [VT.p_mk, VT.n_mk, VT.c_mk] at hnn ⊢
  clear hin hS
  by_cases hn : 6 < n
  · have hn' : (6 : Int) < (n : Int) := by omega
    have e : res = 27 := by rw [E.out, if_pos hn]
    go_enter Try.func56, Try.ntmps56
    go_wp2
    go_ret
    exact ⟨by first | rfl | (rw [e]; rfl), Below.refl _ _⟩
  · have hn' : ¬ (6 : Int) < (n : Int) := by omega
    have E1 : Hid (res = firstC (fun q => (chk (f q) 0 0).1) n) := by unfold Hid; rw [E.out, if_neg hn]
    go_enter Try.func56, Try.ntmps56
    go_wp2_with fail
    go_loopw [11] (fun x wr => ∃ j : Nat, j ≤ n ∧ x = .int .i64 j ∧ firstC (fun q => (chk (f q) 0 0).1) j = 0 ∧ Below w.heap.size w wr) (fun x _ => n - (intOf x).toNat)
    case atStart => exact ⟨0, Nat.zero_le _, rfl, rfl, Below.refl _ _⟩
    case round =>
      obtain ⟨j, hj, rfl, hf, hbel⟩ := hrel
      have HF := hid hf
      clear hf
      by_cases hlt : j < n
      · have hlt' : (j : Int) < (n : Int) := by omega
        obtain ⟨bb, o, hp, hSb, hbl, hat⟩ := HI.out.at_ (show 0 < (VT.mk k i s n p c f).n from by simp only [VT.n]; omega)
        simp only [VT.p_mk] at hp
        subst hp
        obtain ⟨d0, d1, d2, d3⟩ := (hat j hlt).kept (hbel.block bb hbl)
        simp only [VT.item_mk] at d0 d1 d2 d3
        have HC : Hid (∀ W, Below wr.heap.size wr W → Calls Try.prog 77 #[(f j).val] W fun e w' => e = .returned (.int .i64 (chk (f j) 0 0).1) ∧ Below W.heap.size W w') := fun W hW =>
          check_any (f j) W S (((HI.out.sub hlt).kept hbel.size fun b hb hl => hbel.block b hl).below hW) (fun b hb => Nat.lt_of_lt_of_le (HSS.out b hb) (Nat.le_trans hbel.size hW.size))
        unfold VT.val at HC
        have HBe := hid hbel
        have hsw := hbel.size
        clear hat hbel
        go_wp2_with fail
        refine (HC.out _ ((Below.refl _ _).alloc (Nat.le_refl _) _)).mono ?_
        rintro e w2 ⟨rfl, hb2⟩
        have HB2 : Hid (Below w.heap.size w w2) := (HBe.out.alloc hsw _).trans (hb2.mono (by simp; omega))
        clear hb2 d0 d1 d2 d3
        by_cases hc : (chk (f j) 0 0).1 = 0
        · have HF2 : Hid (firstC (fun q => (chk (f q) 0 0).1) (j + 1) = 0) := by unfold Hid; rw [firstC_succ HF.out]; exact hc
          rw [hc]
          clear hc
          go_wp2
          go_roundw
          case rel => exact ⟨j + 1, by omega, by go_num, HF2.out, HB2.out⟩
          case measure => simp [intOf]; omega
        · have hc' : ¬ ((chk (f j) 0 0).1 : Int) = 0 := by omega
          have e : Hid (res = (chk (f j) 0 0).1) := by unfold Hid; rw [E1.out, firstC_hit HF.out hlt hc]
          go_wp2
          go_ret
          exact ⟨by rw [e.out]; rfl, HB2.out⟩
      · have hje : j = n := by omega
        have e : Hid (res = 0) := by unfold Hid; rw [E1.out, ← hje]; exact HF.out
        have hlt' : ¬ (j : Int) < (n : Int) := by omega
        go_wp2
        go_ret
        exact ⟨by rw [e.out]; rfl, hbel⟩

set_option maxHeartbeats 2000000 in
theorem checkState_any (s : ST) (w : World) (S : Nat → Prop) (hin : ST.In w S s) (hS : ∀ b, S b → b < w.heap.size) :
    Calls Try.prog 30 #[s.val] w fun e w' => e = .returned (.int .i64 (chkState s)) ∧ Below w.heap.size w w' := by
  have E : Hid (chkState s = if s.num < 0 ∨ 1073741824 < s.num then 26 else if 64 < s.n then 27 else firstC (chkCell s.cell) s.n) := rfl
  generalize chkState s = res at *
  have HI := hid hin
  have HSS := hid hS
  obtain ⟨num, p, n, c, f⟩ := s
  have hnn := hin.nn
  unfold ST.val
  simp only at E hnn ⊢
  have HW : Hid (Below w.heap.size w (w.alloc (.cells #[.int .i64 num, .slice p n c] 24))) := (Below.refl _ _).alloc (Nat.le_refl _) _
  have HB := hid (Box.new w #[.int .i64 num, .slice p n c] 24)
  clear hin hS
  by_cases h0 : num < 0
  · have e : Hid (res = 26) := by unfold Hid; rw [E.out, if_pos (.inl h0)]
    go_enter Try.func30, Try.ntmps30
    go_wp2
    go_ret
    exact ⟨by rw [e.out]; rfl, HW.out⟩
  · by_cases h1 : 1073741824 < num
    · have e : Hid (res = 26) := by unfold Hid; rw [E.out, if_pos (.inr h1)]
      go_enter Try.func30, Try.ntmps30
      go_wp2
      go_ret
      exact ⟨by rw [e.out]; rfl, HW.out⟩
    · by_cases h64 : 64 < n
      · have h64' : (64 : Int) < (n : Int) := by omega
        have e : Hid (res = 27) := by unfold Hid; rw [E.out, if_neg (by omega), if_pos h64]
        go_enter Try.func30, Try.ntmps30
        go_wp2
        go_ret
        exact ⟨by rw [e.out]; rfl, HW.out⟩
      · have h64' : ¬ (64 : Int) < (n : Int) := by omega
        have E1 : Hid (res = firstC (chkCell f) n) := by unfold Hid; rw [E.out, if_neg (by omega), if_neg h64]
        go_enter Try.func30, Try.ntmps30
        go_wp2_with fail
        go_loopw [21] (fun x wr => ∃ j : Nat, j ≤ n ∧ x = .int .i64 j ∧ firstC (chkCell f) j = 0 ∧ Box wr w.heap.size #[.int .i64 num, .slice p n c] 24 ∧ Below w.heap.size w wr) (fun x _ => n - (intOf x).toNat)
        case atStart => exact ⟨0, Nat.zero_le _, rfl, rfl, HB.out, HW.out⟩
        case round =>
          obtain ⟨j, hj, rfl, hf, hBx, hbel⟩ := hrel
          have HF := hid hf
          have x1 := hBx.cell 1
          simp at x1
          have hxl := hBx.lt
          have HX := hid (And.intro hBx hbel)
          clear hf hBx
          by_cases hlt : j < n
          · have hlt' : (j : Int) < (n : Int) := by omega
            obtain ⟨bb, o, hp, hSb, hbl, hat⟩ := HI.out.at_ (show 0 < n by omega)
            simp only at hp
            subst hp
            obtain ⟨d0, d1⟩ := (hat j hlt).kept (hbel.block bb hbl)
            simp only at d0 d1
            have hks := (HI.out.each j hlt).fit.s1
            simp only at hks
            have hbl' : bb < wr.heap.size := Nat.lt_of_lt_of_le hbl hbel.size
            have hsw := hbel.size
            have HC : Hid (∀ W, Below wr.heap.size wr W → Calls Try.prog 56 #[.slice (f j).p (f j).n (f j).c] W fun e w' => e = .returned (.int .i64 (chkVals (f j))) ∧ Below W.heap.size W w') := fun W hW =>
              checkVals_any (f j) W S (((HI.out.each j hlt).kept hbel.size fun b hb hl => hbel.block b hl).below hW) (fun b hb => Nat.lt_of_lt_of_le (HSS.out b hb) (Nat.le_trans hbel.size hW.size))
            by_cases hk : 12 < (f j).text.size
            · have hk' : (12 : Int) < ((f j).text.size : Int) := by omega
              have hl : chkCell f j = 24 := by unfold chkCell; rw [if_pos hk]
              have e : Hid (res = 24) := by unfold Hid; rw [E1.out, firstC_hit HF.out hlt (by rw [hl]; decide), hl]
              have HB2 : Hid (Below w.heap.size w (wr.alloc (.cells #[.string (f j).text, .slice (f j).p (f j).n (f j).c] 62))) := hbel.alloc hsw _
              clear hat hl hbel
              go_wp2
              go_ret
              exact ⟨by rw [e.out]; rfl, HB2.out⟩
            · have hk' : ¬ (12 : Int) < ((f j).text.size : Int) := by omega
              have hB2 : Box (wr.alloc (.cells #[.string (f j).text, .slice (f j).p (f j).n (f j).c] 62)) wr.heap.size #[.string (f j).text, .slice (f j).p (f j).n (f j).c] 62 := Box.new _ _ _
              by_cases hj0 : j = 0
              · subst hj0
                have hl : chkCell f 0 = chkVals (f 0) := by unfold chkCell; rw [if_neg hk, if_neg (by omega)]
                simp only [Nat.zero_mul, Nat.add_zero] at d0 d1
                go_wp2_with fail
                go_region
                all_goals
                  go_wp2_with fail
                  refine (HC.out _ ?_).mono ?_
                  first | exact ((Below.refl _ _).alloc (Nat.le_refl _) _).drew | exact (Below.refl _ _).alloc (Nat.le_refl _) _
                  rintro e w2 ⟨rfl, hb2⟩
                  have hb3 : Below wr.heap.size wr w2 := by
                    refine Below.trans ?_ (hb2.mono ?_)
                    · first | exact ((Below.refl _ _).alloc (Nat.le_refl _) _).drew | exact (Below.refl _ _).alloc (Nat.le_refl _) _
                    · simp
                  have HB2 : Hid (Box w2 w.heap.size #[.int .i64 num, .slice (some ⟨bb, o, none⟩) n c] 24 ∧ Below w.heap.size w w2) := ⟨HX.out.1.below hb3, HX.out.2.trans (hb3.mono hsw)⟩
                  clear hb2 hb3 d0 d1 hbel hat hB2
                  by_cases hc : chkVals (f (0)) = 0
                  · have HF2 : Hid (firstC (chkCell f) (0 + 1) = 0) := by unfold Hid; rw [firstC_succ HF.out, hl]; exact hc
                    rw [hc]
                    clear hc hl
                    go_wp2
                    go_roundw
                    case rel => exact ⟨0 + 1, by omega, by go_num, HF2.out, HB2.out.1, HB2.out.2⟩
                    case measure => simp [intOf]; omega
                  · have hc' : ¬ (chkVals (f (0)) : Int) = 0 := by omega
                    have e : Hid (res = chkVals (f (0))) := by unfold Hid; rw [E1.out, firstC_hit HF.out hlt (by rw [hl]; exact hc), hl]
                    clear hl
                    go_wp2
                    go_ret
                    exact ⟨by rw [e.out]; rfl, HB2.out.2⟩
              · obtain ⟨m, rfl⟩ : ∃ m, j = m + 1 := ⟨j - 1, by omega⟩
                have c0 := ((hat m (show m < n by omega)).kept (hbel.block bb hbl)).c0
                simp only at c0
                have hle := le_not_lt (f (m + 1)).text.toList (f m).text.toList
                cases hb : Op.bytesLess (f m).text.toList (f (m + 1)).text.toList with
                | false =>
                  rw [hb] at hle
                  have hl : chkCell f (m + 1) = 27 := by unfold chkCell; rw [if_neg hk, if_pos ⟨by omega, hb⟩]
                  have e : Hid (res = 27) := by unfold Hid; rw [E1.out, firstC_hit HF.out hlt (by rw [hl]; decide), hl]
                  have HB2 : Hid (Below w.heap.size w (wr.alloc (.cells #[.string (f (m + 1)).text, .slice (f (m + 1)).p (f (m + 1)).n (f (m + 1)).c] 62)).drew) := (hbel.alloc hsw _).drew
                  clear hat hl hbel
                  go_wp2_with fail
                  go_region
                  all_goals
                    go_wp2
                    go_ret
                    exact ⟨by rw [e.out]; rfl, HB2.out⟩
                | true =>
                  rw [hb] at hle
                  have hl : chkCell f (m + 1) = chkVals (f (m + 1)) := by unfold chkCell; rw [if_neg hk, if_neg (by intro h; rw [Nat.add_sub_cancel, hb] at h; cases h.2)]
                  go_wp2_with fail
                  go_region
                  all_goals
                    go_wp2_with fail
                    refine (HC.out _ ?_).mono ?_
                    first | exact ((Below.refl _ _).alloc (Nat.le_refl _) _).drew | exact (Below.refl _ _).alloc (Nat.le_refl _) _
                    rintro e w2 ⟨rfl, hb2⟩
                    have hb3 : Below wr.heap.size wr w2 := by
                      refine Below.trans ?_ (hb2.mono ?_)
                      · first | exact ((Below.refl _ _).alloc (Nat.le_refl _) _).drew | exact (Below.refl _ _).alloc (Nat.le_refl _) _
                      · simp
                    have HB2 : Hid (Box w2 w.heap.size #[.int .i64 num, .slice (some ⟨bb, o, none⟩) n c] 24 ∧ Below w.heap.size w w2) := ⟨HX.out.1.below hb3, HX.out.2.trans (hb3.mono hsw)⟩
                    clear hb2 hb3 d0 d1 hbel hat hB2
                    by_cases hc : chkVals (f (m + 1)) = 0
                    · have HF2 : Hid (firstC (chkCell f) (m + 1 + 1) = 0) := by unfold Hid; rw [firstC_succ HF.out, hl]; exact hc
                      rw [hc]
                      clear hc hl
                      go_wp2
                      go_roundw
                      case rel => exact ⟨m + 1 + 1, by omega, by go_num, HF2.out, HB2.out.1, HB2.out.2⟩
                      case measure => simp [intOf]; omega
                    · have hc' : ¬ (chkVals (f (m + 1)) : Int) = 0 := by omega
                      have e : Hid (res = chkVals (f (m + 1))) := by unfold Hid; rw [E1.out, firstC_hit HF.out hlt (by rw [hl]; exact hc), hl]
                      clear hl
                      go_wp2
                      go_ret
                      exact ⟨by rw [e.out]; rfl, HB2.out.2⟩
          · have hje : j = n := by omega
            have e : Hid (res = 0) := by unfold Hid; rw [E1.out, ← hje]; exact HF.out
            have hlt' : ¬ (j : Int) < (n : Int) := by omega
            go_wp2
            go_ret
            exact ⟨by rw [e.out]; rfl, hbel⟩
end Go.Proofs.Ytckopbkhpbhljaa
