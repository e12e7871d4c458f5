import Derived.Test.YtpknlbibijheaaaPack10
import Derived.Test.YtpknlbibijheaaaPack2
import Derived.Test.YtpknlbibijheaaaPack3
import Derived.Test.YtpknlbibijheaaaPack9
import Derived.Deep.DeepCutAuto
namespace Go.Proofs.Ytpknlbibijheaaa
open Go.RowKit
set_option maxRecDepth 8000

set_option maxHeartbeats 1000000 in
theorem check_any (t : VT) (w : World) (S : Nat → Prop) (hin : VT.In w S t) (hS : ∀ b, S b → b < w.heap.size) :
    Calls Try.prog 77 #[t.val] w fun e w' => e = .returned (.int .i64 (chk t 0 0).1) ∧ Below w.heap.size w w' := by
  have HC : Hid (∀ W b, Below w.heap.size w W → w.heap.size ≤ b → Box W b #[.int .i64 ((0 : Nat) : Int)] 3 → Calls Try.prog 93 #[t.val, .int .i64 ((0 : Nat) : Int), .pointer (some ⟨b, 0, none⟩)] W fun e w' => e = .returned (.int .i64 (chk t 0 0).1) ∧ Box w' b #[.int .i64 (chk t 0 0).2] 3 ∧ But (fun k => k = b) W w') :=
    fun W b hW hb hB => checkPart_any t W S b 0 0 (hin.below hW) (fun h => by have := hS b h; omega) hB (by omega) (by omega)
  obtain ⟨k, i, s, n, p, c, f, rfl⟩ := hin.mk_
  clear hin hS
  generalize chk (.mk k i s n p c f) 0 0 = r at *
  simp only [VT.val, VT.kind_mk, VT.int_mk, VT.text_mk, VT.p_mk, VT.n_mk, VT.c_mk] at HC ⊢
  go_enter Try.func77, Try.ntmps77
  go_wp2_with fail
  refine (HC.out _ (w.heap.size + 1) ?_ ?_ ?_).mono ?_
  · exact ((Below.refl _ _).alloc (Nat.le_refl _) _).alloc (by simp) _
  · omega
  · have h := Box.new (w.alloc (.cells #[.int .i64 k, .int .i64 i, .string s, .slice p n c] 60)) #[.int .i64 0] 3
    simpa using h
  · rintro e w1 ⟨rfl, _, hK⟩
    have hb1 : Below w.heap.size w w1 := (((Below.refl w.heap.size w).alloc (Nat.le_refl _) _).alloc (by simp) _).trans (hK.below (by simp; omega) (fun x hx => by omega))
    clear hK HC
    go_wp2
    go_ret
    exact ⟨rfl, hb1⟩
end Go.Proofs.Ytpknlbibijheaaa

namespace Go.Proofs.Ytpknlbibijheaaa
open Go.RowKit
set_option maxRecDepth 8000

set_option maxHeartbeats 1000000 in
theorem checkVals_any (t : VT) (w : World) (S : Nat → Prop) (hin : VT.In w S t) (hS : ∀ b, S b → b < w.heap.size) :
    Calls Try.prog 56 #[.slice t.p t.n t.c] w fun e w' => e = .returned (.int .i64 (chkVals t)) ∧ Below w.heap.size w w' := by
  have HI := hid hin
  have HSS := hid hS
  obtain ⟨k, i, s, n, p, c, f, rfl⟩ := hin.mk_
  have E : Hid (chkVals (.mk k i s n p c f) = if 6 < n then 27 else firstC (fun q => (chk (f q) 0 0).1) n) := rfl
  generalize chkVals (.mk k i s n p c f) = res at *
  have hnn := hin.fit.nn
  simp only [VT.p_mk, VT.n_mk, VT.c_mk] at hnn ⊢
  clear hin hS
  by_cases hn : 6 < n
  · have hn' : (6 : Int) < (n : Int) := by omega
    have e : res = 27 := by rw [E.out, if_pos hn]
    go_enter Try.func56, Try.ntmps56
    go_wp2
    go_ret
    exact ⟨by first | rfl | (rw [e]; rfl), Below.refl _ _⟩
  · have hn' : ¬ (6 : Int) < (n : Int) := by omega
    have E1 : Hid (res = firstC (fun q => (chk (f q) 0 0).1) n) := by unfold Hid; rw [E.out, if_neg hn]
    go_enter Try.func56, Try.ntmps56
    go_wp2_with fail
    go_loopw [11] (fun x wr => ∃ j : Nat, j ≤ n ∧ x = .int .i64 j ∧ firstC (fun q => (chk (f q) 0 0).1) j = 0 ∧ Below w.heap.size w wr) (fun x _ => n - (intOf x).toNat)
    case atStart => exact ⟨0, Nat.zero_le _, rfl, rfl, Below.refl _ _⟩
    case round =>
      obtain ⟨j, hj, rfl, hf, hbel⟩ := hrel
      have HF := hid hf
      clear hf
      by_cases hlt : j < n
      · have hlt' : (j : Int) < (n : Int) := by omega
        obtain ⟨bb, o, hp, hSb, hbl, hat⟩ := HI.out.at_ (show 0 < (VT.mk k i s n p c f).n from by simp only [VT.n]; omega)
        simp only [VT.p_mk] at hp
        subst hp
        obtain ⟨d0, d1, d2, d3⟩ := (hat j hlt).kept (hbel.block bb hbl)
        simp only [VT.item_mk] at d0 d1 d2 d3
        have HC : Hid (∀ W, Below wr.heap.size wr W → Calls Try.prog 77 #[(f j).val] W fun e w' => e = .returned (.int .i64 (chk (f j) 0 0).1) ∧ Below W.heap.size W w') := fun W hW =>
          check_any (f j) W S (((HI.out.sub hlt).kept hbel.size fun b hb hl => hbel.block b hl).below hW) (fun b hb => Nat.lt_of_lt_of_le (HSS.out b hb) (Nat.le_trans hbel.size hW.size))
        unfold VT.val at HC
        have HBe := hid hbel
        have hsw := hbel.size
        clear hat hbel
        go_wp2_with fail
        refine (HC.out _ ((Below.refl _ _).alloc (Nat.le_refl _) _)).mono ?_
        rintro e w2 ⟨rfl, hb2⟩
        have HB2 : Hid (Below w.heap.size w w2) := (HBe.out.alloc hsw _).trans (hb2.mono (by simp; omega))
        clear hb2 d0 d1 d2 d3
        by_cases hc : (chk (f j) 0 0).1 = 0
        · have HF2 : Hid (firstC (fun q => (chk (f q) 0 0).1) (j + 1) = 0) := by unfold Hid; rw [firstC_succ HF.out]; exact hc
          rw [hc]
          clear hc
          go_wp2
          go_roundw
          case rel => exact ⟨j + 1, by omega, by go_num, HF2.out, HB2.out⟩
          case measure => simp [intOf]; omega
        · have hc' : ¬ ((chk (f j) 0 0).1 : Int) = 0 := by omega
          have e : Hid (res = (chk (f j) 0 0).1) := by unfold Hid; rw [E1.out, firstC_hit HF.out hlt hc]
          go_wp2
          go_ret
          exact ⟨by rw [e.out]; rfl, HB2.out⟩
      · have hje : j = n := by omega
        have e : Hid (res = 0) := by unfold Hid; rw [E1.out, ← hje]; exact HF.out
        have hlt' : ¬ (j : Int) < (n : Int) := by omega
        go_wp2
        go_ret
        exact ⟨by rw [e.out]; rfl, hbel⟩

set_option maxHeartbeats 2000000 in
theorem checkState_any (s : ST) (w : World) (S : Nat → Prop) (hin : ST.In w S s) (hS : ∀ b, S b → b < w.heap.size) :
    Calls Try.prog 30 #[s.val] w fun e w' => e = .returned (.int .i64 (chkState s)) ∧ Below w.heap.size w w' := by
  have E : Hid (chkState s = if s.num < 0 ∨ 1073741824 < s.num then 26 else if 64 < s.n then 27 else firstC (chkCell s.cell) s.n) := rfl
  generalize chkState s = res at *
  have HI := hid hin
  have HSS := hid hS
  obtain ⟨num, p, n, c, f⟩ := s
  have hnn := hin.nn
  unfold ST.val
  simp only at E hnn ⊢
  have HW : Hid (Below w.heap.size w (w.alloc (.cells #[.int .i64 num, .slice p n c] 24))) := (Below.refl _ _).alloc (Nat.le_refl _) _
  have HB := hid (Box.new w #[.int .i64 num, .slice p n c] 24)
  clear hin hS
  by_cases h0 : num < 0
  · have e : Hid (res = 26) := by unfold Hid; rw [E.out, if_pos (.inl h0)]
    go_enter Try.func30, Try.ntmps30
    go_wp2
    go_ret
    exact ⟨by rw [e.out]; rfl, HW.out⟩
  · by_cases h1 : 1073741824 < num
    · have e : Hid (res = 26) := by unfold Hid; rw [E.out, if_pos (.inr h1)]
      go_enter Try.func30, Try.ntmps30
      go_wp2
      go_ret
      exact ⟨by rw [e.out]; rfl, HW.out⟩
    · by_cases h64 : 64 < n
      · have h64' : (64 : Int) < (n : Int) := by omega
        have e : Hid (res = 27) := by unfold Hid; rw [E.out, if_neg (by omega), if_pos h64]
        go_enter Try.func30, Try.ntmps30
        go_wp2
        go_ret
        exact ⟨by rw [e.out]; rfl, HW.out⟩
      · have h64' : ¬ (64 : Int) < (n : Int) := by omega
        have E1 : Hid (res = firstC (chkCell f) n) := by unfold Hid; rw [E.out, if_neg (by omega), if_neg h64]
        go_enter Try.func30, Try.ntmps30
        go_wp2_with fail
        go_loopw [21] (fun x wr => ∃ j : Nat, j ≤ n ∧ x = .int .i64 j ∧ firstC (chkCell f) j = 0 ∧ Box wr w.heap.size #[.int .i64 num, .slice p n c] 24 ∧ Below w.heap.size w wr) (fun x _ => n - (intOf x).toNat)
        case atStart => exact ⟨0, Nat.zero_le _, rfl, rfl, HB.out, HW.out⟩
        case round =>
          obtain ⟨j, hj, rfl, hf, hBx, hbel⟩ := hrel
          have HF := hid hf
          have x1 := hBx.cell 1
          simp at x1
          have hxl := hBx.lt
          have HX := hid (And.intro hBx hbel)
          clear hf hBx
          by_cases hlt : j < n
          · have hlt' : (j : Int) < (n : Int) := by omega
            obtain ⟨bb, o, hp, hSb, hbl, hat⟩ := HI.out.at_ (show 0 < n by omega)
            simp only at hp
            subst hp
            obtain ⟨d0, d1⟩ := (hat j hlt).kept (hbel.block bb hbl)
            simp only at d0 d1
            have hks := (HI.out.each j hlt).fit.s1
            simp only at hks
            have hbl' : bb < wr.heap.size := Nat.lt_of_lt_of_le hbl hbel.size
            have hsw := hbel.size
            have HC : Hid (∀ W, Below wr.heap.size wr W → Calls Try.prog 56 #[.slice (f j).p (f j).n (f j).c] W fun e w' => e = .returned (.int .i64 (chkVals (f j))) ∧ Below W.heap.size W w') := fun W hW =>
              checkVals_any (f j) W S (((HI.out.each j hlt).kept hbel.size fun b hb hl => hbel.block b hl).below hW) (fun b hb => Nat.lt_of_lt_of_le (HSS.out b hb) (Nat.le_trans hbel.size hW.size))
            by_cases hk : 12 < (f j).text.size
            · have hk' : (12 : Int) < ((f j).text.size : Int) := by omega
              have hl : chkCell f j = 24 := by unfold chkCell; rw [if_pos hk]
              have e : Hid (res = 24) := by unfold Hid; rw [E1.out, firstC_hit HF.out hlt (by rw [hl]; decide), hl]
              have HB2 : Hid (Below w.heap.size w (wr.alloc (.cells #[.string (f j).text, .slice (f j).p (f j).n (f j).c] 62))) := hbel.alloc hsw _
              clear hat hl hbel
              go_wp2
              go_ret
              exact ⟨by rw [e.out]; rfl, HB2.out⟩
            · have hk' : ¬ (12 : Int) < ((f j).text.size : Int) := by omega
              have hB2 : Box (wr.alloc (.cells #[.string (f j).text, .slice (f j).p (f j).n (f j).c] 62)) wr.heap.size #[.string (f j).text, .slice (f j).p (f j).n (f j).c] 62 := Box.new _ _ _
              by_cases hj0 : j = 0
              · subst hj0
                have hl : chkCell f 0 = chkVals (f 0) := by unfold chkCell; rw [if_neg hk, if_neg (by omega)]
                simp only [Nat.zero_mul, Nat.add_zero] at d0 d1
                go_wp2_with fail
                go_region
                all_goals
                  go_wp2_with fail
                  refine (HC.out _ ?_).mono ?_
                  first | exact ((Below.refl _ _).alloc (Nat.le_refl _) _).drew | exact (Below.refl _ _).alloc (Nat.le_refl _) _
                  rintro e w2 ⟨rfl, hb2⟩
                  have hb3 : Below wr.heap.size wr w2 := by
                    refine Below.trans ?_ (hb2.mono ?_)
                    · first | exact ((Below.refl _ _).alloc (Nat.le_refl _) _).drew | exact (Below.refl _ _).alloc (Nat.le_refl _) _
                    · simp
                  have HB2 : Hid (Box w2 w.heap.size #[.int .i64 num, .slice (some ⟨bb, o, none⟩) n c] 24 ∧ Below w.heap.size w w2) := ⟨HX.out.1.below hb3, HX.out.2.trans (hb3.mono hsw)⟩
                  clear hb2 hb3 d0 d1 hbel hat hB2
                  by_cases hc : chkVals (f (0)) = 0
                  · have HF2 : Hid (firstC (chkCell f) (0 + 1) = 0) := by unfold Hid; rw [firstC_succ HF.out, hl]; exact hc
                    rw [hc]
                    clear hc hl
                    go_wp2
                    go_roundw
                    case rel => exact ⟨0 + 1, by omega, by go_num, HF2.out, HB2.out.1, HB2.out.2⟩
                    case measure => simp [intOf]; omega
                  · have hc' : ¬ (chkVals (f (0)) : Int) = 0 := by omega
                    have e : Hid (res = chkVals (f (0))) := by unfold Hid; rw [E1.out, firstC_hit HF.out hlt (by rw [hl]; exact hc), hl]
                    clear hl
                    go_wp2
                    go_ret
                    exact ⟨by rw [e.out]; rfl, HB2.out.2⟩
              · obtain ⟨m, rfl⟩ : ∃ m, j = m + 1 := ⟨j - 1, by omega⟩
                have c0 := ((hat m (show m < n by omega)).kept (hbel.block bb hbl)).c0
                simp only at c0
                have hle := le_not_lt (f (m + 1)).text.toList (f m).text.toList
                cases hb : Op.bytesLess (f m).text.toList (f (m + 1)).text.toList with
                | false =>
                  rw [hb] at hle
                  have hl : chkCell f (m + 1) = 27 := by unfold chkCell; rw [if_neg hk, if_pos ⟨by omega, hb⟩]
                  have e : Hid (res = 27) := by unfold Hid; rw [E1.out, firstC_hit HF.out hlt (by rw [hl]; decide), hl]
                  have HB2 : Hid (Below w.heap.size w (wr.alloc (.cells #[.string (f (m + 1)).text, .slice (f (m + 1)).p (f (m + 1)).n (f (m + 1)).c] 62)).drew) := (hbel.alloc hsw _).drew
                  clear hat hl hbel
                  go_wp2_with fail
                  go_region
                  all_goals
                    go_wp2
                    go_ret
                    exact ⟨by rw [e.out]; rfl, HB2.out⟩
                | true =>
                  rw [hb] at hle
                  have hl : chkCell f (m + 1) = chkVals (f (m + 1)) := by unfold chkCell; rw [if_neg hk, if_neg (by intro h; rw [Nat.add_sub_cancel, hb] at h; cases h.2)]
                  go_wp2_with fail
                  go_region
                  all_goals
                    go_wp2_with fail
                    refine (HC.out _ ?_).mono ?_
                    first | exact ((Below.refl _ _).alloc (Nat.le_refl _) _).drew | exact (Below.refl _ _).alloc (Nat.le_refl _) _
                    rintro e w2 ⟨rfl, hb2⟩
                    have hb3 : Below wr.heap.size wr w2 := by
                      refine Below.trans ?_ (hb2.mono ?_)
                      · first | exact ((Below.refl _ _).alloc (Nat.le_refl _) _).drew | exact (Below.refl _ _).alloc (Nat.le_refl _) _
                      · simp
                    have HB2 : Hid (Box w2 w.heap.size #[.int .i64 num, .slice (some ⟨bb, o, none⟩) n c] 24 ∧ Below w.heap.size w w2) := ⟨HX.out.1.below hb3, HX.out.2.trans (hb3.mono hsw)⟩
                    clear hb2 hb3 d0 d1 hbel hat hB2
                    by_cases hc : chkVals (f (m + 1)) = 0
                    · have HF2 : Hid (firstC (chkCell f) (m + 1 + 1) = 0) := by unfold Hid; rw [firstC_succ HF.out, hl]; exact hc
                      rw [hc]
                      clear hc hl
                      go_wp2
                      go_roundw
                      case rel => exact ⟨m + 1 + 1, by omega, by go_num, HF2.out, HB2.out.1, HB2.out.2⟩
                      case measure => simp [intOf]; omega
                    · have hc' : ¬ (chkVals (f (m + 1)) : Int) = 0 := by omega
                      have e : Hid (res = chkVals (f (m + 1))) := by unfold Hid; rw [E1.out, firstC_hit HF.out hlt (by rw [hl]; exact hc), hl]
                      clear hl
                      go_wp2
                      go_ret
                      exact ⟨by rw [e.out]; rfl, HB2.out.2⟩
          · have hje : j = n := by omega
            have e : Hid (res = 0) := by unfold Hid; rw [E1.out, ← hje]; exact HF.out
            have hlt' : ¬ (j : Int) < (n : Int) := by omega
            go_wp2
            go_ret
            exact ⟨by rw [e.out]; rfl, hbel⟩
end Go.Proofs.Ytpknlbibijheaaa

namespace Go.Proofs.Ytpknlbibijheaaa
open Go.RowKit
set_option maxRecDepth 8000

/-- a delta -/
structure DT where
  num : Int
  set : LT VT
  gone : LT ByteArray
def DT.val (d : DT) : Value := .agg #[.int .i64 d.num, .slice d.set.p d.set.n d.set.c, .slice d.gone.p d.gone.n d.gone.c]
structure DT.In (w : World) (S : Nat → Prop) (d : DT) : Prop where
  set : LT.In elCell w S d.set
  gone : LT.In elStr w S d.gone
  n0 : -9223372036854775808 ≤ d.num
  n1 : d.num ≤ 9223372036854775807
theorem DT.In.kept {w w' : World} {S : Nat → Prop} {d : DT} (h : DT.In w S d) (hs : w.heap.size ≤ w'.heap.size) (hb : ∀ b, S b → b < w.heap.size → w'.heap[b]? = w.heap[b]?) : DT.In w' S d := ⟨h.set.kept hs hb, h.gone.kept hs hb, h.n0, h.n1⟩
theorem DT.In.mono {w : World} {S S' : Nat → Prop} {d : DT} (h : DT.In w S d) (hb : ∀ b, S b → b < w.heap.size → S' b) : DT.In w S' d := ⟨h.set.mono hb, h.gone.mono hb, h.n0, h.n1⟩
theorem DT.In.below {w w' : World} {S : Nat → Prop} {d : DT} (h : DT.In w S d) (hb : Below w.heap.size w w') : DT.In w' S d := h.kept hb.size fun b _ hl => hb.block b hl
theorem LT.toST {w : World} {S : Nat → Prop} {l : LT VT} (h : LT.In elCell w S l) {num : Int} (h0 : -9223372036854775808 ≤ num) (h1 : num ≤ 9223372036854775807) : ST.In w S ⟨num, l.p, l.n, l.c, l.item⟩ := by
  refine ⟨fun hn => ?_, h.each, h.nc, h.nn, h.cc, h0, h1⟩
  obtain ⟨b, o, e, hS, hl, ha⟩ := h.at_ hn
  exact ⟨b, o, e, hS, hl, fun j hj => ⟨ha j hj 0 _ rfl, ha j hj 1 _ rfl⟩⟩
def hasK (xs : List VT) (key : ByteArray) : Bool := xs.any fun c => c.text.toList == key.toList
set_option maxHeartbeats 1000000 in
theorem setsOne (c : VT) (kb : Nat) (key : ByteArray) (w : World) (hk : Box w kb #[.string key] 9) : Calls Try.prog 69 #[.agg #[.string c.text, .slice c.p c.n c.c], .pointer (some ⟨kb, 0, none⟩)] w fun e w' => e = .returned (.bool (c.text.toList == key.toList)) ∧ Below w.heap.size w w' := by
  have k0 := hk.cell 0
  have kl := hk.lt
  simp at k0
  go_enter Try.func69, Try.ntmps69
  go_wp2
  exact bodyPost_ret (v := .bool (c.text.toList == key.toList)) (by simp [results, Try.results69, go_sem]) rfl ⟨rfl, (Below.refl _ _).alloc (Nat.le_refl _) _⟩
set_option maxHeartbeats 2000000 in
theorem idxK (l : LT VT) (kb : Nat) (key : ByteArray) (w : World) (S : Nat → Prop) (hin : LT.In elCell w S l) (hk : Box w kb #[.string key] 9) : Calls Try.prog 83 #[.slice l.p l.n l.c, .func (.func 69) #[] #[.pointer (some ⟨kb, 0, none⟩)]] w fun e w' => ∃ i : Int, e = .returned (.int .i64 i) ∧ decide (0 ≤ i) = hasK l.toL key ∧ Below w.heap.size w w' := by
  have HI := hid hin
  have HK := hid hk
  have hnn := hin.nn
  clear hin hk
  go_enter Try.func83, Try.ntmps83
  go_wp2_with fail
  go_loopw [8] (fun x wr => ∃ k : Nat, k ≤ l.n ∧ x = .int .i64 (k : Int) ∧ (∀ q, q < k → ((l.item q).text.toList == key.toList) = false) ∧ Below w.heap.size w wr) (fun x _ => l.n - (intOf x).toNat)
  case atStart => exact ⟨0, Nat.zero_le _, rfl, fun q hq => absurd hq (by omega), Below.refl _ _⟩
  case round =>
    obtain ⟨k, hk, rfl, hno, hbel⟩ := hrel
    have HNo := hid hno
    have HB := hid hbel
    clear hno
    by_cases hlt : k < l.n
    · have hlt' : (k : Int) < (l.n : Int) := by omega
      obtain ⟨bb, o, hp, hSb, hbl, hat⟩ := HI.out.at_ (by omega)
      rw [hp]
      have hcell : ∀ r u, (elCell.cells (l.item k))[r]? = some u → wr.cell? ⟨bb, o + k * 2 + r, none⟩ = some u := fun r u hu => (World.cell?_of_block (a := ⟨bb, o + k * 2 + r, none⟩) (hbel.block bb hbl)).trans (hat k hlt r u hu)
      have c0 : wr.cell? ⟨bb, o + k * 2, none⟩ = some (.string (l.item k).text) := hcell 0 _ rfl
      have c1 : wr.cell? ⟨bb, o + k * 2 + 1, none⟩ = some (.slice (l.item k).p (l.item k).n (l.item k).c) := hcell 1 _ rfl
      have hbl2 : bb < wr.heap.size := Nat.lt_of_lt_of_le hbl hbel.size
      have HC := hid (setsOne (l.item k) kb key wr (HK.out.below hbel))
      clear hcell hat hbel
      go_wp2_with fail
      refine HC.out.mono ?_
      rintro e w1 ⟨rfl, hb1⟩
      have HB1 : Hid (Below w.heap.size w w1) := HB.out.trans (hb1.mono HB.out.size)
      clear hb1 c0 c1
      cases hx : ((l.item k).text.toList == key.toList) with
      | true =>
        go_wp2
        refine bodyPost_ret (v := .int .i64 (k : Int)) (by simp [results, Try.results83, go_sem]) rfl ⟨k, rfl, ?_, HB1.out⟩
        have h1 : hasK l.toL key = true := List.any_eq_true.2 ⟨l.item k, List.mem_of_getElem? (LT.toL_get l hlt), hx⟩
        rw [h1]
        simp
      | false =>
        go_wp2
        go_roundw
        case rel =>
          refine ⟨k + 1, by omega, by go_num, fun q hq => ?_, HB1.out⟩
          by_cases hqk : q < k
          · exact HNo.out q hqk
          · obtain rfl : q = k := by omega
            exact hx
        case measure => simp [intOf]; omega
    · obtain rfl : k = l.n := by omega
      go_wp2
      refine bodyPost_ret (v := .int .i64 (-1)) (by simp [results, Try.results83, go_sem]) rfl ⟨-1, rfl, ?_, HB.out⟩
      have h1 : hasK l.toL key = false := by
        rw [hasK, List.any_eq_false]
        intro c hc
        obtain ⟨j, hj, e⟩ := LT.mem_toL hc
        rw [← e, HNo.out j hj]
        simp
      rw [h1]
      rfl
set_option maxHeartbeats 1000000 in
theorem containsK (l : LT VT) (kb : Nat) (key : ByteArray) (w : World) (S : Nat → Prop) (hin : LT.In elCell w S l) (hk : Box w kb #[.string key] 9) : Calls Try.prog 68 #[.slice l.p l.n l.c, .func (.func 69) #[] #[.pointer (some ⟨kb, 0, none⟩)]] w fun e w' => e = .returned (.bool (hasK l.toL key)) ∧ Below w.heap.size w w' := by
  have HI := hid (idxK l kb key w S hin hk)
  clear hin hk
  go_enter Try.func68, Try.ntmps68
  go_wp2_with fail
  refine HI.out.mono ?_
  rintro e w1 ⟨i, rfl, hi, hb1⟩
  have HD := hid hi
  have HB := hid hb1
  clear hi hb1
  go_wp2
  exact bodyPost_ret (v := .bool (decide (0 ≤ i))) (by simp [results, Try.results68, go_sem]) rfl ⟨by rw [HD.out], HB.out⟩
set_option maxHeartbeats 2000000 in
/-- sets -/
theorem sets_any (d : DT) (key : ByteArray) (w : World) (S : Nat → Prop) (hin : DT.In w S d) : Calls Try.prog 36 #[.agg #[.int .i64 d.num, .slice d.set.p d.set.n d.set.c, .slice d.gone.p d.gone.n d.gone.c], .string key] w fun e w' => e = .returned (.bool (hasK d.set.toL key)) ∧ Below w.heap.size w w' := by
  obtain ⟨W, hW⟩ : ∃ V, V = (w.alloc (.cells #[.int .i64 d.num, .slice d.set.p d.set.n d.set.c, .slice d.gone.p d.gone.n d.gone.c] 30)).alloc (.cells #[.string key] 9) := ⟨_, rfl⟩
  have hB : Below w.heap.size w W := by rw [hW]; exact ((Below.refl _ _).alloc (Nat.le_refl _) _).alloc (by simp) _
  have hk : Box W (w.heap.size + 1) #[.string key] 9 := by
    have h := Box.new (w.alloc (.cells #[.int .i64 d.num, .slice d.set.p d.set.n d.set.c, .slice d.gone.p d.gone.n d.gone.c] 30)) #[.string key] 9
    rw [show (w.alloc (.cells #[.int .i64 d.num, .slice d.set.p d.set.n d.set.c, .slice d.gone.p d.gone.n d.gone.c] 30)).heap.size = w.heap.size + 1 by simp] at h
    rw [hW]; exact h
  have HI := hid (containsK d.set (w.heap.size + 1) key W S (hin.set.below hB) hk)
  have HB := hid hB
  have HW := hid hW
  clear hin hB hk hW
  go_enter Try.func36, Try.ntmps36
  go_wp2_with fail
  rw [← HW.out]
  refine HI.out.mono ?_
  rintro e w1 ⟨rfl, hb1⟩
  have HBw : Hid (Below w.heap.size w w1) := HB.out.trans (hb1.mono HB.out.size)
  clear hb1
  go_wp2
  exact bodyPost_ret (v := .bool (hasK d.set.toL key)) (by simp [results, Try.results36, go_sem]) rfl ⟨rfl, HBw.out⟩
/-- what is wrong with a key that is to go -/
def chkGone (xs : List VT) (g : Nat → ByteArray) (k : Nat) : Nat := if 12 < (g k).size then 24 else if (0 < k ∧ (Op.bytesLess (g k).toList (g (k - 1)).toList || (g k).toList == (g (k - 1)).toList) = true) ∨ hasK xs (g k) = true then 112 else 0
/-- what is wrong with a delta -/
def chkD (d : DT) : Nat := if chkState ⟨d.num, d.set.p, d.set.n, d.set.c, d.set.item⟩ ≠ 0 then chkState ⟨d.num, d.set.p, d.set.n, d.set.c, d.set.item⟩ else if 64 < d.gone.n then 111 else firstC (chkGone d.set.toL d.gone.item) d.gone.n
set_option maxRecDepth 60000 in
set_option maxHeartbeats 8000000 in
/-- Check -/
theorem checkD_any (d : DT) (w : World) (S : Nat → Prop) (hin : DT.In w S d) (hS : ∀ b, S b → b < w.heap.size) : Calls Try.prog 13 #[.agg #[.int .i64 d.num, .slice d.set.p d.set.n d.set.c, .slice d.gone.p d.gone.n d.gone.c]] w fun e w' => e = .returned (.int .i64 (chkD d)) ∧ Below w.heap.size w w' := by
  obtain ⟨res, hres⟩ : ∃ r, r = chkD d := ⟨_, rfl⟩
  rw [← hres]
  have HE := hid hres
  obtain ⟨cs, hcs⟩ : ∃ c, c = chkState ⟨d.num, d.set.p, d.set.n, d.set.c, d.set.item⟩ := ⟨_, rfl⟩
  obtain ⟨W, hW⟩ : ∃ V, V = w.alloc (.cells #[.int .i64 d.num, .slice d.set.p d.set.n d.set.c, .slice d.gone.p d.gone.n d.gone.c] 30) := ⟨_, rfl⟩
  have hB : Below w.heap.size w W := by rw [hW]; exact (Below.refl _ _).alloc (Nat.le_refl _) _
  have hx : Box W w.heap.size #[.int .i64 d.num, .slice d.set.p d.set.n d.set.c, .slice d.gone.p d.gone.n d.gone.c] 30 := by rw [hW]; exact Box.new _ _ _
  have HC := hid (checkState_any ⟨d.num, d.set.p, d.set.n, d.set.c, d.set.item⟩ W S (LT.toST (hin.set.below hB) hin.n0 hin.n1) (fun b hb => Nat.lt_of_lt_of_le (hS b hb) hB.size))
  rw [← hcs] at HC
  unfold ST.val at HC
  have HI := hid hin
  have hnn := hin.gone.nn
  have HB := hid hB
  have HW := hid hW
  have HX := hid hx
  have HCs := hid hcs
  have x0 := hx.cell 0
  have x1 := hx.cell 1
  have xl := hx.lt
  simp at x0 x1
  clear hin hS hB hW hx hcs hres
  go_enter Try.func13, Try.ntmps13
  go_upto_region 1 with fail
  rw [← HW.out]
  go_wp2_with fail
  refine HC.out.mono ?_
  rintro e w1 ⟨rfl, hb1⟩
  have HB1 := hid hb1
  clear hb1 x0 x1 xl HC
  by_cases hc0 : cs = 0
  · have hc1 : ((cs : Int) != 0) = false := by simp [hc0]
    have hx1 := HX.out.below HB1.out
    have y1 := hx1.cell 1
    have y2 := hx1.cell 2
    have yl := hx1.lt
    simp at y1 y2
    have HC0 := hid hc0
    clear hx1 hc0
    by_cases h64 : 64 < d.gone.n
    · have h64' : (64 : Int) < (d.gone.n : Int) := by omega
      have HEe : Hid (res = 111) := by show _ = _; rw [HE.out, chkD, ← HCs.out, if_neg (by rw [HC0.out]; simp), if_pos h64]
      go_wp2
      exact bodyPost_ret (v := .int .i64 111) (by simp [results, Try.results13, go_sem]) rfl ⟨by rw [HEe.out]; rfl, HB.out.trans (HB1.out.mono HB.out.size)⟩
    · have h64' : ¬ (64 : Int) < (d.gone.n : Int) := by omega
      have HE2 : Hid (res = firstC (chkGone d.set.toL d.gone.item) d.gone.n) := by show _ = _; rw [HE.out, chkD, ← HCs.out, if_neg (by rw [HC0.out]; simp), if_neg h64]
      have HBa : Hid (Below w.heap.size w w1) := HB.out.trans (HB1.out.mono HB.out.size)
      go_wp2_with fail
      go_loopw [22] (fun x wr => ∃ k : Nat, k ≤ d.gone.n ∧ x = .int .i64 (k : Int) ∧ firstC (chkGone d.set.toL d.gone.item) k = 0 ∧ Below W.heap.size W wr) (fun x _ => d.gone.n - (intOf x).toNat)
      case atStart => exact ⟨0, Nat.zero_le _, rfl, rfl, HB1.out⟩
      case round =>
        obtain ⟨k, hk, rfl, hf, hbel⟩ := hrel
        have HF := hid hf
        have HBl := hid hbel
        have HBw : Hid (Below w.heap.size w wr) := HB.out.trans (hbel.mono HB.out.size)
        clear hf y1 y2 yl
        by_cases hlt : k < d.gone.n
        · have hlt' : (k : Int) < (d.gone.n : Int) := by omega
          have hxr := HX.out.below hbel
          have y0 := hxr.cell 0
          have y1 := hxr.cell 1
          have y2 := hxr.cell 2
          have yl := hxr.lt
          simp at y0 y1 y2
          obtain ⟨bb, o, hp, hSb, hbl, hat⟩ := HI.out.gone.at_ (by omega)
          rw [hp] at y2
          have c0 : ∀ j, j < d.gone.n → wr.cell? ⟨bb, o + j, none⟩ = some (.string (d.gone.item j)) := fun j hj => by
            have h := hat j hj 0 _ rfl
            rw [show o + j * elStr.size + 0 = o + j from by show o + j * 1 + 0 = o + j; omega] at h
            exact (World.cell?_of_block (a := ⟨bb, o + j, none⟩) (HBw.out.block bb hbl)).trans h
          have ck := c0 k hlt
          have HCk := hid c0
          have hbl2 : bb < wr.heap.size := Nat.lt_of_lt_of_le hbl HBw.out.size
          have HSt := hid (sets_any d (d.gone.item k) wr S (HI.out.below HBw.out))
          obtain ⟨g, hg⟩ : ∃ g, g = d.gone.item k := ⟨_, rfl⟩
          rw [← hg] at ck HSt
          rw [hp] at HSt
          have HG := hid hg
          clear hxr hat hbel c0 hg
          rw [hp]
          have HStep : Hid (∀ c, chkGone d.set.toL d.gone.item k = c → c ≠ 0 → res = c) := fun c hc hn => by
            rw [HE2.out, firstC_hit HF.out hlt (by rw [hc]; exact hn), hc]
          by_cases h12 : 12 < g.size
          · have h12' : (12 : Int) < (g.size : Int) := by omega
            have HEe : Hid (res = 24) := HStep.out 24 (by rw [chkGone, ← HG.out, if_pos h12]) (by decide)
            go_wp2
            exact bodyPost_ret (v := .int .i64 24) (by simp [results, Try.results13, go_sem]) rfl ⟨by rw [HEe.out]; rfl, HBw.out⟩
          · have h12' : ¬ (12 : Int) < (g.size : Int) := by omega
            have hret : Hid (chkGone d.set.toL d.gone.item k = 112 → res = 112) := fun h => HStep.out 112 h (by decide)
            have hcg : Hid (chkGone d.set.toL d.gone.item k = if (0 < k ∧ (Op.bytesLess g.toList (d.gone.item (k - 1)).toList || g.toList == (d.gone.item (k - 1)).toList) = true) ∨ hasK d.set.toL g = true then 112 else 0) := by show _ = _; rw [chkGone, ← HG.out, if_neg h12]
            by_cases hk0 : k = 0
            · subst hk0
              simp only [Nat.add_zero] at ck
              go_wp2_with fail
              refine HSt.out.mono ?_
              rintro e w2 ⟨rfl, hb2⟩
              have HB2 : Hid (Below W.heap.size W w2) := HBl.out.trans (hb2.mono HBl.out.size)
              have HBz : Hid (Below w.heap.size w w2) := HB.out.trans (HB2.out.mono HB.out.size)
              clear hb2
              cases hh : hasK d.set.toL g with
              | true =>
                have HEe : Hid (res = 112) := hret.out (by rw [hcg.out, if_pos (.inr hh)])
                go_wp2
                exact bodyPost_ret (v := .int .i64 112) (by simp [results, Try.results13, go_sem]) rfl ⟨by rw [HEe.out]; rfl, HBz.out⟩
              | false =>
                have HZ : Hid (chkGone d.set.toL d.gone.item 0 = 0) := by
                  show _ = _
                  rw [hcg.out, if_neg]
                  rintro (⟨h1, h2⟩ | h2)
                  · omega
                  · rw [hh] at h2; cases h2
                go_wp2
                go_roundw
                case rel => exact ⟨0 + 1, by omega, by go_num, by rw [firstC_succ HF.out]; exact HZ.out, HB2.out⟩
                case measure => simp [intOf]; omega
            · obtain ⟨m, rfl⟩ : ∃ m, k = m + 1 := ⟨k - 1, by omega⟩
              have cp := HCk.out m (by omega)
              obtain ⟨pr, hpr⟩ : ∃ p, p = d.gone.item m := ⟨_, rfl⟩
              rw [← hpr] at cp
              have hPr : Hid (pr = d.gone.item (m + 1 - 1)) := hpr
              clear hpr
              have hpos : (0 : Int) < (m : Int) + 1 := by omega
              cases hle : (Op.bytesLess g.toList pr.toList || g.toList == pr.toList) with
              | true =>
                have HEe : Hid (res = 112) := hret.out (by rw [hcg.out, if_pos (.inl ⟨by omega, by rw [← hPr.out]; exact hle⟩)])
                go_wp2
                exact bodyPost_ret (v := .int .i64 112) (by simp [results, Try.results13, go_sem]) rfl ⟨by rw [HEe.out]; rfl, HBw.out⟩
              | false =>
                go_wp2_with fail
                refine HSt.out.mono ?_
                rintro e w2 ⟨rfl, hb2⟩
                have HB2 : Hid (Below W.heap.size W w2) := HBl.out.trans (hb2.mono HBl.out.size)
                have HBz : Hid (Below w.heap.size w w2) := HB.out.trans (HB2.out.mono HB.out.size)
                clear hb2
                cases hh : hasK d.set.toL g with
                | true =>
                  have HEe : Hid (res = 112) := hret.out (by rw [hcg.out, if_pos (.inr hh)])
                  go_wp2
                  exact bodyPost_ret (v := .int .i64 112) (by simp [results, Try.results13, go_sem]) rfl ⟨by rw [HEe.out]; rfl, HBz.out⟩
                | false =>
                  have HZ : Hid (chkGone d.set.toL d.gone.item (m + 1) = 0) := by
                    show _ = _
                    rw [hcg.out, if_neg]
                    rintro (⟨h1, h2⟩ | h2)
                    · rw [← hPr.out, hle] at h2; cases h2
                    · rw [hh] at h2; cases h2
                  go_wp2
                  go_roundw
                  case rel => exact ⟨(m + 1) + 1, by omega, by go_num, by rw [firstC_succ HF.out]; exact HZ.out, HB2.out⟩
                  case measure => simp [intOf]; omega
        · obtain rfl : k = d.gone.n := by omega
          have HEe : Hid (res = 0) := by show _ = _; rw [HE2.out, HF.out]
          go_wp2
          exact bodyPost_ret (v := .int .i64 0) (by simp [results, Try.results13, go_sem]) rfl ⟨by rw [HEe.out]; rfl, HBw.out⟩
  · have hc1 : ((cs : Int) != 0) = true := by simp; omega
    have HEe : Hid (res = cs) := by show _ = _; rw [HE.out, chkD, ← HCs.out, if_pos hc0]
    go_wp2
    exact bodyPost_ret (v := .int .i64 (cs : Int)) (by simp [results, Try.results13, go_sem]) rfl ⟨by rw [HEe.out], HB.out.trans (HB1.out.mono HB.out.size)⟩
end Go.Proofs.Ytpknlbibijheaaa
