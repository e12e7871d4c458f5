import Derived.Test.YtdmhemofhmfkoabGreatDoorPack20
namespace Go.Proofs.YtdmhemofhmfkoabGreatDoor
open Go.RowKit
set_option maxRecDepth 8000
theorem runF_lt (s : ByteArray) (a : Nat) : ∀ k i v r, runF s a k i v = some r → r < (v + 1) * 64 ^ k
  | 0, i, v, r, h => by simp only [runF, Option.some.injEq] at h; omega
  | k + 1, i, v, r, h => by
    unfold runF at h
    have := pk_lt s (a + i)
    split at h
    · cases h
    · have ih := runF_lt s a k (i + 1) _ r h
      have e : (v * 64 + pk s (a + i) - 128 + 1) ≤ (v + 1) * 64 := by omega
      have := Nat.mul_le_mul_right (64 ^ k) e
      rw [Nat.pow_succ, Nat.mul_comm (64 ^ k) 64, ← Nat.mul_assoc]
      omega
def RunPost (w : World) (r : Nat × Nat) (x : Ending) (w' : World) : Prop := x = .returned (.tuple #[.int .i64 (r.1 : Int), .int .i64 (r.2 : Int)]) ∧ Below w.heap.size w w'
set_option maxHeartbeats 2000000 in
theorem runeAt_2 (s : ByteArray) (a c : Nat) (w : World) (ha : a < s.size) (hs : s.size ≤ 140737488355328) (hc : pk s a = c) (h1 : 192 ≤ c) (h2 : c < 224) :
    Calls Tryz.prog 112 #[.string s, .int .i64 (a : Int)] w fun x w' => RunPost w (runR s a) x w' := by
  have hN : runN c = 2 := by unfold runN; rw [if_pos (by omega)]
  have hV : runV c = c - 192 := by unfold runV; rw [if_pos (by omega)]
  have hL : runL c = 128 := by unfold runL; rw [if_pos (by omega)]
  obtain ⟨R, hR⟩ : ∃ R, runR s a = R := ⟨_, rfl⟩
  rw [hR]
  unfold runR at hR
  rw [hc, hN, hV] at hR
  obtain ⟨low, hlow⟩ : ∃ low, runL c = low := ⟨_, rfl⟩
  rw [hlow] at hR hL
  have HLo := hid hL
  clear hlow
  have HR := hid hR
  have hg := pk_get ha
  rw [hc] at hg
  have ha' : (a : Int) < (s.size : Int) := by omega
  obtain ⟨v, hv⟩ : ∃ v, c = 192 + v := ⟨c - 192, by omega⟩
  subst hv
  have hv32 : v < 32 := by omega
  have hd0 : decide ((192 : Int) + (v : Int) < 192) = false := by simp; omega
  have he0 : decide ((192 : Int) ≤ (192 : Int) + (v : Int)) = true := by simp; omega
  have hd1 : decide ((192 : Int) + (v : Int) < 224) = true := by simp; omega
  have he1 : decide ((224 : Int) ≤ (192 : Int) + (v : Int)) = false := by simp; omega
  have hd2 : decide ((192 : Int) + (v : Int) < 240) = true := by simp; omega
  have he2 : decide ((240 : Int) ≤ (192 : Int) + (v : Int)) = false := by simp; omega
  have hd3 : decide ((192 : Int) + (v : Int) < 248) = true := by simp; omega
  have he3 : decide ((248 : Int) ≤ (192 : Int) + (v : Int)) = false := by simp; omega
  rw [Nat.add_sub_cancel_left] at HR
  clear hR hN hV hL hc
  by_cases hfit : s.size < a + 2
  · have HE := hid ((if_pos (.inr hfit)).symm.trans HR.out)
    go_enter Tryz.func112, Tryz.ntmps112
    go_wp2_with fail
    exact bodyPost_ret (v := .tuple #[.int .i64 0, .int .i64 0]) (by simp [results, Tryz.results112, go_sem]) rfl ⟨by rw [← HE.out]; rfl, Below.refl _ _⟩
  · have HE := hid ((if_neg (show ¬ (2 = 0 ∨ s.size < a + 2) by omega)).symm.trans HR.out)
    clear HR
    go_enter Tryz.func112, Tryz.ntmps112
    go_wp2_with fail
    go_loopw [8, 10] (fun y x wr => ∃ i v : Nat, y = .int .i64 (v : Int) ∧ x = .int .i64 (i : Int) ∧ 1 ≤ i ∧ i ≤ 2 ∧ v < 32 * 64 ^ (i - 1) ∧ runE low 2 (runF s a (2 - i) i v) = R ∧ Below w.heap.size w wr) (fun _ x _ => 2 - (intOf x).toNat)
    case atStart => exact ⟨1, v, by simp; omega, rfl, by omega, by omega, by simpa using hv32, HE.out, Below.refl _ _⟩
    case round =>
      clear hv32 hg h1 h2 HE
      obtain ⟨i, v, rfl, rfl, hi1, hin, hvb, hrun, hb⟩ := hrel
      have HB := hid hb
      clear hb
      by_cases hlt : i < 2
      · have hlt' : (i : Int) < 2 := by omega
        have hpl : a + i < s.size := by omega
        have hg := pk_get hpl
        have hk := pk_lt s (a + i)
        rw [show 2 - i = (2 - (i + 1)) + 1 by omega, runF] at hrun
        obtain ⟨d, hd⟩ : ∃ d, pk s (a + i) = d := ⟨_, rfl⟩
        rw [hd] at hg hk hrun
        have hvw : v < 131072 := by
          have : 32 * 64 ^ (i - 1) ≤ 32 * 64 ^ 2 := Nat.mul_le_mul_left _ (Nat.pow_le_pow_right (by omega) (by omega))
          omega
        have hbw : v * 64 + d - 128 < 32 * 64 ^ (i + 1 - 1) ∨ (d < 128 ∨ 192 ≤ d) := by
          have e : 64 ^ (i + 1 - 1) = 64 ^ (i - 1) * 64 := by rw [← Nat.pow_succ]; congr 1; omega
          rw [e, ← Nat.mul_assoc]
          omega
        clear hd
        have HX := hid (And.intro hrun hbw)
        clear hrun hbw hvb
        have hai : IntKind.i64.wrap ((a : Int) + (i : Int)) = ((a + i : Nat) : Int) := by rw [IntKind.wrap_i64]; omega
        by_cases hbad : d < 128 ∨ 192 ≤ d
        · have HQ := hid ((congrArg (runE low 2) (if_pos hbad)).symm.trans HX.out.1)
          rcases hbad with hb1 | hb1
          · have hb2 : (d : Int) < 128 := by omega
            go_wp2_with fail
            refine bodyPost_ret (v := .tuple #[.int .i64 0, .int .i64 0]) (by simp [results, Tryz.results112, go_sem]) rfl ⟨by rw [← HQ.out]; rfl, HB.out⟩
          · have hb2 : ¬ (d : Int) < 128 := by omega
            have hb3 : (192 : Int) ≤ (d : Int) := by omega
            go_wp2_with fail
            refine bodyPost_ret (v := .tuple #[.int .i64 0, .int .i64 0]) (by simp [results, Tryz.results112, go_sem]) rfl ⟨by rw [← HQ.out]; rfl, HB.out⟩
        · have HQ := hid (And.intro ((congrArg (runE low 2) (if_neg hbad)).symm.trans HX.out.1) (HX.out.2.resolve_right hbad))
          have hb2 : ¬ (d : Int) < 128 := by omega
          have hb3 : ¬ (192 : Int) ≤ (d : Int) := by omega
          clear HX
          go_wp2_with fail
          go_roundw
          case rel => exact ⟨i + 1, v * 64 + d - 128, by simp; omega, by go_num, by omega, by omega, HQ.out.2, HQ.out.1, HB.out⟩
          case measure => simp [intOf]; omega
      · obtain rfl : i = 2 := by omega
        rw [Nat.sub_self, runF] at hrun
        unfold runE at hrun
        simp only at hrun
        have hvw : v < 8388608 := by omega
        clear hvb
        have hl := HLo.out
        by_cases hbad : v < low ∨ 1114111 < v ∨ (55296 ≤ v ∧ v < 57344)
        · have HQ := hid ((if_pos hbad).symm.trans hrun)
          clear hrun
          go_wp2_with fail
          all_goals first | (exfalso; omega) | exact bodyPost_ret (v := .tuple #[.int .i64 0, .int .i64 0]) (by simp [results, Tryz.results112, go_sem]) rfl ⟨by rw [← HQ.out]; rfl, HB.out⟩
        · have HQ := hid ((if_neg hbad).symm.trans hrun)
          clear hrun
          go_wp2_with fail
          all_goals first | (exfalso; omega) | exact bodyPost_ret (v := .tuple #[.int .i64 (v : Int), .int .i64 2]) (by simp [results, Tryz.results112, go_sem]) rfl ⟨by rw [← HQ.out]; rfl, HB.out⟩
set_option maxHeartbeats 2000000 in
theorem runeAt_3 (s : ByteArray) (a c : Nat) (w : World) (ha : a < s.size) (hs : s.size ≤ 140737488355328) (hc : pk s a = c) (h1 : 224 ≤ c) (h2 : c < 240) :
    Calls Tryz.prog 112 #[.string s, .int .i64 (a : Int)] w fun x w' => RunPost w (runR s a) x w' := by
  have hN : runN c = 3 := by unfold runN; rw [if_neg (by omega), if_pos (by omega)]
  have hV : runV c = c - 224 := by unfold runV; rw [if_neg (by omega), if_pos (by omega)]
  have hL : runL c = 2048 := by unfold runL; rw [if_neg (by omega), if_pos (by omega)]
  obtain ⟨R, hR⟩ : ∃ R, runR s a = R := ⟨_, rfl⟩
  rw [hR]
  unfold runR at hR
  rw [hc, hN, hV] at hR
  obtain ⟨low, hlow⟩ : ∃ low, runL c = low := ⟨_, rfl⟩
  rw [hlow] at hR hL
  have HLo := hid hL
  clear hlow
  have HR := hid hR
  have hg := pk_get ha
  rw [hc] at hg
  have ha' : (a : Int) < (s.size : Int) := by omega
  obtain ⟨v, hv⟩ : ∃ v, c = 224 + v := ⟨c - 224, by omega⟩
  subst hv
  have hv32 : v < 32 := by omega
  have hd0 : decide ((224 : Int) + (v : Int) < 192) = false := by simp; omega
  have he0 : decide ((192 : Int) ≤ (224 : Int) + (v : Int)) = true := by simp; omega
  have hd1 : decide ((224 : Int) + (v : Int) < 224) = false := by simp; omega
  have he1 : decide ((224 : Int) ≤ (224 : Int) + (v : Int)) = true := by simp; omega
  have hd2 : decide ((224 : Int) + (v : Int) < 240) = true := by simp; omega
  have he2 : decide ((240 : Int) ≤ (224 : Int) + (v : Int)) = false := by simp; omega
  have hd3 : decide ((224 : Int) + (v : Int) < 248) = true := by simp; omega
  have he3 : decide ((248 : Int) ≤ (224 : Int) + (v : Int)) = false := by simp; omega
  rw [Nat.add_sub_cancel_left] at HR
  clear hR hN hV hL hc
  by_cases hfit : s.size < a + 3
  · have HE := hid ((if_pos (.inr hfit)).symm.trans HR.out)
    go_enter Tryz.func112, Tryz.ntmps112
    go_wp2_with fail
    exact bodyPost_ret (v := .tuple #[.int .i64 0, .int .i64 0]) (by simp [results, Tryz.results112, go_sem]) rfl ⟨by rw [← HE.out]; rfl, Below.refl _ _⟩
  · have HE := hid ((if_neg (show ¬ (3 = 0 ∨ s.size < a + 3) by omega)).symm.trans HR.out)
    clear HR
    go_enter Tryz.func112, Tryz.ntmps112
    go_wp2_with fail
    go_loopw [8, 10] (fun y x wr => ∃ i v : Nat, y = .int .i64 (v : Int) ∧ x = .int .i64 (i : Int) ∧ 1 ≤ i ∧ i ≤ 3 ∧ v < 32 * 64 ^ (i - 1) ∧ runE low 3 (runF s a (3 - i) i v) = R ∧ Below w.heap.size w wr) (fun _ x _ => 3 - (intOf x).toNat)
    case atStart => exact ⟨1, v, by simp; omega, rfl, by omega, by omega, by simpa using hv32, HE.out, Below.refl _ _⟩
    case round =>
      clear hv32 hg h1 h2 HE
      obtain ⟨i, v, rfl, rfl, hi1, hin, hvb, hrun, hb⟩ := hrel
      have HB := hid hb
      clear hb
      by_cases hlt : i < 3
      · have hlt' : (i : Int) < 3 := by omega
        have hpl : a + i < s.size := by omega
        have hg := pk_get hpl
        have hk := pk_lt s (a + i)
        rw [show 3 - i = (3 - (i + 1)) + 1 by omega, runF] at hrun
        obtain ⟨d, hd⟩ : ∃ d, pk s (a + i) = d := ⟨_, rfl⟩
        rw [hd] at hg hk hrun
        have hvw : v < 131072 := by
          have : 32 * 64 ^ (i - 1) ≤ 32 * 64 ^ 2 := Nat.mul_le_mul_left _ (Nat.pow_le_pow_right (by omega) (by omega))
          omega
        have hbw : v * 64 + d - 128 < 32 * 64 ^ (i + 1 - 1) ∨ (d < 128 ∨ 192 ≤ d) := by
          have e : 64 ^ (i + 1 - 1) = 64 ^ (i - 1) * 64 := by rw [← Nat.pow_succ]; congr 1; omega
          rw [e, ← Nat.mul_assoc]
          omega
        clear hd
        have HX := hid (And.intro hrun hbw)
        clear hrun hbw hvb
        have hai : IntKind.i64.wrap ((a : Int) + (i : Int)) = ((a + i : Nat) : Int) := by rw [IntKind.wrap_i64]; omega
        by_cases hbad : d < 128 ∨ 192 ≤ d
        · have HQ := hid ((congrArg (runE low 3) (if_pos hbad)).symm.trans HX.out.1)
          rcases hbad with hb1 | hb1
          · have hb2 : (d : Int) < 128 := by omega
            go_wp2_with fail
            refine bodyPost_ret (v := .tuple #[.int .i64 0, .int .i64 0]) (by simp [results, Tryz.results112, go_sem]) rfl ⟨by rw [← HQ.out]; rfl, HB.out⟩
          · have hb2 : ¬ (d : Int) < 128 := by omega
            have hb3 : (192 : Int) ≤ (d : Int) := by omega
            go_wp2_with fail
            refine bodyPost_ret (v := .tuple #[.int .i64 0, .int .i64 0]) (by simp [results, Tryz.results112, go_sem]) rfl ⟨by rw [← HQ.out]; rfl, HB.out⟩
        · have HQ := hid (And.intro ((congrArg (runE low 3) (if_neg hbad)).symm.trans HX.out.1) (HX.out.2.resolve_right hbad))
          have hb2 : ¬ (d : Int) < 128 := by omega
          have hb3 : ¬ (192 : Int) ≤ (d : Int) := by omega
          clear HX
          go_wp2_with fail
          go_roundw
          case rel => exact ⟨i + 1, v * 64 + d - 128, by simp; omega, by go_num, by omega, by omega, HQ.out.2, HQ.out.1, HB.out⟩
          case measure => simp [intOf]; omega
      · obtain rfl : i = 3 := by omega
        rw [Nat.sub_self, runF] at hrun
        unfold runE at hrun
        simp only at hrun
        have hvw : v < 8388608 := by omega
        clear hvb
        have hl := HLo.out
        by_cases hbad : v < low ∨ 1114111 < v ∨ (55296 ≤ v ∧ v < 57344)
        · have HQ := hid ((if_pos hbad).symm.trans hrun)
          clear hrun
          go_wp2_with fail
          all_goals first | (exfalso; omega) | exact bodyPost_ret (v := .tuple #[.int .i64 0, .int .i64 0]) (by simp [results, Tryz.results112, go_sem]) rfl ⟨by rw [← HQ.out]; rfl, HB.out⟩
        · have HQ := hid ((if_neg hbad).symm.trans hrun)
          clear hrun
          go_wp2_with fail
          all_goals first | (exfalso; omega) | exact bodyPost_ret (v := .tuple #[.int .i64 (v : Int), .int .i64 3]) (by simp [results, Tryz.results112, go_sem]) rfl ⟨by rw [← HQ.out]; rfl, HB.out⟩
set_option maxHeartbeats 1000000 in
theorem runeAt_0 (s : ByteArray) (a c : Nat) (w : World) (ha : a < s.size) (hc : pk s a = c) (hno : c < 192 ∨ 248 ≤ c) :
    Calls Tryz.prog 112 #[.string s, .int .i64 (a : Int)] w fun x w' => RunPost w (runR s a) x w' := by
  have hN : runN c = 0 := by unfold runN; rw [if_neg (by omega), if_neg (by omega), if_neg (by omega)]
  have HE : Hid (runR s a = (0, 0)) := by unfold Hid runR; rw [hc, if_pos (.inl hN)]
  have hg := pk_get ha
  have hk := pk_lt s a
  rw [hc] at hg hk
  have ha' : (a : Int) < (s.size : Int) := by omega
  clear hN hc
  rcases hno with h | h
  · have h1 : ¬ (192 : Int) ≤ (c : Int) := by omega
    have h2 : ¬ (224 : Int) ≤ (c : Int) := by omega
    have h3 : ¬ (240 : Int) ≤ (c : Int) := by omega
    go_enter Tryz.func112, Tryz.ntmps112
    go_wp2_with fail
    exact bodyPost_ret (v := .tuple #[.int .i64 0, .int .i64 0]) (by simp [results, Tryz.results112, go_sem]) rfl ⟨by rw [HE.out]; rfl, Below.refl _ _⟩
  · have h1 : (192 : Int) ≤ (c : Int) := by omega
    have h2 : (224 : Int) ≤ (c : Int) := by omega
    have h3 : (240 : Int) ≤ (c : Int) := by omega
    have h4 : ¬ (c : Int) < 224 := by omega
    have h5 : ¬ (c : Int) < 240 := by omega
    have h6 : ¬ (c : Int) < 248 := by omega
    go_enter Tryz.func112, Tryz.ntmps112
    go_wp2_with fail
    exact bodyPost_ret (v := .tuple #[.int .i64 0, .int .i64 0]) (by simp [results, Tryz.results112, go_sem]) rfl ⟨by rw [HE.out]; rfl, Below.refl _ _⟩
end Go.Proofs.YtdmhemofhmfkoabGreatDoor
