import Derived.Test.YtehpdhhlggegdaaPack15
namespace Go.Proofs.Ytehpdhhlggegdaa
open Go.RowKit
set_option maxRecDepth 8000
theorem int_odd {U : Nat} (h : U % 2 = 1) : (U : Int) % 2 = 1 := by omega
theorem int_even {U : Nat} (h : ¬ U % 2 = 1) : (U : Int) % 2 = 0 := by omega
theorem un_odd {U : Nat} (h : U % 2 = 1) : unfoldI U = -1 - (U : Int) / 2 := by unfold unfoldI; rw [if_pos h]; omega
theorem un_even {U : Nat} (h : ¬ U % 2 = 1) : unfoldI U = (U : Int) / 2 := by unfold unfoldI; rw [if_neg h]; omega
theorem half1 {U : Nat} (h : U < 2 ^ 64) : wrap64 ((U : Int) / 2) = (U : Int) / 2 := by rw [wrap64]; omega
theorem half2 {U : Nat} (h : U < 2 ^ 64) : IntKind.i64.wrap ((U : Int) / 2) = (U : Int) / 2 := by rw [IntKind.wrap_i64]; omega
/-- what the reference's groups comes to -/
def RGPost (w : World) (a : Nat) (r : Option (Nat × Nat)) (x : Ending) (w' : World) : Prop :=
  w' = w ∧ (∀ u a', r = some (u, a') → x = .returned (.tuple #[.int .i64 (unfoldI u), .int .i64 ((a' : Int) - (a : Int)), .int .i64 0])) ∧ (r = none → x = .returned (.tuple #[.int .i64 0, .int .i64 0, .int .i64 28]))
set_option maxHeartbeats 2000000 in
theorem refGroups_any (p : Option Addr) (n c a : Nat) (w : World) (S : Nat → Prop) (f : Nat → Int) (hB : Byts w S p n c f) (ha : a ≤ n) :
    Calls Try.prog 79 #[.slice p n c, .int .i64 (a : Int)] w fun x w' => RGPost w a (grpS f n 10 a 0 0) x w' := by
  have HY := hid hB
  have hnn := hB.nn
  generalize hR : grpS f n 10 a 0 0 = R
  clear hB
  go_enter Try.func79, Try.ntmps79
  go_wp2_with fail
  go_loopw [7, 8] (fun y x wr => ∃ (i u : Nat), i ≤ 9 ∧ y = .int .u64 (u : Int) ∧ x = .int .i64 (i : Int) ∧ u < 2 ^ 64 ∧ a + i ≤ n ∧ grpS f n (10 - i) (a + i) i u = R ∧ wr = w) (fun _ x _ => 100 - (intOf x).toNat)
  case atStart => exact ⟨0, 0, by omega, rfl, rfl, by decide, ha, hR, rfl⟩
  case round =>
    obtain ⟨i, u, hi, rfl, rfl, hu, hai, hg, hwr⟩ := hrel
    subst wr
    have HG := hid hg
    clear hg
    have HE : Hid (10 - i = (9 - i) + 1) := by unfold Hid; omega
    by_cases h : a + i < n
    · have h' : (a : Int) + (i : Int) < (n : Int) := by omega
      obtain ⟨hf1, hf2⟩ := HY.out.fit (a + i) h
      obtain ⟨C, hC⟩ := Int.eq_ofNat_of_zero_le hf1
      obtain ⟨b, o, hp, hSb, hbl, hat⟩ := HY.out.at_ (by omega)
      have hc := hat (a + i) h
      rw [hC] at hc
      subst hp
      have hg2 := HG.out
      rw [HE.out, grpS, if_neg (by omega), hC] at hg2
      simp only [Int.toNat_natCast] at hg2
      have HG2 := hid hg2
      clear hg2
      have hC2 : C < 256 := by omega
      by_cases hbad : (0 < i ∧ C = 0) ∨ (i = 9 ∧ 1 < C)
      · have hr : R = none := by have h2 := HG2.out; rw [if_pos hbad] at h2; exact h2.symm
        have HRn := hid hr
        clear hr
        rcases (by omega : (0 < i ∧ C = 0) ∨ (i = 9 ∧ 1 < C)) with ⟨h1, rfl⟩ | ⟨rfl, h1⟩
        · have h1' : (0 : Int) < (i : Int) := by omega
          go_wp2
          refine bodyPost_ret (v := .tuple #[.int .i64 0, .int .i64 0, .int .i64 28]) (by simp [results, Try.results79, go_sem]) rfl ?_
          exact ⟨rfl, fun u2 a3 h2 => (by rw [HRn.out] at h2; cases h2), fun _ => rfl⟩
        · have h1' : (1 : Int) < (C : Int) := by omega
          have h2' : ¬ (C : Int) = 0 := by omega
          go_wp2
          refine bodyPost_ret (v := .tuple #[.int .i64 0, .int .i64 0, .int .i64 28]) (by simp [results, Try.results79, go_sem]) rfl ?_
          exact ⟨rfl, fun u2 a3 h2 => (by rw [HRn.out] at h2; cases h2), fun _ => rfl⟩
      · have hg3 := HG2.out
        rw [if_neg hbad] at hg3
        have HG3 := hid hg3
        have hfit := grp_fits (c := C) hi (fun h9 => by omega)
        obtain ⟨V, hV⟩ : ∃ V, V = C % 128 * 2 ^ (7 * i) := ⟨_, rfl⟩
        rw [← hV] at hfit
        have hor := bits_or_u64_nat u V (by omega) (by omega)
        have HV := hid hV
        clear hg3 hV
        have hlor := Nat.or_lt_two_pow hu hfit
        have hfit2 := hid hfit
        have HRs : C < 128 → R = some (u ||| V, a + i + 1) := fun h2 => by have h3 := HG3.out; rw [if_pos h2, ← HV.out] at h3; exact h3.symm
        have HRr : ¬ C < 128 → grpS f n (10 - (i + 1)) (a + (i + 1)) (i + 1) (u ||| V) = R := fun h2 => by have h3 := HG3.out; rw [if_neg h2, ← HV.out] at h3; rw [show 10 - (i + 1) = 9 - i by omega]; exact h3
        have HRs := hid HRs
        have HRr := hid HRr
        obtain ⟨U, hU⟩ : ∃ U, U = u ||| V := ⟨_, rfl⟩
        rw [← hU] at hor HRs HRr hlor
        have HU := hid hU
        clear HG HG2 HG3 hat hR hU
        by_cases hi0 : i = 0
        · subst hi0
          have e0 : (C : Int) % 128 = (V : Int) := by have := HV.out; omega
          simp only [Nat.add_zero] at hc
          by_cases hlt : C < 128
          · have hlt' : (C : Int) < 128 := by omega
            by_cases hodd : U % 2 = 1
            · have ho1 : (U : Int) % 2 = 1 := int_odd hodd
              have hun : unfoldI U = -1 - (U : Int) / 2 := un_odd hodd
              have HRs := hid (HRs.out hlt)
              have HUn := hid hun
              have HLo := hid hlor
              clear HRr hfit hun HV hbad hf1 hf2 hC hodd hfit2
              go_wp2
              refine bodyPost_ret (v := .tuple #[.int .i64 (-1 - (U : Int) / 2), .int .i64 (1), .int .i64 0]) (by simp [results, Try.results79, go_sem]) rfl ?_
              refine ⟨rfl, fun u2 a3 h2 => ?_, fun h2 => ?_⟩
              · first | (rw [HRs.out] at h2) | skip
                cases h2
                first | rw [← HU.out, HUn.out] | rw [HUn.out]
                refine congrArg (fun z => Ending.returned (.tuple #[.int .i64 (-1 - (U : Int) / 2), .int .i64 z, .int .i64 0])) ?_
                omega
              · first | (rw [HRs.out] at h2) | skip
                cases h2
            · have ho1 : (U : Int) % 2 = 0 := int_even hodd
              have hun : unfoldI U = (U : Int) / 2 := un_even hodd
              have HRs := hid (HRs.out hlt)
              have HUn := hid hun
              have HLo := hid hlor
              clear HRr hfit hun HV hbad hf1 hf2 hC hodd hfit2
              go_wp2
              refine bodyPost_ret (v := .tuple #[.int .i64 ((U : Int) / 2), .int .i64 (1), .int .i64 0]) (by simp [results, Try.results79, go_sem]) rfl ?_
              refine ⟨rfl, fun u2 a3 h2 => ?_, fun h2 => ?_⟩
              · first | (rw [HRs.out] at h2) | skip
                cases h2
                first | rw [← HU.out, HUn.out] | rw [HUn.out]
                refine congrArg (fun z => Ending.returned (.tuple #[.int .i64 ((U : Int) / 2), .int .i64 z, .int .i64 0])) ?_
                omega
              · first | (rw [HRs.out] at h2) | skip
                cases h2
          · have hlt' : ¬ (C : Int) < 128 := by omega
            have HRr := hid (HRr.out hlt)
            have HLo := hid hlor
            clear HRs hfit HV hbad hf1 hf2 hC hlor hfit2
            go_wp2
            go_roundw
            case rel => exact ⟨0 + 1, U, by omega, by go_num, by go_num, HLo.out, by omega, HRr.out, by first | trivial | rfl⟩
            case measure => simp [intOf]
        · have h1' : (0 : Int) < (i : Int) := by omega
          have h2' : ¬ (C : Int) = 0 := by omega
          have h2b : ((C : Int) == 0) = false := by simpa using h2'
          by_cases hi9 : i = 9
          · subst hi9
            have h3' : ¬ (1 : Int) < (C : Int) := by omega
            have e0 : (C : Int) % 128 * 9223372036854775808 = (V : Int) := by
              have := HV.out
              rw [this]
              omega
            by_cases hlt : C < 128
            · have hlt' : (C : Int) < 128 := by omega
              by_cases hodd : U % 2 = 1
              · have ho1 : (U : Int) % 2 = 1 := int_odd hodd
                have hun : unfoldI U = -1 - (U : Int) / 2 := un_odd hodd
                have HRs := hid (HRs.out hlt)
                have HUn := hid hun
                have HLo := hid hlor
                clear HRr hfit hun HV hbad hf1 hf2 hC hodd hfit2
                go_wp2
                refine bodyPost_ret (v := .tuple #[.int .i64 (-1 - (U : Int) / 2), .int .i64 (10), .int .i64 0]) (by simp [results, Try.results79, go_sem]) rfl ?_
                refine ⟨rfl, fun u2 a3 h2 => ?_, fun h2 => ?_⟩
                · first | (rw [HRs.out] at h2) | skip
                  cases h2
                  first | rw [← HU.out, HUn.out] | rw [HUn.out]
                  refine congrArg (fun z => Ending.returned (.tuple #[.int .i64 (-1 - (U : Int) / 2), .int .i64 z, .int .i64 0])) ?_
                  omega
                · first | (rw [HRs.out] at h2) | skip
                  cases h2
              · have ho1 : (U : Int) % 2 = 0 := int_even hodd
                have hun : unfoldI U = (U : Int) / 2 := un_even hodd
                have HRs := hid (HRs.out hlt)
                have HUn := hid hun
                have HLo := hid hlor
                clear HRr hfit hun HV hbad hf1 hf2 hC hodd hfit2
                go_wp2
                refine bodyPost_ret (v := .tuple #[.int .i64 ((U : Int) / 2), .int .i64 (10), .int .i64 0]) (by simp [results, Try.results79, go_sem]) rfl ?_
                refine ⟨rfl, fun u2 a3 h2 => ?_, fun h2 => ?_⟩
                · first | (rw [HRs.out] at h2) | skip
                  cases h2
                  first | rw [← HU.out, HUn.out] | rw [HUn.out]
                  refine congrArg (fun z => Ending.returned (.tuple #[.int .i64 ((U : Int) / 2), .int .i64 z, .int .i64 0])) ?_
                  omega
                · first | (rw [HRs.out] at h2) | skip
                  cases h2
            · exact absurd hlt (by omega)
          · have h3' : ¬ (i : Int) = 9 := by omega
            have e0 : IntKind.u64.wrap ((C : Int) % 128 * 2 ^ (7 * i)) = (V : Int) := by
              have h2 : (C : Int) % 128 * 2 ^ (7 * i) = (V : Int) := by rw [HV.out]; simp
              rw [h2, wrap_u64]; omega
            by_cases hlt : C < 128
            · have hlt' : (C : Int) < 128 := by omega
              by_cases hodd : U % 2 = 1
              · have ho1 : (U : Int) % 2 = 1 := int_odd hodd
                have hun : unfoldI U = -1 - (U : Int) / 2 := un_odd hodd
                have HRs := hid (HRs.out hlt)
                have HUn := hid hun
                have HLo := hid hlor
                clear HRr hfit hun HV hbad hf1 hf2 hC hodd hfit2
                go_wp2
                refine bodyPost_ret (v := .tuple #[.int .i64 (-1 - (U : Int) / 2), .int .i64 ((i : Int) + 1), .int .i64 0]) (by simp [results, Try.results79, go_sem]) rfl ?_
                refine ⟨rfl, fun u2 a3 h2 => ?_, fun h2 => ?_⟩
                · first | (rw [HRs.out] at h2) | skip
                  cases h2
                  first | rw [← HU.out, HUn.out] | rw [HUn.out]
                  refine congrArg (fun z => Ending.returned (.tuple #[.int .i64 (-1 - (U : Int) / 2), .int .i64 z, .int .i64 0])) ?_
                  omega
                · first | (rw [HRs.out] at h2) | skip
                  cases h2
              · have ho1 : (U : Int) % 2 = 0 := int_even hodd
                have hun : unfoldI U = (U : Int) / 2 := un_even hodd
                have HRs := hid (HRs.out hlt)
                have HUn := hid hun
                have HLo := hid hlor
                clear HRr hfit hun HV hbad hf1 hf2 hC hodd hfit2
                go_wp2
                refine bodyPost_ret (v := .tuple #[.int .i64 ((U : Int) / 2), .int .i64 ((i : Int) + 1), .int .i64 0]) (by simp [results, Try.results79, go_sem]) rfl ?_
                refine ⟨rfl, fun u2 a3 h2 => ?_, fun h2 => ?_⟩
                · first | (rw [HRs.out] at h2) | skip
                  cases h2
                  first | rw [← HU.out, HUn.out] | rw [HUn.out]
                  refine congrArg (fun z => Ending.returned (.tuple #[.int .i64 ((U : Int) / 2), .int .i64 z, .int .i64 0])) ?_
                  omega
                · first | (rw [HRs.out] at h2) | skip
                  cases h2
            · have hlt' : ¬ (C : Int) < 128 := by omega
              have HRr := hid (HRr.out hlt)
              have HLo := hid hlor
              clear HRs hfit HV hbad hf1 hf2 hC hlor hfit2
              go_wp2
              go_roundw
              case rel => exact ⟨i + 1, U, by omega, by go_num, by go_num, HLo.out, by omega, HRr.out, by first | trivial | rfl⟩
              case measure => simp [intOf]; omega
    · have h' : ¬ (a : Int) + (i : Int) < (n : Int) := by omega
      have hr : R = none := by have h2 := HG.out; rw [HE.out, grpS, if_pos (by omega)] at h2; exact h2.symm
      have HRn := hid hr
      clear hr
      go_wp2
      refine bodyPost_ret (v := .tuple #[.int .i64 0, .int .i64 0, .int .i64 28]) (by simp [results, Try.results79, go_sem]) rfl ?_
      exact ⟨rfl, fun u2 a3 h2 => (by rw [HRn.out] at h2; cases h2), fun _ => rfl⟩
end Go.Proofs.Ytehpdhhlggegdaa
