import Derived.Test.YtehmifdgfgngdabDoorJoinWalk
namespace Go.Proofs.YtehmifdgfgngdabDoor
open Go.RowKit

theorem logOf_len_le (zss : List (List Int)) (hm : ∀ z ∈ zss, z.length ≤ 32768) : (logOf zss).length ≤ 32776 * zss.length := by
  induction zss with
  | nil => simp [logOf]
  | cons z r ih =>
    have e : logOf (z :: r) = frameOf z ++ logOf r := rfl
    have h1 := hm z (by simp)
    have h2 := ih (fun z hz => hm z (by simp [hz]))
    rw [e, List.length_append, frameOf_length, List.length_cons]; omega

theorem OwnL.shape {base : Nat} {w : World} {q : Option Addr} {n c : Nat} {vs : List (Option Addr × Nat)} {zss : List (List Int)} (h : OwnL base w (.slice q n c) vs zss) : (q = none ∧ n = 0 ∧ c = 0) ∨ (∃ g, q = some ⟨g, 0, none⟩ ∧ n ≤ c) := by
  obtain ⟨_, ⟨hv, _⟩ | ⟨g, cap, cur, hv, _, _, hn, _⟩⟩ := h.own
  · simp only [Value.slice.injEq] at hv
    exact .inl hv
  · simp only [Value.slice.injEq] at hv
    obtain ⟨rfl, rfl, rfl⟩ := hv
    exact .inr ⟨g, rfl, hn⟩

set_option maxHeartbeats 2000000 in
theorem join_none (pa pb : Option Addr) (ca nb cb : Nat) (zss : List (List Int)) (zb : List Int) (w : World) (hl : nb ≤ 131072) (hnb : Hid (zb.length = nb)) (hlog : (logOf zss).length ≤ 2130440) (R : Hid (Ready pa 0 ca pb nb cb zss zb w)) :
    Calls Tryd.prog 8 #[.slice pa 0 ca, .slice pb nb cb] w fun e w' => e = .returned (.bool true) ∧ Below w.heap.size w w' := by
  go_enter Tryd.func8, Tryd.ntmps8
  go_wp2_with fail
  refine wp_loop_rounds 1 ?_
  rw [rounds_succ]
  go_wp2_with fail
  refine R.out.unw.mono ?_
  rintro e w1 ⟨rfl, hb1⟩
  go_wp2_with fail
  refine (R.out.log w1 hb1).mono ?_
  rintro e w2 ⟨a2, c2, rfl, hO2, hb2⟩
  have hb2w := hb1.trans (hb2.mono hb1.size)
  have hc2 := hO2.cap.1
  have HN2 : Hid (a2 = none → (logOf zss).length = 0 ∧ c2 = 0) := fun h => ⟨by rw [(hO2.nil h).1]; rfl, (hO2.nil h).2⟩
  have HB2 : Hid (Bytes w2 a2 (logOf zss)) := hO2.bytes
  clear hO2
  go_wp2_with fail
  refine (R.out.one w2 a2 c2 hb2w hc2 HB2.out).mono ?_
  rintro e w3 ⟨q3, c3, vs3, rfl, hL3, hb3⟩
  have hb3w := hb2w.trans (hb3.mono hb2w.size)
  have HL3 : Hid (OwnL w2.heap.size w3 (.slice q3 0 c3) vs3 zss) := hL3
  have HB3 : Hid (Bytes w3 a2 (logOf zss)) := HB2.out.later hb3
  clear hL3 HB2
  go_wp2_with (go_at_call 11; refine (num_any _ _).mono ?_; rintro e wn ⟨rfl, rfl⟩)
  refine (R.out.like _ q3 c3 vs3 _ hb3w HL3.out).mono ?_
  rintro e w4 ⟨rfl, hb4⟩
  have hb4w := hb3w.trans (hb4.mono hb3w.size)
  have HL4 : Hid (OwnL w2.heap.size w4 (.slice q3 0 c3) vs3 zss) := HL3.out.below hb4
  have HB4 : Hid (Bytes w4 a2 (logOf zss)) := HB3.out.later hb4
  clear HL3 HB3
  go_wp2_with fail
  refine (R.out.two w4 hb4w).mono ?_
  rintro e w5 ⟨q5, c5, vs5, rfl, hL5, hb5⟩
  have hb5w := hb4w.trans (hb5.mono hb4w.size)
  have HL5 : Hid (OwnL w4.heap.size w5 (.slice q5 (scanL zb).length c5) vs5 (scanL zb)) := hL5
  have HL5a : Hid (OwnL w2.heap.size w5 (.slice q3 0 c3) vs3 zss) := HL4.out.below hb5
  have HB5 : Hid (Bytes w5 a2 (logOf zss)) := HB4.out.later hb5
  clear hL5 HL4 HB4
  go_wp2_with fail
  refine (R.out.join w5 a2 c2 hb5w HN2.out HB5.out).mono ?_
  rintro e w6 ⟨p6, c6, rfl, hO6, hb6⟩
  have hb6w := hb5w.trans (hb6.mono hb5w.size)
  have hc6 : (logOf zss).length + nb ≤ c6 := by have := hO6.cap.1; rw [List.length_append, hnb.out] at this; exact this
  have HB6 : Hid (Bytes w6 p6 (logOf zss ++ zb)) := hO6.bytes
  have HL6 : Hid (OwnL w4.heap.size w6 (.slice q5 (scanL zb).length c5) vs5 (scanL zb)) := HL5.out.below hb6
  have HL6a : Hid (OwnL w2.heap.size w6 (.slice q3 0 c3) vs3 zss) := HL5a.out.below hb6
  clear hO6 HL5 HL5a HB5 HN2
  go_wp2_with fail
  refine (R.out.all w6 p6 c6 hb6w hc6 HB6.out).mono ?_
  rintro e w7 ⟨q7, c7, vs7, rfl, hL7, hb7⟩
  have hb7w := hb6w.trans (hb7.mono hb6w.size)
  have hsh := hL7.shape
  have HL7 : Hid (OwnL w6.heap.size w7 (.slice q7 (0 + (scanL zb).length) c7) vs7 (zss ++ scanL zb)) := hL7
  have HL7b : Hid (OwnL w4.heap.size w7 (.slice q5 (scanL zb).length c5) vs5 (scanL zb)) := HL6.out.below hb7
  have HL7a : Hid (OwnL w2.heap.size w7 (.slice q3 0 c3) vs3 zss) := HL6a.out.below hb7
  clear hL7 HL6 HL6a HB6 hb1 hb2 hb3 hb4 hb5 hb6 hb7
  have HH : Hid (Calls Tryd.prog 14 #[.slice q7 0 c7, .slice q3 0 c3] w7 fun e w' => e = .returned (.bool true) ∧ Below w7.heap.size w7 w') := R.out.heads w7 q7 c7 vs7 _ q3 c3 vs3 _ HL7.out HL7a.out
  have HTl : Hid (∀ W g cc, q7 = some ⟨g, 0, none⟩ → Below w7.heap.size w7 W → Calls Tryd.prog 14 #[.slice (some ⟨g, 0, none⟩) (scanL zb).length cc, .slice q5 (scanL zb).length c5] W fun e w' => e = .returned (.bool true) ∧ Below W.heap.size W w') := by
    intro W g cc hq hW
    have h7 := HL7.out.below hW
    rw [hq] at h7
    exact R.out.tails W g c7 cc vs7 _ q5 c5 vs5 _ h7 (HL7b.out.below hW)
  have hkl : (scanL zb).length ≤ 131072 := by have := scanL_len zb; have := hnb.out; omega
  have hpl : scanP zb ≤ 131072 := by have := scanP_le zb; have := hnb.out; omega
  clear HL7 HL7a HL7b
  generalize (scanL zb).length = K at *
  generalize scanP zb = P at *
  generalize scanE zb = E at *
  generalize (logOf zss).length = L at *
  rcases hsh with ⟨rfl, hz0, rfl⟩ | ⟨g, rfl, hcap⟩
  · obtain rfl : K = 0 := by omega
    go_wp2_with (first | (go_at_call 11; refine (num_any _ _).mono ?_; rintro e wn ⟨rfl, rfl⟩) | (go_at_call_of 14 (Value.slice q3 0 c3); refine HH.out.mono ?_; rintro e w8 ⟨rfl, hb8⟩) | (go_at_call 14; refine (alike_none _ _ _ _ _).mono ?_; rintro e w9 ⟨rfl, hb9⟩))
    all_goals go_ret
    all_goals exact ⟨rfl, (hb7w.trans (hb8.mono hb7w.size)).trans (hb9.mono (Nat.le_trans hb7w.size hb8.size))⟩
  · have q1 : (0 : Int) ≤ (c7 : Int) := by omega
    have q2 : (0 : Int) ≤ (0 : Int) + (K : Int) := by omega
    by_cases hK : K = 0
    · subst hK
      go_wp2_with (first | (go_at_call 11; refine (num_any _ _).mono ?_; rintro e wn ⟨rfl, rfl⟩) | (go_at_call_of 14 (Value.slice q3 0 c3); refine HH.out.mono ?_; rintro e w8 ⟨rfl, hb8⟩) | (go_at_call 14; refine (alike_none _ _ _ _ _).mono ?_; rintro e w9 ⟨rfl, hb9⟩))
      all_goals go_ret
      all_goals exact ⟨rfl, (hb7w.trans (hb8.mono hb7w.size)).trans (hb9.mono (Nat.le_trans hb7w.size hb8.size))⟩
    · have q3' : (c7 = 0) = False := by simp; omega
      go_wp2_with (first | (go_at_call 11; refine (num_any _ _).mono ?_; rintro e wn ⟨rfl, rfl⟩) | (go_at_call_of 14 (Value.slice q3 0 c3); refine HH.out.mono ?_; rintro e w8 ⟨rfl, hb8⟩) | (go_at_call 14; refine (HTl.out _ g _ rfl hb8).mono ?_; rintro e w9 ⟨rfl, hb9⟩))
      go_ret
      exact ⟨rfl, (hb7w.trans (hb8.mono hb7w.size)).trans (hb9.mono (Nat.le_trans hb7w.size hb8.size))⟩

set_option maxHeartbeats 2000000 in
theorem join_core (b o n ca nb cb : Nat) (pb : Option Addr) (va : Nat → Option Addr × Nat) (zss : List (List Int)) (zb : List Int) (w : World) (hn : zss.length = n) (hL : LBytes w (some ⟨b, o, none⟩) va zss) (hp : 0 < n) (hnm : n ≤ 140737488355328) (hl : nb ≤ 131072) (hnb : Hid (zb.length = nb))
    (HR : Hid (n ≤ 65 → (∀ i, i < n → (zss.getD i []).length ≤ 32768) → Ready (some ⟨b, o, none⟩) n ca pb nb cb zss zb w ∧ (logOf zss).length ≤ 2130440)) :
    Calls Tryd.prog 8 #[.slice (some ⟨b, o, none⟩) n ca, .slice pb nb cb] w fun e w' => e = .returned (.bool true) ∧ Below w.heap.size w w' := by
  obtain ⟨_, _, hbo, hlb, hcell⟩ := hL.at_ (by omega)
  cases hbo
  have HZ : Hid (∀ i, i < n → (zss.getD i []).length ≤ 140737488355328) := fun i hi => (hL.each i (by omega)).2.2.2
  clear hL
  go_enter Tryd.func8, Tryd.ntmps8
  go_wp2_with fail
  go_loop [5] (fun ii => ∃ k : Nat, k ≤ n ∧ k ≤ 65 ∧ ii = .int .i64 (k : Int) ∧ Hid (∀ i, i < k → (zss.getD i []).length ≤ 32768)) (fun ii => n - (intOf ii).toNat)
  case atStart => exact ⟨0, Nat.zero_le _, by omega, rfl, fun i h => absurd h (by omega)⟩
  case round =>
    obtain ⟨k, hk, hk65, rfl, HS⟩ := hrel
    by_cases hlt : k < n
    · have ck := hcell k (by omega)
      have hzl := HZ.out k hlt
      have hlt' : (k : Int) < (n : Int) := by omega
      obtain ⟨zk, hzk⟩ : ∃ zk, zk = zss.getD k [] := ⟨_, rfl⟩
      rw [← hzk] at ck hzl
      clear hcell
      generalize (va k).1 = pk at *
      generalize (va k).2 = qk at *
      by_cases h1 : 32768 < zk.length
      · clear hzk
        have h1' : (32768 : Int) < (zk.length : Int) := by omega
        go_wp2_with fail
        go_ret
        exact ⟨rfl, Below.refl _ _⟩
      · by_cases h2 : 64 < k
        · clear hzk
          have h2' : (64 : Int) < (k : Int) := by omega
          go_wp2_with fail
          go_ret
          exact ⟨rfl, Below.refl _ _⟩
        · have HS2 : Hid (∀ i, i < k + 1 → (zss.getD i []).length ≤ 32768) := by
            intro i hi
            rcases Nat.lt_or_ge i k with h | h
            · exact HS.out i h
            · rw [show i = k by omega, ← hzk]; omega
          clear hzk
          go_wp2_with fail
          go_round
          case rel => exact ⟨k + 1, by omega, by omega, by go_num, HS2⟩
          case measure => simp [intOf]; omega
    · obtain rfl : n = k := by omega
      have hRR := HR.out hk65 HS.out
      have R : Hid (Ready (some ⟨b, o, none⟩) n ca pb nb cb zss zb w) := hRR.1
      have hlog := hRR.2
      clear hRR HR HZ hcell HS
      go_wp2_with fail
      refine R.out.unw.mono ?_
      rintro e w1 ⟨rfl, hb1⟩
      go_wp2_with fail
      refine (R.out.log w1 hb1).mono ?_
      rintro e w2 ⟨a2, c2, rfl, hO2, hb2⟩
      have hb2w := hb1.trans (hb2.mono hb1.size)
      have hc2 := hO2.cap.1
      have HN2 : Hid (a2 = none → (logOf zss).length = 0 ∧ c2 = 0) := fun h => ⟨by rw [(hO2.nil h).1]; rfl, (hO2.nil h).2⟩
      have HB2 : Hid (Bytes w2 a2 (logOf zss)) := hO2.bytes
      clear hO2
      go_wp2_with fail
      refine (R.out.one w2 a2 c2 hb2w hc2 HB2.out).mono ?_
      rintro e w3 ⟨q3, c3, vs3, rfl, hL3, hb3⟩
      have hb3w := hb2w.trans (hb3.mono hb2w.size)
      have HL3 : Hid (OwnL w2.heap.size w3 (.slice q3 n c3) vs3 zss) := hL3
      have HB3 : Hid (Bytes w3 a2 (logOf zss)) := HB2.out.later hb3
      clear hL3 HB2
      go_wp2_with (go_at_call 11; refine (num_any _ _).mono ?_; rintro e wn ⟨rfl, rfl⟩)
      refine (R.out.like _ q3 c3 vs3 _ hb3w HL3.out).mono ?_
      rintro e w4 ⟨rfl, hb4⟩
      have hb4w := hb3w.trans (hb4.mono hb3w.size)
      have HL4 : Hid (OwnL w2.heap.size w4 (.slice q3 n c3) vs3 zss) := HL3.out.below hb4
      have HB4 : Hid (Bytes w4 a2 (logOf zss)) := HB3.out.later hb4
      clear HL3 HB3
      go_wp2_with fail
      refine (R.out.two w4 hb4w).mono ?_
      rintro e w5 ⟨q5, c5, vs5, rfl, hL5, hb5⟩
      have hb5w := hb4w.trans (hb5.mono hb4w.size)
      have HL5 : Hid (OwnL w4.heap.size w5 (.slice q5 (scanL zb).length c5) vs5 (scanL zb)) := hL5
      have HL5a : Hid (OwnL w2.heap.size w5 (.slice q3 n c3) vs3 zss) := HL4.out.below hb5
      have HB5 : Hid (Bytes w5 a2 (logOf zss)) := HB4.out.later hb5
      clear hL5 HL4 HB4
      go_wp2_with fail
      refine (R.out.join w5 a2 c2 hb5w HN2.out HB5.out).mono ?_
      rintro e w6 ⟨p6, c6, rfl, hO6, hb6⟩
      have hb6w := hb5w.trans (hb6.mono hb5w.size)
      have hc6 : (logOf zss).length + nb ≤ c6 := by have := hO6.cap.1; rw [List.length_append, hnb.out] at this; exact this
      have HB6 : Hid (Bytes w6 p6 (logOf zss ++ zb)) := hO6.bytes
      have HL6 : Hid (OwnL w4.heap.size w6 (.slice q5 (scanL zb).length c5) vs5 (scanL zb)) := HL5.out.below hb6
      have HL6a : Hid (OwnL w2.heap.size w6 (.slice q3 n c3) vs3 zss) := HL5a.out.below hb6
      clear hO6 HL5 HL5a HB5 HN2
      go_wp2_with fail
      refine (R.out.all w6 p6 c6 hb6w hc6 HB6.out).mono ?_
      rintro e w7 ⟨q7, c7, vs7, rfl, hL7, hb7⟩
      have hb7w := hb6w.trans (hb7.mono hb6w.size)
      have hsh := hL7.shape
      have HL7 : Hid (OwnL w6.heap.size w7 (.slice q7 (n + (scanL zb).length) c7) vs7 (zss ++ scanL zb)) := hL7
      have HL7b : Hid (OwnL w4.heap.size w7 (.slice q5 (scanL zb).length c5) vs5 (scanL zb)) := HL6.out.below hb7
      have HL7a : Hid (OwnL w2.heap.size w7 (.slice q3 n c3) vs3 zss) := HL6a.out.below hb7
      clear hL7 HL6 HL6a HB6 hb1 hb2 hb3 hb4 hb5 hb6 hb7
      have HH : Hid (Calls Tryd.prog 14 #[.slice q7 n c7, .slice q3 n c3] w7 fun e w' => e = .returned (.bool true) ∧ Below w7.heap.size w7 w') := R.out.heads w7 q7 c7 vs7 _ q3 c3 vs3 _ HL7.out HL7a.out
      have HTl : Hid (∀ W g cc, q7 = some ⟨g, 0, none⟩ → Below w7.heap.size w7 W → Calls Tryd.prog 14 #[.slice (some ⟨g, n, none⟩) (scanL zb).length cc, .slice q5 (scanL zb).length c5] W fun e w' => e = .returned (.bool true) ∧ Below W.heap.size W w') := by
        intro W g cc hq hW
        have h7 := HL7.out.below hW
        rw [hq] at h7
        exact R.out.tails W g c7 cc vs7 _ q5 c5 vs5 _ h7 (HL7b.out.below hW)
      have hkl : (scanL zb).length ≤ 131072 := by have := scanL_len zb; have := hnb.out; omega
      have hpl : scanP zb ≤ 131072 := by have := scanP_le zb; have := hnb.out; omega
      clear HL7 HL7a HL7b
      generalize (scanL zb).length = K at *
      generalize scanP zb = P at *
      generalize scanE zb = E at *
      generalize (logOf zss).length = L at *
      rcases hsh with ⟨rfl, hz0, rfl⟩ | ⟨g, rfl, hcap⟩
      · omega
      · have q1 : (n : Int) ≤ (c7 : Int) := by omega
        have q2 : (n : Int) ≤ (n : Int) + (K : Int) := by omega
        by_cases hK : K = 0
        · subst hK
          go_wp2_with (first | (go_at_call 11; refine (num_any _ _).mono ?_; rintro e wn ⟨rfl, rfl⟩) | (go_at_call_of 14 (Value.slice q3 n c3); refine HH.out.mono ?_; rintro e w8 ⟨rfl, hb8⟩) | (go_at_call 14; refine (alike_none _ _ _ _ _).mono ?_; rintro e w9 ⟨rfl, hb9⟩))
          all_goals go_ret
          all_goals exact ⟨rfl, (hb7w.trans (hb8.mono hb7w.size)).trans (hb9.mono (Nat.le_trans hb7w.size hb8.size))⟩
        · have q3' : (c7 = n) = False := by simp; omega
          go_wp2_with (first | (go_at_call 11; refine (num_any _ _).mono ?_; rintro e wn ⟨rfl, rfl⟩) | (go_at_call_of 14 (Value.slice q3 n c3); refine HH.out.mono ?_; rintro e w8 ⟨rfl, hb8⟩) | (go_at_call 14; refine (HTl.out _ g _ rfl hb8).mono ?_; rintro e w9 ⟨rfl, hb9⟩))
          go_ret
          exact ⟨rfl, (hb7w.trans (hb8.mono hb7w.size)).trans (hb9.mono (Nat.le_trans hb7w.size hb8.size))⟩
end Go.Proofs.YtehmifdgfgngdabDoor
