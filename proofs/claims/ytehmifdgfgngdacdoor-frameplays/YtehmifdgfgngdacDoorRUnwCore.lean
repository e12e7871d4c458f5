import Derived.Test.YtehmifdgfgngdacDoorRUnw
namespace Go.Proofs.YtehmifdgfgngdacDoor
open Go.RowKit
set_option maxRecDepth 8000

/-- the two numbers of a right head -/
theorem head_nums {zs : List Int} {m : Nat} (hb : ∀ z ∈ zs, 0 ≤ z ∧ z < 256) (h4 : 4 ≤ zs.length) (_hm : m ≤ 65535) (hh : zs.take 4 = hd m) : zs.getD 0 0 + 256 * zs.getD 1 0 = (m : Int) ∧ zs.getD 2 0 + 256 * zs.getD 3 0 = 65535 - (m : Int) := by
  have b0 := byte_at hb 0
  have b1 := byte_at hb 1
  rw [take4 zs h4] at hh
  simp only [hd, List.cons.injEq, and_true] at hh
  omega

set_option maxHeartbeats 1000000 in
theorem runw_cut (p : Option Addr) (n c m : Nat) (zs : List Int) (w : World) (hn : zs.length = n) (hB : Bytes w p zs) (h4 : 4 ≤ n) (hl : n < m + 8) (hm : m ≤ 32768) (hh : zs.take 4 = hd m) :
    Calls Tryd.prog 25 #[.slice p n c] w fun e w' => e = .returned (.tuple #[.slice none 0 0, .int .i64 0, .int .i64 11]) ∧ Below w.heap.size w w' := by
  have hnum := head_nums hB.byte (by omega) (by omega) hh
  have H0 : Hid (Calls Tryd.prog 55 #[.slice p n c, .int .i64 0] w fun e w' => e = .returned (.int .i64 (m : Int)) ∧ Below w.heap.size w w') := by
    have h := number_any p n c 0 zs w hn hB (by omega) (by omega)
    rw [hnum.1] at h; exact h
  have H2 : Hid (∀ W, Below w.heap.size w W → Calls Tryd.prog 55 #[.slice p n c, .int .i64 2] W fun e w' => e = .returned (.int .i64 (65535 - (m : Int))) ∧ Below W.heap.size W w') := by
    intro W hW
    have h := number_any p n c 2 zs W hn (hB.later hW) (by omega) (by omega)
    rw [hnum.2] at h; exact h
  clear hB hh hnum hn
  go_enter Tryd.func25, Tryd.ntmps25
  go_wp2_with (first | (go_at_call_of 55 (Value.int IntKind.i64 0); refine H0.out.mono ?_; rintro e w1 ⟨rfl, hb1⟩) | (go_at_call 55; refine (H2.out w1 hb1).mono ?_; rintro e w2 ⟨rfl, hb2⟩))
  go_ret3
  exact ⟨rfl, hb1.trans (hb2.mono hb1.size)⟩

theorem body_succ (zs : List Int) (k : Nat) (h : 4 + k < zs.length) : (zs.drop 4).take (k + 1) = (zs.drop 4).take k ++ [zs.getD (4 + k) 0] := by
  rw [take_succ (zs.drop 4) k (by simp; omega)]
  congr 2
  rw [List.getD_eq_getElem?_getD, List.getD_eq_getElem?_getD, List.getElem?_drop]

set_option maxHeartbeats 2000000 in
theorem runw_core (b o n c m : Nat) (zs : List Int) (w : World) (hn : zs.length = n) (hB : Bytes w (some ⟨b, o, none⟩) zs) (hnm : n ≤ 140737488355328) (hl : m + 8 ≤ n) (hm : m ≤ 32768) (hh : zs.take 4 = hd m) :
    Calls Tryd.prog 25 #[.slice (some ⟨b, o, none⟩) n c] w fun e w' => ∃ a c', e = .returned (.tuple #[.slice a (unw zs).2.length c', .int .i64 (unwSize zs : Nat), .int .i64 ((unw zs).1 : Nat)]) ∧ OwnB w.heap.size w' a c' (unw zs).2 ∧ Below w.heap.size w w' := by
  have hnum := head_nums hB.byte (by omega) (by omega) hh
  have H0 : Hid (Calls Tryd.prog 55 #[.slice (some ⟨b, o, none⟩) n c, .int .i64 0] w fun e w' => e = .returned (.int .i64 (m : Int)) ∧ Below w.heap.size w w') := by
    have h := number_any _ n c 0 zs w hn hB (by omega) (by omega)
    rw [hnum.1] at h; exact h
  have H2 : Hid (∀ W, Below w.heap.size w W → Calls Tryd.prog 55 #[.slice (some ⟨b, o, none⟩) n c, .int .i64 2] W fun e w' => e = .returned (.int .i64 (65535 - (m : Int))) ∧ Below W.heap.size W w') := by
    intro W hW
    have h := number_any _ n c 2 zs W hn (hB.later hW) (by omega) (by omega)
    rw [hnum.2] at h; exact h
  obtain ⟨_, _, hbo, hlt, hcell⟩ := hB.at_ (by omega)
  cases hbo
  obtain ⟨body, hbody⟩ : ∃ body, body = (zs.drop 4).take m := ⟨_, rfl⟩
  have hbl : body.length = m := by rw [hbody]; simp; omega
  have hbb : ∀ z ∈ body, 0 ≤ z ∧ z < 256 := by rw [hbody]; exact fun z hz => hB.byte z (List.mem_of_mem_drop (List.mem_of_mem_take hz))
  have hs : Crc.add 0 body < 4294967296 := by unfold Crc.add Crc.ones; omega
  have HOk : Hid ((zs.drop (4 + m)).take 4 = tl (Crc.add 0 body) → unw zs = (0, body) ∧ unwSize zs = m + 8) := by
    intro ht
    have hu : unw zs = (0, body) := by rw [hbody] at ht ⊢; exact unw_ok hm hh (by omega) ht
    refine ⟨hu, ?_⟩
    unfold unwSize; rw [hu]; simp only [if_true, hbl]
  have HNo : Hid ((zs.drop (4 + m)).take 4 ≠ tl (Crc.add 0 body) → unw zs = (13, []) ∧ unwSize zs = 0) := by
    intro ht
    have hu : unw zs = (13, []) := by rw [hbody] at ht; exact unw_sum hm hh (by omega) ht
    refine ⟨hu, ?_⟩
    unfold unwSize; rw [hu]; rfl
  have htl := tail_eq zs m (by omega)
  have HSm : Hid (∀ W q cc, OwnB w.heap.size W q cc body → Calls Tryd.prog 10 #[.slice q m cc] W fun e w' => e = .returned (.int .u32 (Crc.add 0 body : Nat)) ∧ w' = W) := by
    intro W q cc hO
    have h := rsum_any q m cc body W hbl hO.bytes (by omega)
    rw [Crc.refAdd_eq 0 body (by omega) hbb] at h
    exact h
  have HBy : Hid (∀ k, k ≤ m → ∀ z ∈ (zs.drop 4).take k, 0 ≤ z ∧ z < 256) := fun k _ z hz => hB.byte z (List.mem_of_mem_drop (List.mem_of_mem_take hz))
  have HBs : Hid (∀ k, k < m → (zs.drop 4).take (k + 1) = (zs.drop 4).take k ++ [zs.getD (4 + k) 0]) := fun k hk => body_succ zs k (by omega)
  have HBd : Hid (body = (zs.drop 4).take m) := hbody
  have hcl : ∀ i, i < n → w.cell? ⟨b, o + i, none⟩ = some (.int .u8 (zs.getD i 0)) := fun i hi => hcell i (by omega)
  have Htl : Hid ((zs.drop (4 + m)).take 4 = [zs.getD (4 + m) 0, zs.getD (4 + m + 1) 0, zs.getD (4 + m + 2) 0, zs.getD (4 + m + 3) 0]) := htl
  clear hB hh hnum hn hcell htl hbody hbb
  go_enter Tryd.func25, Tryd.ntmps25
  go_wp2_with (first | (go_at_call_of 55 (Value.int IntKind.i64 0); refine H0.out.mono ?_; rintro e w1 ⟨rfl, hb1⟩) | (go_at_call 55; refine (H2.out w1 hb1).mono ?_; rintro e w2 ⟨rfl, hb2⟩))
  have hb2w : Below w.heap.size w w2 := hb1.trans (hb2.mono hb1.size)
  clear H0 H2
  go_loopw [6, 7] (fun vB ii wr => ∃ k : Nat, k ≤ m ∧ ii = .int .i64 (k : Int) ∧ wr.ownsRow w.heap.size 5 1 vB k (((zs.drop 4).take k).map (Value.int .u8)) ∧ Below w.heap.size w wr) (fun _ ii _ => m - (intOf ii).toNat)
  case atStart => exact ⟨0, Nat.zero_le _, rfl, World.ownsRow_nil _ _ _ _, hb2w⟩
  case round =>
    obtain ⟨k, hk, rfl, hoB, hbel⟩ := hrel
    by_cases hkm : k < m
    · have ck := (hbel.cell (p := ⟨b, o + (4 + k), none⟩) hlt).trans (hcl (4 + k) (by omega))
      have HB1 := HBs.out k hkm
      have HB2 : Hid ((zs.drop 4).take (k + 1) = (zs.drop 4).take k ++ [zs.getD (4 + k) 0]) := HB1
      have hsz := hbel.size
      clear HB1 hcl HSm HOk HNo HBs HBy HBd Htl
      generalize zs.getD (4 + k) 0 = y at *
      go_wp2_with (at_builtin; refine wpList_app rfl (.tmp 35) (.tmp 41) rfl w.heap.size _ k _ rfl (hoB.alloc _) ⟨wr.heap.size, 0, none⟩ 1 1 [.int .u8 y] rfl rfl (cell_one_new _ _ _) (ints_oneCell .u8 [y]) (by omega) (by simp; omega) ?_)
      intro v3 w3 ho3 hg3 _
      have hb3 : Below w.heap.size w w3 := (hbel.alloc hsz _).grown hg3 (by simp; omega) (fun g hg => (hoB.lt g hg).1)
      have HO3 : Hid (w3.ownsRow w.heap.size 5 1 v3 (k + 1) (((zs.drop 4).take (k + 1)).map (Value.int .u8))) := by
        show World.ownsRow _ _ _ _ _ _ _
        rw [HB2.out, List.map_append, List.map_take, List.map_drop]
        exact ho3
      clear ho3 hg3 hoB ck HB2 hbel
      go_wp2
      go_roundw
      case rel => exact ⟨k + 1, by omega, by go_num, HO3.out, hb3⟩
      case measure => simp [intOf]; omega
    · obtain rfl : k = m := by omega
      obtain ⟨pB, cB, rfl, hOB⟩ := own_of_row hoB (HBy.out k (Nat.le_refl _))
      have hlen : ((zs.drop 4).take k).length = k := by rw [← HBd.out]; exact hbl
      rw [hlen]
      rw [← HBd.out] at hOB
      obtain ⟨t0, ht0⟩ : ∃ t0, t0 = zs.getD (4 + k) 0 := ⟨_, rfl⟩
      obtain ⟨t1, ht1⟩ : ∃ t1, t1 = zs.getD (4 + k + 1) 0 := ⟨_, rfl⟩
      obtain ⟨t2, ht2⟩ : ∃ t2, t2 = zs.getD (4 + k + 2) 0 := ⟨_, rfl⟩
      obtain ⟨t3, ht3⟩ : ∃ t3, t3 = zs.getD (4 + k + 3) 0 := ⟨_, rfl⟩
      have HTail : Hid ((zs.drop (4 + k)).take 4 = [t0, t1, t2, t3]) := by rw [ht0, ht1, ht2, ht3]; exact Htl
      have HC : Hid (∀ W, Below w.heap.size w W → ∀ j, j < 4 → W.cell? ⟨b, o + (4 + k + j), none⟩ = some (.int .u8 ([t0, t1, t2, t3].getD j 0))) := by
        intro W hW j hj
        rw [hW.cell (p := ⟨b, o + (4 + k + j), none⟩) hlt, hcl (4 + k + j) (by omega)]
        match j, hj with
        | 0, _ => rw [ht0]; rfl
        | 1, _ => rw [ht1]; rfl
        | 2, _ => rw [ht2]; rfl
        | 3, _ => rw [ht3]; rfl
      have HSm1 := HSm.out wr pB cB hOB
      have HSm2 : Hid (Calls Tryd.prog 10 #[.slice pB k cB] wr fun e w' => e = .returned (.int .u32 (Crc.add 0 body : Nat)) ∧ w' = wr) := HSm1
      clear HSm1 HSm HBs HBy hoB hlen Htl ht0 ht1 ht2 ht3 hcl HBd
      generalize Crc.add 0 body = s at *
      go_wp2_with (first | (go_at_call 10; refine HSm2.out.mono ?_; rintro e wx ⟨rfl, rfl⟩) | (go_at_call 51; refine (four_any s hs _).mono ?_; rintro e w6 ⟨a6, c6, rfl, hO6, hb6⟩))
      have hb6w : Below w.heap.size w w6 := hbel.trans (hb6.mono hbel.size)
      obtain ⟨_, _, rfl, hlt6, hc6⟩ := hO6.bytes.at_ (by simp [tl])
      rename_i g6 o6
      clear HSm2
      go_loopw [10] (fun ii wr => ∃ j : Nat, j ≤ 4 ∧ ii = .int .i64 (j : Int) ∧ Hid ([t0, t1, t2, t3].take j = (tl s).take j) ∧ Below w6.heap.size w6 wr) (fun ii _ => 4 - (intOf ii).toNat)
      case atStart => exact ⟨0, Nat.zero_le _, rfl, rfl, Below.refl _ _⟩
      case round =>
        obtain ⟨j, hj, rfl, HJ, hbl2⟩ := hrel
        have hblw : Below w.heap.size w wr := hb6w.trans (hbl2.mono hb6w.size)
        by_cases hj4 : j < 4
        · have cb := HC.out _ hblw j hj4
          have cf := (hbl2.cell (p := ⟨g6, o6 + j, none⟩) hlt6).trans (hc6 j (by simpa [tl] using hj4))
          obtain ⟨kk, hkk⟩ : ∃ kk, kk = 4 + k := ⟨_, rfl⟩
          obtain ⟨kj, hkj⟩ : ∃ kj, kj = kk + j := ⟨_, rfl⟩
          have q1 : IntKind.i64.wrap (4 + (k : Int)) = (kk : Int) := by rw [IntKind.wrap_i64]; omega
          have q2 : IntKind.i64.wrap ((kk : Int) + (j : Int)) = (kj : Int) := by rw [IntKind.wrap_i64]; omega
          have q3 : (kj : Int) < (n : Int) := by omega
          have q4 : (j : Int) < 4 := by omega
          rw [← hkk, ← hkj] at cb
          have HJt : Hid ([t0, t1, t2, t3].getD j 0 = (tl s).getD j 0 → [t0, t1, t2, t3].take (j + 1) = (tl s).take (j + 1)) := by
            intro e
            rw [take_succ _ j (by simpa using hj4), take_succ (tl s) j (by simpa [tl] using hj4), HJ.out, e]
          have HJn : Hid ([t0, t1, t2, t3].getD j 0 ≠ (tl s).getD j 0 → [t0, t1, t2, t3] ≠ tl s) := fun e h => e (by rw [h])
          clear HC hc6 HJ hkk hkj
          generalize [t0, t1, t2, t3].getD j 0 = x at *
          generalize (tl s).getD j 0 = y at *
          by_cases hxy : (x == y) = true
          · have hne : (x != y) = false := by simp [bne, hxy]
            have HJ2 : Hid ([t0, t1, t2, t3].take (j + 1) = (tl s).take (j + 1)) := HJt.out (by simpa using hxy)
            clear HJt HJn
            go_wp2_with fail
            go_quiet (fail)
            go_wp2
            go_roundw
            case rel => exact ⟨j + 1, by omega, by go_num, HJ2, below_drewN hbl2 _⟩
            case measure => simp [intOf]; omega
          · have hne : (x != y) = true := by simp only [bne, Bool.not_eq_true] at hxy ⊢; rw [hxy]; rfl
            have HU : Hid (unw zs = (13, []) ∧ unwSize zs = 0) := HNo.out (by rw [HTail.out]; exact HJn.out (by simpa using hxy))
            clear HJt HJn HOk HNo
            go_wp2_with fail
            go_quiet (fail)
            go_wp2
            go_ret3
            refine ⟨none, 0, ?_, ?_, below_drewN hblw _⟩
            · rw [HU.out.1, HU.out.2]; rfl
            · rw [HU.out.1]; exact own_none _ _
        · obtain rfl : j = 4 := by omega
          have HU : Hid (unw zs = (0, body) ∧ unwSize zs = k + 8) := HOk.out (by rw [HTail.out]; exact HJ.out)
          have hOB2 : Hid (OwnB w.heap.size wr pB cB body) := (hOB.below hb6).below hbl2
          clear HC hc6 HJ HOk HNo HTail
          go_wp2_with fail
          go_ret3
          refine ⟨pB, cB, ?_, ?_, hblw⟩
          · rw [HU.out.1, HU.out.2]
            simp only [hbl]
            rfl
          · rw [HU.out.1]; exact hOB2.out
end Go.Proofs.YtehmifdgfgngdacDoor
