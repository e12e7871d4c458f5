import Derived.Test.YtgnamngnmbaeeaaDoorPack2
namespace Go.Proofs.YtgnamngnmbaeeaaDoor
open Go.RowKit
set_option maxRecDepth 8000

theorem take4 (zs : List Int) (h : 4 ≤ zs.length) : zs.take 4 = [zs.getD 0 0, zs.getD 1 0, zs.getD 2 0, zs.getD 3 0] := by
  match zs, h with
  | a :: b :: c :: d :: r, _ => rfl
theorem byte_at {zs : List Int} (hb : ∀ z ∈ zs, 0 ≤ z ∧ z < 256) (i : Nat) : 0 ≤ zs.getD i 0 ∧ zs.getD i 0 < 256 := by
  rw [List.getD_eq_getElem?_getD]
  by_cases h : i < zs.length
  · rw [List.getElem?_eq_getElem h]; exact hb _ (List.getElem_mem h)
  · rw [List.getElem?_eq_none (by omega)]; simp

theorem readHead_good (p : Option Addr) (n c m : Nat) (zs : List Int) (w : World) (hn : zs.length = n) (hB : Bytes w p zs) (h4 : 4 ≤ n) (hl : n ≤ 140737488355328) (hm : m ≤ 32768) (hh : zs.take 4 = hd m) :
    Calls Tryd.prog 91 #[.slice p n c] w fun e w' => e = .returned (.tuple #[.int .i64 (m : Int), .int .i64 0]) ∧ Below w.heap.size w w' := by
  subst hn
  obtain ⟨b, o, rfl, _, hc⟩ := hB.at_ (by omega)
  have h0 := byte_at hB.byte 0
  have h1 := byte_at hB.byte 1
  have h2 := byte_at hB.byte 2
  have h3 := byte_at hB.byte 3
  have c0 := hc 0 (by omega)
  have c1 := hc 1 (by omega)
  have c2 := hc 2 (by omega)
  have c3 := hc 3 (by omega)
  rw [take4 zs h4] at hh
  simp only [hd, List.cons.injEq, and_true] at hh
  obtain ⟨e0, e1, e2, e3⟩ := hh
  generalize zs.getD 0 0 = z0 at *
  generalize zs.getD 1 0 = z1 at *
  generalize zs.getD 2 0 = z2 at *
  generalize zs.getD 3 0 = z3 at *
  obtain ⟨x0, rfl⟩ := Int.eq_ofNat_of_zero_le h0.1
  obtain ⟨x1, rfl⟩ := Int.eq_ofNat_of_zero_le h1.1
  obtain ⟨x2, rfl⟩ := Int.eq_ofNat_of_zero_le h2.1
  obtain ⟨x3, rfl⟩ := Int.eq_ofNat_of_zero_le h3.1
  exact readHead_ok b o zs.length c x0 x1 x2 x3 m w h4 hl c0 c1 c2 c3 (by omega) (by omega) (show _ = _ by omega) (by rw [beq_iff_eq]; exact e2) (by rw [beq_iff_eq]; exact e3) (by omega)

theorem readHead_bad (p : Option Addr) (n c : Nat) (zs : List Int) (w : World) (hn : zs.length = n) (hB : Bytes w p zs) (h4 : 4 ≤ n) (hl : n ≤ 140737488355328) (hh : ∀ m, m ≤ 32768 → zs.take 4 ≠ hd m) :
    Calls Tryd.prog 91 #[.slice p n c] w fun e w' => e = .returned (.tuple #[.int .i64 0, .int .i64 12]) ∧ Below w.heap.size w w' := by
  subst hn
  obtain ⟨b, o, rfl, _, hc⟩ := hB.at_ (by omega)
  have h0 := byte_at hB.byte 0
  have h1 := byte_at hB.byte 1
  have h2 := byte_at hB.byte 2
  have h3 := byte_at hB.byte 3
  have c0 := hc 0 (by omega)
  have c1 := hc 1 (by omega)
  have c2 := hc 2 (by omega)
  have c3 := hc 3 (by omega)
  have hh := hh ((zs.getD 0 0).toNat + 256 * (zs.getD 1 0).toNat)
  rw [take4 zs h4] at hh
  simp only [hd, ne_eq, List.cons.injEq, and_true] at hh
  generalize zs.getD 0 0 = z0 at *
  generalize zs.getD 1 0 = z1 at *
  generalize zs.getD 2 0 = z2 at *
  generalize zs.getD 3 0 = z3 at *
  obtain ⟨x0, rfl⟩ := Int.eq_ofNat_of_zero_le h0.1
  obtain ⟨x1, rfl⟩ := Int.eq_ofNat_of_zero_le h1.1
  obtain ⟨x2, rfl⟩ := Int.eq_ofNat_of_zero_le h2.1
  obtain ⟨x3, rfl⟩ := Int.eq_ofNat_of_zero_le h3.1
  have hm : x0 + 256 * x1 = (x0 : Int).toNat + 256 * (x1 : Int).toNat := by omega
  rw [← hm] at hh
  generalize hM : x0 + 256 * x1 = m at *
  have HM : Hid (m = x0 + 256 * x1) := hM.symm
  by_cases e2 : (x2 : Int) = (65535 - (m : Int)) % 256
  · by_cases e3 : (x3 : Int) = (65535 - (m : Int)) / 256
    · by_cases hg : 32768 < (m : Int)
      · exact readHead_far b o zs.length c x0 x1 x2 x3 m w h4 hl c0 c1 c2 c3 (by omega) (by omega) HM (by rw [beq_iff_eq]; exact e2) (by rw [beq_iff_eq]; exact e3) hg
      · exact absurd ⟨by omega, by omega, e2, e3⟩ (hh (by omega))
    · exact readHead_n3 b o zs.length c x0 x1 x2 x3 m w h4 hl c0 c1 c2 c3 (by omega) (by omega) HM (by rw [beq_iff_eq]; exact e2) (by rw [beq_eq_false_iff_ne]; exact e3)
  · exact readHead_n2 b o zs.length c x0 x1 x2 x3 m w h4 hl c0 c1 c2 c3 (by omega) (by omega) HM (by rw [beq_eq_false_iff_ne]; exact e2)
end Go.Proofs.YtgnamngnmbaeeaaDoor

namespace Go.Proofs.YtgnamngnmbaeeaaDoor
open Go.RowKit
set_option maxRecDepth 8000

theorem inside_bytes {w : World} {b o m : Nat} {zs : List Int} (h : Bytes w (some ⟨b, o, none⟩) zs) (hl : 4 + m ≤ zs.length) : Bytes w (some ⟨b, o + 4, none⟩) ((zs.drop 4).take m) := by
  refine ⟨fun hp => ?_, fun z hz => h.byte z (List.mem_of_mem_drop (List.mem_of_mem_take hz))⟩
  obtain ⟨_, _, hbo, hlt, hc⟩ := h.at_ (by omega)
  cases hbo
  refine ⟨b, o + 4, rfl, hlt, fun i hi => ?_⟩
  have him : i < m := by simp at hi; omega
  rw [show o + 4 + i = o + (4 + i) by omega, hc (4 + i) (by omega)]
  simp [List.getD_eq_getElem?_getD, him, List.getElem?_drop]

theorem tail_eq (zs : List Int) (m : Nat) (h : m + 8 ≤ zs.length) : (zs.drop (4 + m)).take 4 = [zs.getD (4 + m) 0, zs.getD (4 + m + 1) 0, zs.getD (4 + m + 2) 0, zs.getD (4 + m + 3) 0] := by
  rw [take4 _ (by simp; omega)]
  simp [List.getD_eq_getElem?_getD, List.getElem?_drop]

set_option maxHeartbeats 400000 in
theorem unwrap_short (p : Option Addr) (n c : Nat) (w : World) (hn : n < 4) :
    Calls Tryd.prog 84 #[.slice p n c] w fun e w' => e = .returned (.tuple #[.slice none 0 0, .int .i64 0, .int .i64 11]) ∧ Below w.heap.size w w' := by
  go_enter Tryd.func84, Tryd.ntmps84
  go_wp2_with (go_at_call 91; refine (readHead_cut p n c _ hn).mono ?_; rintro e w' ⟨rfl, rfl⟩)
  go_ret3
  exact ⟨rfl, Below.refl _ _⟩

set_option maxHeartbeats 400000 in
theorem unwrap_bad (p : Option Addr) (n c : Nat) (zs : List Int) (w : World) (hn : zs.length = n) (hB : Bytes w p zs) (h4 : 4 ≤ n) (hl : n ≤ 140737488355328) (hh : ∀ m, m ≤ 32768 → zs.take 4 ≠ hd m) :
    Calls Tryd.prog 84 #[.slice p n c] w fun e w' => e = .returned (.tuple #[.slice none 0 0, .int .i64 0, .int .i64 12]) ∧ Below w.heap.size w w' := by
  have H : Hid (Calls Tryd.prog 91 #[.slice p n c] w fun e w' => e = .returned (.tuple #[.int .i64 0, .int .i64 12]) ∧ Below w.heap.size w w') := readHead_bad p n c zs w hn hB h4 hl hh
  clear hB hh hn
  go_enter Tryd.func84, Tryd.ntmps84
  go_wp2_with (go_at_call 91; refine H.out.mono ?_; rintro e w1 ⟨rfl, hb⟩)
  go_ret3
  exact ⟨rfl, hb⟩

set_option maxHeartbeats 400000 in
theorem unwrap_cut (p : Option Addr) (n c m : Nat) (zs : List Int) (w : World) (hn : zs.length = n) (hB : Bytes w p zs) (h4 : 4 ≤ n) (hl : n < m + 8) (hm : m ≤ 32768) (hh : zs.take 4 = hd m) :
    Calls Tryd.prog 84 #[.slice p n c] w fun e w' => e = .returned (.tuple #[.slice none 0 0, .int .i64 0, .int .i64 11]) ∧ Below w.heap.size w w' := by
  have H : Hid (Calls Tryd.prog 91 #[.slice p n c] w fun e w' => e = .returned (.tuple #[.int .i64 (m : Int), .int .i64 0]) ∧ Below w.heap.size w w') := readHead_good p n c m zs w hn hB h4 (by omega) hm hh
  clear hB hh hn
  go_enter Tryd.func84, Tryd.ntmps84
  go_wp2_with (first | (go_at_call 91; refine H.out.mono ?_; rintro e w1 ⟨rfl, hb⟩) | (go_at_call 82; refine (sizeOf_any m (by omega) _).mono ?_; rintro e w2 ⟨rfl, rfl⟩))
  go_ret3
  exact ⟨rfl, hb⟩

end Go.Proofs.YtgnamngnmbaeeaaDoor

namespace Go.Proofs.YtgnamngnmbaeeaaDoor
open Go.RowKit
set_option maxRecDepth 8000

set_option maxHeartbeats 1000000 in
theorem unwrap_sum (b o n c m : Nat) (zs : List Int) (w : World) (hn : zs.length = n) (hB : Bytes w (some ⟨b, o, none⟩) zs) (hc : n ≤ c) (hcm : n ≤ 140737488355328) (hl : m + 8 ≤ n) (hm : m ≤ 32768) (hh : zs.take 4 = hd m) (hT : Tab w)
    (hne : (zs.drop (4 + m)).take 4 ≠ tl (Crc.add 0 ((zs.drop 4).take m))) :
    Calls Tryd.prog 84 #[.slice (some ⟨b, o, none⟩) n c] w fun e w' => e = .returned (.tuple #[.slice none 0 0, .int .i64 0, .int .i64 13]) ∧ Below w.heap.size w w' := by
  have H : Hid (Calls Tryd.prog 91 #[.slice (some ⟨b, o, none⟩) n c] w fun e w' => e = .returned (.tuple #[.int .i64 (m : Int), .int .i64 0]) ∧ Below w.heap.size w w') := readHead_good _ n c m zs w hn hB (by omega) (by omega) hm hh
  have hin : Bytes w (some ⟨b, o + 4, none⟩) ((zs.drop 4).take m) := inside_bytes hB (by omega)
  have hlin : ((zs.drop 4).take m).length = m := by simp; omega
  have hs : Crc.add 0 ((zs.drop 4).take m) < 4294967296 := by unfold Crc.add Crc.ones; omega
  have HS : Hid (∀ W, Below w.heap.size w W → Calls Tryd.prog 81 #[.slice (some ⟨b, o + 4, none⟩) m (c - 4)] W fun e w' => e = .returned (.int .u32 (Crc.add 0 ((zs.drop 4).take m) : Nat)) ∧ w' = W) :=
    fun W hW => sum_any _ m _ _ W hlin (hin.later hW) (by omega) (hT.later hW)
  have htl := tail_eq zs m (by omega)
  have hQ : ∀ (W : World), (Op.equalIn 10000 151 (.agg #[.int .u8 (zs.getD (4 + m) 0), .int .u8 (zs.getD (4 + m + 1) 0), .int .u8 (zs.getD (4 + m + 2) 0), .int .u8 (zs.getD (4 + m + 3) 0)]) (.agg #[.int .u8 ((Crc.add 0 ((zs.drop 4).take m) : Int) % 256), .int .u8 ((Crc.add 0 ((zs.drop 4).take m) : Int) / 256 % 256), .int .u8 ((Crc.add 0 ((zs.drop 4).take m) : Int) / 65536 % 256), .int .u8 ((Crc.add 0 ((zs.drop 4).take m) : Int) / 16777216)])).run Tryd.prog W = .ok false W := by
    intro W
    rw [eqIn4]
    congr 1
    rw [htl] at hne
    simp only [tl, ne_eq, List.cons.injEq, and_true] at hne
    rw [Bool.eq_false_iff]
    intro hc
    simp only [Bool.and_eq_true, beq_iff_eq] at hc
    exact hne hc
  obtain ⟨_, _, hbo, hblt, hcell⟩ := hB.at_ (by omega)
  cases hbo
  have t0 := hcell (4 + m) (by omega)
  have t1 := hcell (4 + m + 1) (by omega)
  have t2 := hcell (4 + m + 2) (by omega)
  have t3 := hcell (4 + m + 3) (by omega)
  clear hB hh hn hin hlin hne htl hT hcell
  generalize zs.getD (4 + m) 0 = x0 at *
  generalize zs.getD (4 + m + 1) 0 = x1 at *
  generalize zs.getD (4 + m + 2) 0 = x2 at *
  generalize zs.getD (4 + m + 3) 0 = x3 at *
  generalize Crc.add 0 ((zs.drop 4).take m) = s at *
  obtain ⟨k, hk⟩ : ∃ k : Nat, k = 4 + m := ⟨_, rfl⟩
  rw [← hk] at t0 t1 t2 t3
  obtain ⟨X, HX⟩ : ∃ X : List Value, Hid (X = [.int .u8 x0, .int .u8 x1, .int .u8 x2, .int .u8 x3]) := ⟨_, rfl⟩
  have lX : X.length = 4 := by rw [HX.out]; rfl
  have oX : ∀ u ∈ X, u.oneCell' = true := by rw [HX.out]; intro u hu; simp at hu; rcases hu with rfl | rfl | rfl | rfl <;> rfl
  have N1 : Hid (X.length = Nat.min (n - k) 4) := by rw [lX]; exact (Nat.min_eq_right (by omega)).symm
  have F1 : Hid (0 + X.length ≤ [Value.int .u8 0, .int .u8 0, .int .u8 0, .int .u8 0].length) := by rw [lX]; exact Nat.le_refl _
  have FZ : Hid (splice [Value.int .u8 0, .int .u8 0, .int .u8 0, .int .u8 0] 0 X = X) := by rw [HX.out]; rfl
  have S1 : Hid (∀ W : World, Below w.heap.size w W → ∀ j u, X[j]? = some u → W.cell? ((⟨b, o + k, none⟩ : Addr).add j) = some u) := by
    intro W hW j u hj
    rw [Go.WideShapes.add_plain, hW.cell (p := ⟨b, o + k + j, none⟩) hblt]
    rw [HX.out] at hj
    match j, hj with
    | 0, hj => simp at hj; subst hj; exact t0
    | 1, hj => simp at hj; subst hj; exact t1
    | 2, hj => simp at hj; subst hj; exact t2
    | 3, hj => simp at hj; subst hj; exact t3
    | j + 4, hj => simp at hj
  obtain ⟨i0, hi, hz0, hz1, hz2⟩ := info_parts info5
  have HI : Hid ((Tryd.prog.info? 5).map (·.size) = some 1) := by rw [hi]; show some i0.size = _; rw [hz1]
  clear t0 t1 t2 t3
  have q0 : 4 + m - 4 = m := by omega
  go_enter Tryd.func84, Tryd.ntmps84
  go_wp2_with (first | (go_at_call 91; refine H.out.mono ?_; rintro e w1 ⟨rfl, hb⟩) | (go_at_call 82; refine (sizeOf_any m (by omega) _).mono ?_; rintro e w2 ⟨rfl, rfl⟩))
  have q1 : IntKind.i64.wrap (4 + (m : Int)) = (k : Int) := by rw [IntKind.wrap_i64]; omega
  have q2 : (k : Int) ≤ (n : Int) := by omega
  have q3 : (c = k) = False := by simp; omega
  have HK : Hid (k = 4 + m) := hk
  have hsz := hb.size
  clear hk
  go_region_law (refine step_copy_splice rfl (.tmp 29) (.tmp 33) 36 36 rfl 5 Tryd.underlying36 HI.out (some ⟨w2.heap.size, 0, none⟩) (some ⟨b, o + k, none⟩) 4 4 (n - k) (c - k) rfl rfl w2.heap.size 0 [Value.int .u8 0, .int .u8 0, .int .u8 0, .int .u8 0] 151 (heap_new _ _) X N1.out (fun _ => ⟨rfl, _, rfl, S1.out _ (hb.alloc hsz _).drew⟩) F1.out oX w2.heap.size w2 ((Below.refl _ _).alloc (Nat.le_refl _) _).drew (Nat.le_refl _) ?_; intro w3 hg3 hb3)
  all_goals
    have hh3 : w3.heap[w2.heap.size]? = some (.cells #[.int .u8 x0, .int .u8 x1, .int .u8 x2, .int .u8 x3] 151 (0, 0)) := by
      have := hg3.out; rw [FZ.out, HX.out] at this; exact this
    have c0 : w3.cell? ⟨w2.heap.size, 0, none⟩ = some (.int .u8 x0) := by simp [World.cell?, hh3]
    have c1 : w3.cell? ⟨w2.heap.size, 1, none⟩ = some (.int .u8 x1) := by simp [World.cell?, hh3]
    have c2 : w3.cell? ⟨w2.heap.size, 2, none⟩ = some (.int .u8 x2) := by simp [World.cell?, hh3]
    have c3 : w3.cell? ⟨w2.heap.size, 3, none⟩ = some (.int .u8 x3) := by simp [World.cell?, hh3]
    have hlt : w2.heap.size < w3.heap.size := cell_lt c0
    have hbw : Below w.heap.size w w3 := hb.trans (hb3.mono hsz)
    clear hg3 hh3 S1 FZ F1 N1 HX lX oX X hb hb3 HI
    have hgt := Tryd.eqGuardType151
    go_wp2_with fail
    go_region_with (first | (go_at_call 81; refine (HS.out _ ?_).mono ?_; exact hbw.drew; rintro e w' ⟨rfl, rfl⟩) | (go_at_call 80; refine (tailOf_any s hs _).mono ?_; rintro e w4 ⟨rfl, hb4⟩; have d0 := (hb4.cell (p := ⟨w2.heap.size, 0, none⟩) hlt).trans c0; have d1 := (hb4.cell (p := ⟨w2.heap.size, 1, none⟩) hlt).trans c1; have d2 := (hb4.cell (p := ⟨w2.heap.size, 2, none⟩) hlt).trans c2; have d3 := (hb4.cell (p := ⟨w2.heap.size, 3, none⟩) hlt).trans c3))
    all_goals
      have hbl : Below w.heap.size w w4 := hbw.trans ((Below.mono hb4 hbw.size).of_drew)
      clear hQ hb4
      go_wp2
      go_ret3
      exact ⟨rfl, hbl⟩
end Go.Proofs.YtgnamngnmbaeeaaDoor
