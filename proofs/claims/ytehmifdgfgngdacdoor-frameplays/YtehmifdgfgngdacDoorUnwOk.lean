import Derived.Test.YtehmifdgfgngdacDoorUnw
namespace Go.Proofs.YtehmifdgfgngdacDoor
open Go.RowKit
set_option maxRecDepth 8000

theorem made_block {w : World} {base g n : Nat} (ho : w.ownsRow base 5 1 (Value.slice (some { block := g, off := 0 }) n n) n (madeCells #[Value.int IntKind.u8 0] n).toList) :
    w.heap[g]? = some (.cells (List.replicate n (Value.int .u8 0)).toArray 5 (0, 0)) := by
  obtain ⟨_, ⟨hv, _⟩ | ⟨g, cap, cur, hv, _, hh, _, _, hsz, ht⟩⟩ := ho
  · cases hv
  · simp only [Value.slice.injEq, Option.some.injEq, Addr.mk.injEq] at hv
    obtain ⟨⟨rfl, _⟩, _, rfl⟩ := hv
    rw [hh]
    have e : cur.toList = List.replicate n (Value.int .u8 0) := by
      rw [toList_madeCells_one, List.take_of_length_le (by simp [hsz])] at ht
      exact ht
    rw [← e]

set_option maxHeartbeats 1000000 in
theorem unwrap_ok (b o n c m : Nat) (zs : List Int) (w : World) (hn : zs.length = n) (hB : Bytes w (some ⟨b, o, none⟩) zs) (hc : n ≤ c) (hcm : n ≤ 140737488355328) (hl : m + 8 ≤ n) (hm : m ≤ 32768) (hh : zs.take 4 = hd m) (hT : Tab w)
    (hne : (zs.drop (4 + m)).take 4 = tl (Crc.add 0 ((zs.drop 4).take m))) :
    Calls Tryd.prog 26 #[.slice (some ⟨b, o, none⟩) n c] w fun e w' => ∃ a c', e = .returned (.tuple #[.slice a m c', .int .i64 ((m : Int) + 8), .int .i64 0]) ∧ OwnB w.heap.size w' a c' ((zs.drop 4).take m) ∧ Below w.heap.size w w' := by
  have H : Hid (Calls Tryd.prog 56 #[.slice (some ⟨b, o, none⟩) n c] w fun e w' => e = .returned (.tuple #[.int .i64 (m : Int), .int .i64 0]) ∧ Below w.heap.size w w') := readHead_good _ n c m zs w hn hB (by omega) (by omega) hm hh
  have hin : Bytes w (some ⟨b, o + 4, none⟩) ((zs.drop 4).take m) := inside_bytes hB (by omega)
  have hlin : ((zs.drop 4).take m).length = m := by simp; omega
  have hs : Crc.add 0 ((zs.drop 4).take m) < 4294967296 := by unfold Crc.add Crc.ones; omega
  have HS : Hid (∀ W, Below w.heap.size w W → Calls Tryd.prog 9 #[.slice (some ⟨b, o + 4, none⟩) m (c - 4)] W fun e w' => e = .returned (.int .u32 (Crc.add 0 ((zs.drop 4).take m) : Nat)) ∧ w' = W) :=
    fun W hW => sum_any _ m _ _ W hlin (hin.later hW) (by omega) (hT.later hW)
  have htl := tail_eq zs m (by omega)
  have hQ : ∀ (W : World), (Op.equalIn 10000 80 (.agg #[.int .u8 (zs.getD (4 + m) 0), .int .u8 (zs.getD (4 + m + 1) 0), .int .u8 (zs.getD (4 + m + 2) 0), .int .u8 (zs.getD (4 + m + 3) 0)]) (.agg #[.int .u8 ((Crc.add 0 ((zs.drop 4).take m) : Int) % 256), .int .u8 ((Crc.add 0 ((zs.drop 4).take m) : Int) / 256 % 256), .int .u8 ((Crc.add 0 ((zs.drop 4).take m) : Int) / 65536 % 256), .int .u8 ((Crc.add 0 ((zs.drop 4).take m) : Int) / 16777216)])).run Tryd.prog W = .ok true W := by
    intro W
    rw [eqIn4]
    congr 1
    rw [htl] at hne
    simp only [tl, List.cons.injEq, and_true] at hne
    simp only [Bool.and_eq_true, beq_iff_eq]
    exact hne
  have HB : Hid (∀ W, Below w.heap.size w W → Bytes W (some ⟨b, o + 4, none⟩) ((zs.drop 4).take m)) := fun W hW => hin.later hW
  have HL : Hid (((zs.drop 4).take m).length = m) := hlin
  obtain ⟨_, _, hbo, hblt, hcell⟩ := hB.at_ (by omega)
  cases hbo
  have t0 := hcell (4 + m) (by omega)
  have t1 := hcell (4 + m + 1) (by omega)
  have t2 := hcell (4 + m + 2) (by omega)
  have t3 := hcell (4 + m + 3) (by omega)
  clear hB hh hn hin hlin hne htl hT hcell
  generalize zs.getD (4 + m) 0 = x0 at *
  generalize zs.getD (4 + m + 1) 0 = x1 at *
  generalize zs.getD (4 + m + 2) 0 = x2 at *
  generalize zs.getD (4 + m + 3) 0 = x3 at *
  generalize Crc.add 0 ((zs.drop 4).take m) = s at *
  generalize (zs.drop 4).take m = body at *
  obtain ⟨k, hk⟩ : ∃ k : Nat, k = 4 + m := ⟨_, rfl⟩
  rw [← hk] at t0 t1 t2 t3
  obtain ⟨X, HX⟩ : ∃ X : List Value, Hid (X = [.int .u8 x0, .int .u8 x1, .int .u8 x2, .int .u8 x3]) := ⟨_, rfl⟩
  have lX : X.length = 4 := by rw [HX.out]; rfl
  have oX : ∀ u ∈ X, u.oneCell' = true := by rw [HX.out]; intro u hu; simp at hu; rcases hu with rfl | rfl | rfl | rfl <;> rfl
  have N1 : Hid (X.length = Nat.min (n - k) 4) := by rw [lX]; exact (Nat.min_eq_right (by omega)).symm
  have F1 : Hid (0 + X.length ≤ [Value.int .u8 0, .int .u8 0, .int .u8 0, .int .u8 0].length) := by rw [lX]; exact Nat.le_refl _
  have FZ : Hid (splice [Value.int .u8 0, .int .u8 0, .int .u8 0, .int .u8 0] 0 X = X) := by rw [HX.out]; rfl
  have S1 : Hid (∀ W : World, Below w.heap.size w W → ∀ j u, X[j]? = some u → W.cell? ((⟨b, o + k, none⟩ : Addr).add j) = some u) := by
    intro W hW j u hj
    rw [Go.WideShapes.add_plain, hW.cell (p := ⟨b, o + k + j, none⟩) hblt]
    rw [HX.out] at hj
    match j, hj with
    | 0, hj => simp at hj; subst hj; exact t0
    | 1, hj => simp at hj; subst hj; exact t1
    | 2, hj => simp at hj; subst hj; exact t2
    | 3, hj => simp at hj; subst hj; exact t3
    | j + 4, hj => simp at hj
  obtain ⟨i0, hi, hz0, hz1, hz2⟩ := info_parts info5
  have HI : Hid ((Tryd.prog.info? 5).map (·.size) = some 1) := by rw [hi]; show some i0.size = _; rw [hz1]
  clear t0 t1 t2 t3
  have q0 : 4 + m - 4 = m := by omega
  go_enter Tryd.func26, Tryd.ntmps26
  go_wp2_with (first | (go_at_call 56; refine H.out.mono ?_; rintro e w1 ⟨rfl, hb⟩) | (go_at_call 54; refine (sizeOf_any m (by omega) _).mono ?_; rintro e w2 ⟨rfl, rfl⟩))
  have q1 : IntKind.i64.wrap (4 + (m : Int)) = (k : Int) := by rw [IntKind.wrap_i64]; omega
  have q2 : (k : Int) ≤ (n : Int) := by omega
  have q3 : (c = k) = False := by simp; omega
  have HK : Hid (k = 4 + m) := hk
  have hsz := hb.size
  clear hk
  go_region_law (refine step_copy_splice rfl (.tmp 29) (.tmp 33) 24 24 rfl 5 Tryd.underlying24 HI.out (some ⟨w2.heap.size, 0, none⟩) (some ⟨b, o + k, none⟩) 4 4 (n - k) (c - k) rfl rfl w2.heap.size 0 [Value.int .u8 0, .int .u8 0, .int .u8 0, .int .u8 0] 80 (heap_new _ _) X N1.out (fun _ => ⟨rfl, _, rfl, S1.out _ (hb.alloc hsz _).drew⟩) F1.out oX w2.heap.size w2 ((Below.refl _ _).alloc (Nat.le_refl _) _).drew (Nat.le_refl _) ?_; intro w3 hg3 hb3)
  all_goals
    have hh3 : w3.heap[w2.heap.size]? = some (.cells #[.int .u8 x0, .int .u8 x1, .int .u8 x2, .int .u8 x3] 80 (0, 0)) := by
      have := hg3.out; rw [FZ.out, HX.out] at this; exact this
    have c0 : w3.cell? ⟨w2.heap.size, 0, none⟩ = some (.int .u8 x0) := by simp [World.cell?, hh3]
    have c1 : w3.cell? ⟨w2.heap.size, 1, none⟩ = some (.int .u8 x1) := by simp [World.cell?, hh3]
    have c2 : w3.cell? ⟨w2.heap.size, 2, none⟩ = some (.int .u8 x2) := by simp [World.cell?, hh3]
    have c3 : w3.cell? ⟨w2.heap.size, 3, none⟩ = some (.int .u8 x3) := by simp [World.cell?, hh3]
    have hlt : w2.heap.size < w3.heap.size := cell_lt c0
    have hbw : Below w.heap.size w w3 := hb.trans (hb3.mono hsz)
    clear hg3 hh3 S1 FZ F1 N1 HX lX oX X hb hb3 HI
    have hgt := Tryd.eqGuardType80
    go_wp2_with fail
    go_region_with (first | (go_at_call 9; refine (HS.out _ ?_).mono ?_; exact hbw.drew; rintro e w' ⟨rfl, rfl⟩) | (go_at_call 53; refine (tailOf_any s hs _).mono ?_; rintro e w4 ⟨rfl, hb4⟩; have d0 := (hb4.cell (p := ⟨w2.heap.size, 0, none⟩) hlt).trans c0; have d1 := (hb4.cell (p := ⟨w2.heap.size, 1, none⟩) hlt).trans c1; have d2 := (hb4.cell (p := ⟨w2.heap.size, 2, none⟩) hlt).trans c2; have d3 := (hb4.cell (p := ⟨w2.heap.size, 3, none⟩) hlt).trans c3))
    all_goals
      have hbl : Below w.heap.size w w4 := hbw.trans ((Below.mono hb4 hbw.size).of_drew)
      have hB4 := HB.out w4 hbl
      have hs4 := hbl.size
      clear hQ hb4 hbw HS H HB
      obtain ⟨Y, HY⟩ : ∃ Y, Hid (Y = body.map (Value.int .u8)) := ⟨_, rfl⟩
      obtain ⟨Z, HZ⟩ : ∃ Z : List Value, Hid (Z = List.replicate m (Value.int .u8 0)) := ⟨_, rfl⟩
      have lY : Y.length = m := by rw [HY.out]; simpa using HL.out
      have lZ : Z.length = m := by rw [HZ.out]; simp
      have oY : ∀ u ∈ Y, u.oneCell' = true := by rw [HY.out]; exact ints_oneCell _ _
      have HI : Hid ((Tryd.prog.info? 5).map (·.size) = some 1) := by rw [hi]; show some i0.size = _; rw [hz1]
      have N2 : Hid (Y.length = Nat.min m m) := by rw [lY]; exact (Nat.min_self m).symm
      have F2 : Hid (0 + Y.length ≤ Z.length) := by rw [lY, lZ]; show 0 + m ≤ m; omega
      have FZ : Hid (splice Z 0 Y = body.map (Value.int .u8)) := by show _ = _; rw [← HY.out]; unfold splice; rw [lY]; simp [lZ]
      have hby := hB4.byte
      have S3 : Hid (∀ w', Below w4.heap.size w4 w' → 0 < Y.length → ∃ ad, some (⟨b, o + 4, none⟩ : Addr) = some ad ∧ ∀ j u, Y[j]? = some u → w'.cell? (ad.add j) = some u) := by
        intro w' hbw' hpos
        rw [HY.out]
        exact (hB4.later hbw').src (by rw [HL.out]; omega)
      have HB4 : Hid (∀ z ∈ body, 0 ≤ z ∧ z < 256) := hby
      clear hB4 hby
      go_wp2_with (at_make; refine wpList_make_full _ rfl _ _ 24 rfl w4.heap.size 5 i0 (.int .u8 0) 1 Tryd.underlying24 hi hz0 hz1 _ _ _ _ m rfl rfl rfl rfl (by rw [hz2]; omega) (by unfold maxLen; omega) (Nat.le_refl _) ?_)
      intro w5 ho5 hg5
      have hz5 := made_block ho5
      rw [← HZ.out] at hz5
      have hb5 : Below w4.heap.size w4 w5 := (Below.refl _ _).grown hg5 (Nat.le_refl _) (fun k hk => by cases hk)
      clear ho5 hg5
      go_wp2_with (refine wpList_copy_splice rfl (.tmp 42) (.tmp 43) 24 24 rfl 5 Tryd.underlying24 HI.out _ _ _ _ _ _ rfl rfl w4.heap.size 0 Z 5 hz5 Y N2.out (fun h => ⟨rfl, S3.out w5 hb5 h⟩) F2.out oY w4.heap.size w4 hb5 (Nat.le_refl _) ?_)
      intro w6 hg6 hb6
      have HO : Hid (OwnB w.heap.size w6 (some ⟨w4.heap.size, 0, none⟩) m body) :=
        own_of_block (by have := hg6.out; rw [FZ.out] at this; exact this) HL.out hs4 (by unfold maxLen; omega) HB4.out
      have hbf : Below w.heap.size w w6 := hbl.trans (hb6.mono hs4)
      clear hg6 hb6 hb5 hz5 S3 FZ
      go_wp2
      go_ret3
      exact ⟨_, _, rfl, HO.out, hbf⟩
end Go.Proofs.YtehmifdgfgngdacDoor
