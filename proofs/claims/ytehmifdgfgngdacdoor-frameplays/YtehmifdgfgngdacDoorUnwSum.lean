import Derived.Test.YtehmifdgfgngdacDoorUnw
namespace Go.Proofs.YtehmifdgfgngdacDoor
open Go.RowKit
set_option maxRecDepth 8000

set_option maxHeartbeats 1000000 in
theorem unwrap_sum (b o n c m : Nat) (zs : List Int) (w : World) (hn : zs.length = n) (hB : Bytes w (some ⟨b, o, none⟩) zs) (hc : n ≤ c) (hcm : n ≤ 140737488355328) (hl : m + 8 ≤ n) (hm : m ≤ 32768) (hh : zs.take 4 = hd m) (hT : Tab w)
    (hne : (zs.drop (4 + m)).take 4 ≠ tl (Crc.add 0 ((zs.drop 4).take m))) :
    Calls Tryd.prog 26 #[.slice (some ⟨b, o, none⟩) n c] w fun e w' => e = .returned (.tuple #[.slice none 0 0, .int .i64 0, .int .i64 13]) ∧ Below w.heap.size w w' := by
  have H : Hid (Calls Tryd.prog 56 #[.slice (some ⟨b, o, none⟩) n c] w fun e w' => e = .returned (.tuple #[.int .i64 (m : Int), .int .i64 0]) ∧ Below w.heap.size w w') := readHead_good _ n c m zs w hn hB (by omega) (by omega) hm hh
  have hin : Bytes w (some ⟨b, o + 4, none⟩) ((zs.drop 4).take m) := inside_bytes hB (by omega)
  have hlin : ((zs.drop 4).take m).length = m := by simp; omega
  have hs : Crc.add 0 ((zs.drop 4).take m) < 4294967296 := by unfold Crc.add Crc.ones; omega
  have HS : Hid (∀ W, Below w.heap.size w W → Calls Tryd.prog 9 #[.slice (some ⟨b, o + 4, none⟩) m (c - 4)] W fun e w' => e = .returned (.int .u32 (Crc.add 0 ((zs.drop 4).take m) : Nat)) ∧ w' = W) :=
    fun W hW => sum_any _ m _ _ W hlin (hin.later hW) (by omega) (hT.later hW)
  have htl := tail_eq zs m (by omega)
  have hQ : ∀ (W : World), (Op.equalIn 10000 80 (.agg #[.int .u8 (zs.getD (4 + m) 0), .int .u8 (zs.getD (4 + m + 1) 0), .int .u8 (zs.getD (4 + m + 2) 0), .int .u8 (zs.getD (4 + m + 3) 0)]) (.agg #[.int .u8 ((Crc.add 0 ((zs.drop 4).take m) : Int) % 256), .int .u8 ((Crc.add 0 ((zs.drop 4).take m) : Int) / 256 % 256), .int .u8 ((Crc.add 0 ((zs.drop 4).take m) : Int) / 65536 % 256), .int .u8 ((Crc.add 0 ((zs.drop 4).take m) : Int) / 16777216)])).run Tryd.prog W = .ok false W := by
    intro W
    rw [eqIn4]
    congr 1
    rw [htl] at hne
    simp only [tl, ne_eq, List.cons.injEq, and_true] at hne
    rw [Bool.eq_false_iff]
    intro hc
    simp only [Bool.and_eq_true, beq_iff_eq] at hc
    exact hne hc
  obtain ⟨_, _, hbo, hblt, hcell⟩ := hB.at_ (by omega)
  cases hbo
  have t0 := hcell (4 + m) (by omega)
  have t1 := hcell (4 + m + 1) (by omega)
  have t2 := hcell (4 + m + 2) (by omega)
  have t3 := hcell (4 + m + 3) (by omega)
  clear hB hh hn hin hlin hne htl hT hcell
  generalize zs.getD (4 + m) 0 = x0 at *
  generalize zs.getD (4 + m + 1) 0 = x1 at *
  generalize zs.getD (4 + m + 2) 0 = x2 at *
  generalize zs.getD (4 + m + 3) 0 = x3 at *
  generalize Crc.add 0 ((zs.drop 4).take m) = s at *
  obtain ⟨k, hk⟩ : ∃ k : Nat, k = 4 + m := ⟨_, rfl⟩
  rw [← hk] at t0 t1 t2 t3
  obtain ⟨X, HX⟩ : ∃ X : List Value, Hid (X = [.int .u8 x0, .int .u8 x1, .int .u8 x2, .int .u8 x3]) := ⟨_, rfl⟩
  have lX : X.length = 4 := by rw [HX.out]; rfl
  have oX : ∀ u ∈ X, u.oneCell' = true := by rw [HX.out]; intro u hu; simp at hu; rcases hu with rfl | rfl | rfl | rfl <;> rfl
  have N1 : Hid (X.length = Nat.min (n - k) 4) := by rw [lX]; exact (Nat.min_eq_right (by omega)).symm
  have F1 : Hid (0 + X.length ≤ [Value.int .u8 0, .int .u8 0, .int .u8 0, .int .u8 0].length) := by rw [lX]; exact Nat.le_refl _
  have FZ : Hid (splice [Value.int .u8 0, .int .u8 0, .int .u8 0, .int .u8 0] 0 X = X) := by rw [HX.out]; rfl
  have S1 : Hid (∀ W : World, Below w.heap.size w W → ∀ j u, X[j]? = some u → W.cell? ((⟨b, o + k, none⟩ : Addr).add j) = some u) := by
    intro W hW j u hj
    rw [Go.WideShapes.add_plain, hW.cell (p := ⟨b, o + k + j, none⟩) hblt]
    rw [HX.out] at hj
    match j, hj with
    | 0, hj => simp at hj; subst hj; exact t0
    | 1, hj => simp at hj; subst hj; exact t1
    | 2, hj => simp at hj; subst hj; exact t2
    | 3, hj => simp at hj; subst hj; exact t3
    | j + 4, hj => simp at hj
  obtain ⟨i0, hi, hz0, hz1, hz2⟩ := info_parts info5
  have HI : Hid ((Tryd.prog.info? 5).map (·.size) = some 1) := by rw [hi]; show some i0.size = _; rw [hz1]
  clear t0 t1 t2 t3
  have q0 : 4 + m - 4 = m := by omega
  go_enter Tryd.func26, Tryd.ntmps26
  go_wp2_with (first | (go_at_call 56; refine H.out.mono ?_; rintro e w1 ⟨rfl, hb⟩) | (go_at_call 54; refine (sizeOf_any m (by omega) _).mono ?_; rintro e w2 ⟨rfl, rfl⟩))
  have q1 : IntKind.i64.wrap (4 + (m : Int)) = (k : Int) := by rw [IntKind.wrap_i64]; omega
  have q2 : (k : Int) ≤ (n : Int) := by omega
  have q3 : (c = k) = False := by simp; omega
  have HK : Hid (k = 4 + m) := hk
  have hsz := hb.size
  clear hk
  go_region_law (refine step_copy_splice rfl (.tmp 29) (.tmp 33) 24 24 rfl 5 Tryd.underlying24 HI.out (some ⟨w2.heap.size, 0, none⟩) (some ⟨b, o + k, none⟩) 4 4 (n - k) (c - k) rfl rfl w2.heap.size 0 [Value.int .u8 0, .int .u8 0, .int .u8 0, .int .u8 0] 80 (heap_new _ _) X N1.out (fun _ => ⟨rfl, _, rfl, S1.out _ (hb.alloc hsz _).drew⟩) F1.out oX w2.heap.size w2 ((Below.refl _ _).alloc (Nat.le_refl _) _).drew (Nat.le_refl _) ?_; intro w3 hg3 hb3)
  all_goals
    have hh3 : w3.heap[w2.heap.size]? = some (.cells #[.int .u8 x0, .int .u8 x1, .int .u8 x2, .int .u8 x3] 80 (0, 0)) := by
      have := hg3.out; rw [FZ.out, HX.out] at this; exact this
    have c0 : w3.cell? ⟨w2.heap.size, 0, none⟩ = some (.int .u8 x0) := by simp [World.cell?, hh3]
    have c1 : w3.cell? ⟨w2.heap.size, 1, none⟩ = some (.int .u8 x1) := by simp [World.cell?, hh3]
    have c2 : w3.cell? ⟨w2.heap.size, 2, none⟩ = some (.int .u8 x2) := by simp [World.cell?, hh3]
    have c3 : w3.cell? ⟨w2.heap.size, 3, none⟩ = some (.int .u8 x3) := by simp [World.cell?, hh3]
    have hlt : w2.heap.size < w3.heap.size := cell_lt c0
    have hbw : Below w.heap.size w w3 := hb.trans (hb3.mono hsz)
    clear hg3 hh3 S1 FZ F1 N1 HX lX oX X hb hb3 HI
    have hgt := Tryd.eqGuardType80
    go_wp2_with fail
    go_region_with (first | (go_at_call 9; refine (HS.out _ ?_).mono ?_; exact hbw.drew; rintro e w' ⟨rfl, rfl⟩) | (go_at_call 53; refine (tailOf_any s hs _).mono ?_; rintro e w4 ⟨rfl, hb4⟩; have d0 := (hb4.cell (p := ⟨w2.heap.size, 0, none⟩) hlt).trans c0; have d1 := (hb4.cell (p := ⟨w2.heap.size, 1, none⟩) hlt).trans c1; have d2 := (hb4.cell (p := ⟨w2.heap.size, 2, none⟩) hlt).trans c2; have d3 := (hb4.cell (p := ⟨w2.heap.size, 3, none⟩) hlt).trans c3))
    all_goals
      have hbl : Below w.heap.size w w4 := hbw.trans ((Below.mono hb4 hbw.size).of_drew)
      clear hQ hb4
      go_wp2
      go_ret3
      exact ⟨rfl, hbl⟩
end Go.Proofs.YtehmifdgfgngdacDoor
