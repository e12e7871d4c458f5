import Derived.Test.YtgnamngnmbaeeaaDoorPack3
namespace Go.Proofs.YtgnamngnmbaeeaaDoor
open Go.RowKit
set_option maxRecDepth 8000

theorem made_block {w : World} {base g n : Nat} (ho : w.ownsRow base 5 1 (Value.slice (some { block := g, off := 0 }) n n) n (madeCells #[Value.int IntKind.u8 0] n).toList) :
    w.heap[g]? = some (.cells (List.replicate n (Value.int .u8 0)).toArray 5 (0, 0)) := by
  obtain ⟨_, ⟨hv, _⟩ | ⟨g, cap, cur, hv, _, hh, _, _, hsz, ht⟩⟩ := ho
  · cases hv
  · simp only [Value.slice.injEq, Option.some.injEq, Addr.mk.injEq] at hv
    obtain ⟨⟨rfl, _⟩, _, rfl⟩ := hv
    rw [hh]
    have e : cur.toList = List.replicate n (Value.int .u8 0) := by
      rw [toList_madeCells_one, List.take_of_length_le (by simp [hsz])] at ht
      exact ht
    rw [← e]

set_option maxHeartbeats 1000000 in
theorem unwrap_ok (b o n c m : Nat) (zs : List Int) (w : World) (hn : zs.length = n) (hB : Bytes w (some ⟨b, o, none⟩) zs) (hc : n ≤ c) (hcm : n ≤ 140737488355328) (hl : m + 8 ≤ n) (hm : m ≤ 32768) (hh : zs.take 4 = hd m) (hT : Tab w)
    (hne : (zs.drop (4 + m)).take 4 = tl (Crc.add 0 ((zs.drop 4).take m))) :
    Calls Tryd.prog 84 #[.slice (some ⟨b, o, none⟩) n c] w fun e w' => ∃ a c', e = .returned (.tuple #[.slice a m c', .int .i64 ((m : Int) + 8), .int .i64 0]) ∧ OwnB w.heap.size w' a c' ((zs.drop 4).take m) ∧ Below w.heap.size w w' := by
  have H : Hid (Calls Tryd.prog 91 #[.slice (some ⟨b, o, none⟩) n c] w fun e w' => e = .returned (.tuple #[.int .i64 (m : Int), .int .i64 0]) ∧ Below w.heap.size w w') := readHead_good _ n c m zs w hn hB (by omega) (by omega) hm hh
  have hin : Bytes w (some ⟨b, o + 4, none⟩) ((zs.drop 4).take m) := inside_bytes hB (by omega)
  have hlin : ((zs.drop 4).take m).length = m := by simp; omega
  have hs : Crc.add 0 ((zs.drop 4).take m) < 4294967296 := by unfold Crc.add Crc.ones; omega
  have HS : Hid (∀ W, Below w.heap.size w W → Calls Tryd.prog 81 #[.slice (some ⟨b, o + 4, none⟩) m (c - 4)] W fun e w' => e = .returned (.int .u32 (Crc.add 0 ((zs.drop 4).take m) : Nat)) ∧ w' = W) :=
    fun W hW => sum_any _ m _ _ W hlin (hin.later hW) (by omega) (hT.later hW)
  have htl := tail_eq zs m (by omega)
  have hQ : ∀ (W : World), (Op.equalIn 10000 151 (.agg #[.int .u8 (zs.getD (4 + m) 0), .int .u8 (zs.getD (4 + m + 1) 0), .int .u8 (zs.getD (4 + m + 2) 0), .int .u8 (zs.getD (4 + m + 3) 0)]) (.agg #[.int .u8 ((Crc.add 0 ((zs.drop 4).take m) : Int) % 256), .int .u8 ((Crc.add 0 ((zs.drop 4).take m) : Int) / 256 % 256), .int .u8 ((Crc.add 0 ((zs.drop 4).take m) : Int) / 65536 % 256), .int .u8 ((Crc.add 0 ((zs.drop 4).take m) : Int) / 16777216)])).run Tryd.prog W = .ok true W := by
    intro W
    rw [eqIn4]
    congr 1
    rw [htl] at hne
    simp only [tl, List.cons.injEq, and_true] at hne
    simp only [Bool.and_eq_true, beq_iff_eq]
    exact hne
  have HB : Hid (∀ W, Below w.heap.size w W → Bytes W (some ⟨b, o + 4, none⟩) ((zs.drop 4).take m)) := fun W hW => hin.later hW
  have HL : Hid (((zs.drop 4).take m).length = m) := hlin
  obtain ⟨_, _, hbo, hblt, hcell⟩ := hB.at_ (by omega)
  cases hbo
  have t0 := hcell (4 + m) (by omega)
  have t1 := hcell (4 + m + 1) (by omega)
  have t2 := hcell (4 + m + 2) (by omega)
  have t3 := hcell (4 + m + 3) (by omega)
  clear hB hh hn hin hlin hne htl hT hcell
  generalize zs.getD (4 + m) 0 = x0 at *
  generalize zs.getD (4 + m + 1) 0 = x1 at *
  generalize zs.getD (4 + m + 2) 0 = x2 at *
  generalize zs.getD (4 + m + 3) 0 = x3 at *
  generalize Crc.add 0 ((zs.drop 4).take m) = s at *
  generalize (zs.drop 4).take m = body at *
  obtain ⟨k, hk⟩ : ∃ k : Nat, k = 4 + m := ⟨_, rfl⟩
  rw [← hk] at t0 t1 t2 t3
  obtain ⟨X, HX⟩ : ∃ X : List Value, Hid (X = [.int .u8 x0, .int .u8 x1, .int .u8 x2, .int .u8 x3]) := ⟨_, rfl⟩
  have lX : X.length = 4 := by rw [HX.out]; rfl
  have oX : ∀ u ∈ X, u.oneCell' = true := by rw [HX.out]; intro u hu; simp at hu; rcases hu with rfl | rfl | rfl | rfl <;> rfl
  have N1 : Hid (X.length = Nat.min (n - k) 4) := by rw [lX]; exact (Nat.min_eq_right (by omega)).symm
  have F1 : Hid (0 + X.length ≤ [Value.int .u8 0, .int .u8 0, .int .u8 0, .int .u8 0].length) := by rw [lX]; exact Nat.le_refl _
  have FZ : Hid (splice [Value.int .u8 0, .int .u8 0, .int .u8 0, .int .u8 0] 0 X = X) := by rw [HX.out]; rfl
  have S1 : Hid (∀ W : World, Below w.heap.size w W → ∀ j u, X[j]? = some u → W.cell? ((⟨b, o + k, none⟩ : Addr).add j) = some u) := by
    intro W hW j u hj
    rw [Go.WideShapes.add_plain, hW.cell (p := ⟨b, o + k + j, none⟩) hblt]
    rw [HX.out] at hj
    match j, hj with
    | 0, hj => simp at hj; subst hj; exact t0
    | 1, hj => simp at hj; subst hj; exact t1
    | 2, hj => simp at hj; subst hj; exact t2
    | 3, hj => simp at hj; subst hj; exact t3
    | j + 4, hj => simp at hj
  obtain ⟨i0, hi, hz0, hz1, hz2⟩ := info_parts info5
  have HI : Hid ((Tryd.prog.info? 5).map (·.size) = some 1) := by rw [hi]; show some i0.size = _; rw [hz1]
  clear t0 t1 t2 t3
  have q0 : 4 + m - 4 = m := by omega
  go_enter Tryd.func84, Tryd.ntmps84
  go_wp2_with (first | (go_at_call 91; refine H.out.mono ?_; rintro e w1 ⟨rfl, hb⟩) | (go_at_call 82; refine (sizeOf_any m (by omega) _).mono ?_; rintro e w2 ⟨rfl, rfl⟩))
  have q1 : IntKind.i64.wrap (4 + (m : Int)) = (k : Int) := by rw [IntKind.wrap_i64]; omega
  have q2 : (k : Int) ≤ (n : Int) := by omega
  have q3 : (c = k) = False := by simp; omega
  have HK : Hid (k = 4 + m) := hk
  have hsz := hb.size
  clear hk
  go_region_law (refine step_copy_splice rfl (.tmp 29) (.tmp 33) 36 36 rfl 5 Tryd.underlying36 HI.out (some ⟨w2.heap.size, 0, none⟩) (some ⟨b, o + k, none⟩) 4 4 (n - k) (c - k) rfl rfl w2.heap.size 0 [Value.int .u8 0, .int .u8 0, .int .u8 0, .int .u8 0] 151 (heap_new _ _) X N1.out (fun _ => ⟨rfl, _, rfl, S1.out _ (hb.alloc hsz _).drew⟩) F1.out oX w2.heap.size w2 ((Below.refl _ _).alloc (Nat.le_refl _) _).drew (Nat.le_refl _) ?_; intro w3 hg3 hb3)
  all_goals
    have hh3 : w3.heap[w2.heap.size]? = some (.cells #[.int .u8 x0, .int .u8 x1, .int .u8 x2, .int .u8 x3] 151 (0, 0)) := by
      have := hg3.out; rw [FZ.out, HX.out] at this; exact this
    have c0 : w3.cell? ⟨w2.heap.size, 0, none⟩ = some (.int .u8 x0) := by simp [World.cell?, hh3]
    have c1 : w3.cell? ⟨w2.heap.size, 1, none⟩ = some (.int .u8 x1) := by simp [World.cell?, hh3]
    have c2 : w3.cell? ⟨w2.heap.size, 2, none⟩ = some (.int .u8 x2) := by simp [World.cell?, hh3]
    have c3 : w3.cell? ⟨w2.heap.size, 3, none⟩ = some (.int .u8 x3) := by simp [World.cell?, hh3]
    have hlt : w2.heap.size < w3.heap.size := cell_lt c0
    have hbw : Below w.heap.size w w3 := hb.trans (hb3.mono hsz)
    clear hg3 hh3 S1 FZ F1 N1 HX lX oX X hb hb3 HI
    have hgt := Tryd.eqGuardType151
    go_wp2_with fail
    go_region_with (first | (go_at_call 81; refine (HS.out _ ?_).mono ?_; exact hbw.drew; rintro e w' ⟨rfl, rfl⟩) | (go_at_call 80; refine (tailOf_any s hs _).mono ?_; rintro e w4 ⟨rfl, hb4⟩; have d0 := (hb4.cell (p := ⟨w2.heap.size, 0, none⟩) hlt).trans c0; have d1 := (hb4.cell (p := ⟨w2.heap.size, 1, none⟩) hlt).trans c1; have d2 := (hb4.cell (p := ⟨w2.heap.size, 2, none⟩) hlt).trans c2; have d3 := (hb4.cell (p := ⟨w2.heap.size, 3, none⟩) hlt).trans c3))
    all_goals
      have hbl : Below w.heap.size w w4 := hbw.trans ((Below.mono hb4 hbw.size).of_drew)
      have hB4 := HB.out w4 hbl
      have hs4 := hbl.size
      clear hQ hb4 hbw HS H HB
      obtain ⟨Y, HY⟩ : ∃ Y, Hid (Y = body.map (Value.int .u8)) := ⟨_, rfl⟩
      obtain ⟨Z, HZ⟩ : ∃ Z : List Value, Hid (Z = List.replicate m (Value.int .u8 0)) := ⟨_, rfl⟩
      have lY : Y.length = m := by rw [HY.out]; simpa using HL.out
      have lZ : Z.length = m := by rw [HZ.out]; simp
      have oY : ∀ u ∈ Y, u.oneCell' = true := by rw [HY.out]; exact ints_oneCell _ _
      have HI : Hid ((Tryd.prog.info? 5).map (·.size) = some 1) := by rw [hi]; show some i0.size = _; rw [hz1]
      have N2 : Hid (Y.length = Nat.min m m) := by rw [lY]; exact (Nat.min_self m).symm
      have F2 : Hid (0 + Y.length ≤ Z.length) := by rw [lY, lZ]; show 0 + m ≤ m; omega
      have FZ : Hid (splice Z 0 Y = body.map (Value.int .u8)) := by show _ = _; rw [← HY.out]; unfold splice; rw [lY]; simp [lZ]
      have hby := hB4.byte
      have S3 : Hid (∀ w', Below w4.heap.size w4 w' → 0 < Y.length → ∃ ad, some (⟨b, o + 4, none⟩ : Addr) = some ad ∧ ∀ j u, Y[j]? = some u → w'.cell? (ad.add j) = some u) := by
        intro w' hbw' hpos
        rw [HY.out]
        exact (hB4.later hbw').src (by rw [HL.out]; omega)
      have HB4 : Hid (∀ z ∈ body, 0 ≤ z ∧ z < 256) := hby
      clear hB4 hby
      go_wp2_with (at_make; refine wpList_make_full _ rfl _ _ 36 rfl w4.heap.size 5 i0 (.int .u8 0) 1 Tryd.underlying36 hi hz0 hz1 _ _ _ _ m rfl rfl rfl rfl (by rw [hz2]; omega) (by unfold maxLen; omega) (Nat.le_refl _) ?_)
      intro w5 ho5 hg5
      have hz5 := made_block ho5
      rw [← HZ.out] at hz5
      have hb5 : Below w4.heap.size w4 w5 := (Below.refl _ _).grown hg5 (Nat.le_refl _) (fun k hk => by cases hk)
      clear ho5 hg5
      go_wp2_with (refine wpList_copy_splice rfl (.tmp 42) (.tmp 43) 36 36 rfl 5 Tryd.underlying36 HI.out _ _ _ _ _ _ rfl rfl w4.heap.size 0 Z 5 hz5 Y N2.out (fun h => ⟨rfl, S3.out w5 hb5 h⟩) F2.out oY w4.heap.size w4 hb5 (Nat.le_refl _) ?_)
      intro w6 hg6 hb6
      have HO : Hid (OwnB w.heap.size w6 (some ⟨w4.heap.size, 0, none⟩) m body) :=
        own_of_block (by have := hg6.out; rw [FZ.out] at this; exact this) HL.out hs4 (by unfold maxLen; omega) HB4.out
      have hbf : Below w.heap.size w w6 := hbl.trans (hb6.mono hs4)
      clear hg6 hb6 hb5 hz5 S3 FZ
      go_wp2
      go_ret3
      exact ⟨_, _, rfl, HO.out, hbf⟩
end Go.Proofs.YtgnamngnmbaeeaaDoor

namespace Go.Proofs.YtgnamngnmbaeeaaDoor
open Go.RowKit
set_option maxRecDepth 8000

/-- what Unwrap answers: the error's number, and the body -/
def unw (zs : List Int) : Nat × List Int :=
  if zs.length < 4 then (11, [])
  else if zs.take 4 = hd ((zs.getD 0 0).toNat + 256 * (zs.getD 1 0).toNat) ∧ (zs.getD 0 0).toNat + 256 * (zs.getD 1 0).toNat ≤ 32768 then
    if zs.length < (zs.getD 0 0).toNat + 256 * (zs.getD 1 0).toNat + 8 then (11, [])
    else if (zs.drop (4 + ((zs.getD 0 0).toNat + 256 * (zs.getD 1 0).toNat))).take 4 = tl (Crc.add 0 ((zs.drop 4).take ((zs.getD 0 0).toNat + 256 * (zs.getD 1 0).toNat))) then (0, (zs.drop 4).take ((zs.getD 0 0).toNat + 256 * (zs.getD 1 0).toNat))
    else (13, [])
  else (12, [])
def unwSize (zs : List Int) : Nat := if (unw zs).1 = 0 then (unw zs).2.length + 8 else 0
/-- what Exact answers -/
def exa (zs : List Int) : Nat × List Int :=
  if (unw zs).1 = 0 then (if (unw zs).2.length + 8 < zs.length then (14, []) else (0, (unw zs).2)) else ((unw zs).1, [])

theorem hd_len {zs : List Int} {m : Nat} (hm : m ≤ 65535) (h : zs.take 4 = hd m) (hl : 4 ≤ zs.length) : (zs.getD 0 0).toNat + 256 * (zs.getD 1 0).toNat = m := by
  rw [take4 zs hl] at h
  simp only [hd, List.cons.injEq, and_true] at h
  omega

theorem unw_short {zs : List Int} (h : zs.length < 4) : unw zs = (11, []) := by unfold unw; rw [if_pos h]
theorem unw_bad {zs : List Int} (h : 4 ≤ zs.length) (hh : ∀ m, m ≤ 32768 → zs.take 4 ≠ hd m) : unw zs = (12, []) := by
  unfold unw
  rw [if_neg (by omega), if_neg (fun hx => hh _ hx.2 hx.1)]
theorem unw_cut {zs : List Int} {m : Nat} (hl : 4 ≤ zs.length) (hm : m ≤ 32768) (hh : zs.take 4 = hd m) (hs : zs.length < m + 8) : unw zs = (11, []) := by
  unfold unw
  rw [if_neg (by omega), hd_len (by omega) hh hl, if_pos ⟨hh, hm⟩, if_pos hs]
theorem unw_sum {zs : List Int} {m : Nat} (hm : m ≤ 32768) (hh : zs.take 4 = hd m) (hs : m + 8 ≤ zs.length) (ht : (zs.drop (4 + m)).take 4 ≠ tl (Crc.add 0 ((zs.drop 4).take m))) : unw zs = (13, []) := by
  unfold unw
  rw [if_neg (by omega), hd_len (by omega) hh (by omega), if_pos ⟨hh, hm⟩, if_neg (by omega), if_neg ht]
theorem unw_ok {zs : List Int} {m : Nat} (hm : m ≤ 32768) (hh : zs.take 4 = hd m) (hs : m + 8 ≤ zs.length) (ht : (zs.drop (4 + m)).take 4 = tl (Crc.add 0 ((zs.drop 4).take m))) : unw zs = (0, (zs.drop 4).take m) := by
  unfold unw
  rw [if_neg (by omega), hd_len (by omega) hh (by omega), if_pos ⟨hh, hm⟩, if_neg (by omega), if_pos ht]

/-- one of five things -/
theorem unw_cases (zs : List Int) : (zs.length < 4) ∨ (4 ≤ zs.length ∧ ∀ m, m ≤ 32768 → zs.take 4 ≠ hd m) ∨ (∃ m, 4 ≤ zs.length ∧ m ≤ 32768 ∧ zs.take 4 = hd m ∧ zs.length < m + 8) ∨
    (∃ m, m ≤ 32768 ∧ zs.take 4 = hd m ∧ m + 8 ≤ zs.length ∧ (zs.drop (4 + m)).take 4 ≠ tl (Crc.add 0 ((zs.drop 4).take m))) ∨
    (∃ m, m ≤ 32768 ∧ zs.take 4 = hd m ∧ m + 8 ≤ zs.length ∧ (zs.drop (4 + m)).take 4 = tl (Crc.add 0 ((zs.drop 4).take m))) := by
  by_cases h4 : zs.length < 4
  · exact .inl h4
  · by_cases hh : ∃ m, m ≤ 32768 ∧ zs.take 4 = hd m
    · obtain ⟨m, hm, hh⟩ := hh
      by_cases hs : zs.length < m + 8
      · exact .inr (.inr (.inl ⟨m, by omega, hm, hh, hs⟩))
      · by_cases ht : (zs.drop (4 + m)).take 4 = tl (Crc.add 0 ((zs.drop 4).take m))
        · exact .inr (.inr (.inr (.inr ⟨m, hm, hh, by omega, ht⟩)))
        · exact .inr (.inr (.inr (.inl ⟨m, hm, hh, by omega, ht⟩)))
    · exact .inr (.inl ⟨by omega, fun m hm he => hh ⟨m, hm, he⟩⟩)

theorem unw_fit (zs : List Int) (h : (unw zs).1 = 0) : (unw zs).2.length + 8 ≤ zs.length ∧ (unw zs).2.length ≤ 32768 := by
  rcases unw_cases zs with h1 | ⟨h1, h2⟩ | ⟨m, h1, h2, h3, h4⟩ | ⟨m, h1, h2, h3, h4⟩ | ⟨m, h1, h2, h3, h4⟩
  · rw [unw_short h1] at h; cases h
  · rw [unw_bad h1 h2] at h; cases h
  · rw [unw_cut h1 h2 h3 h4] at h; cases h
  · rw [unw_sum h1 h2 h3 h4] at h; cases h
  · rw [unw_ok h1 h2 h3 h4]; simp; omega
theorem unw_err (zs : List Int) (h : (unw zs).1 ≠ 0) : (unw zs).2 = [] := by
  rcases unw_cases zs with h1 | ⟨h1, h2⟩ | ⟨m, h1, h2, h3, h4⟩ | ⟨m, h1, h2, h3, h4⟩ | ⟨m, h1, h2, h3, h4⟩
  · rw [unw_short h1]
  · rw [unw_bad h1 h2]
  · rw [unw_cut h1 h2 h3 h4]
  · rw [unw_sum h1 h2 h3 h4]
  · rw [unw_ok h1 h2 h3 h4] at h; exact absurd rfl h
theorem unw_num (zs : List Int) : (unw zs).1 ≤ 13 := by
  rcases unw_cases zs with h1 | ⟨h1, h2⟩ | ⟨m, h1, h2, h3, h4⟩ | ⟨m, h1, h2, h3, h4⟩ | ⟨m, h1, h2, h3, h4⟩
  · rw [unw_short h1]; simp
  · rw [unw_bad h1 h2]; simp
  · rw [unw_cut h1 h2 h3 h4]; simp
  · rw [unw_sum h1 h2 h3 h4]; simp
  · rw [unw_ok h1 h2 h3 h4]; simp

theorem own_none (base : Nat) (w : World) : OwnB base w none 0 [] := ⟨World.ownsRow_nil _ _ _ _, fun _ h => by cases h⟩

theorem unwrap_any (p : Option Addr) (n c : Nat) (zs : List Int) (w : World) (hn : zs.length = n) (hB : Bytes w p zs) (hc : n ≤ c) (hcm : n ≤ 140737488355328) (hT : Tab w) :
    Calls Tryd.prog 84 #[.slice p n c] w fun e w' => ∃ a c', e = .returned (.tuple #[.slice a (unw zs).2.length c', .int .i64 (unwSize zs : Nat), .int .i64 ((unw zs).1 : Nat)]) ∧ OwnB w.heap.size w' a c' (unw zs).2 ∧ Below w.heap.size w w' := by
  have err : ∀ (k : Nat), unw zs = (k, []) → k ≠ 0 → (Calls Tryd.prog 84 #[.slice p n c] w fun e w' => e = .returned (.tuple #[.slice none 0 0, .int .i64 0, .int .i64 (k : Nat)]) ∧ Below w.heap.size w w') →
      Calls Tryd.prog 84 #[.slice p n c] w fun e w' => ∃ a c', e = .returned (.tuple #[.slice a (unw zs).2.length c', .int .i64 (unwSize zs : Nat), .int .i64 ((unw zs).1 : Nat)]) ∧ OwnB w.heap.size w' a c' (unw zs).2 ∧ Below w.heap.size w w' := by
    intro k hk h0 h
    refine h.mono ?_
    rintro e w' ⟨rfl, hb⟩
    have hs : unwSize zs = 0 := by unfold unwSize; rw [hk]; exact if_neg h0
    rw [hs, hk]
    exact ⟨none, 0, rfl, own_none _ _, hb⟩
  rcases unw_cases zs with h1 | ⟨h1, h2⟩ | ⟨m, h1, h2, h3, h4⟩ | ⟨m, h1, h2, h3, h4⟩ | ⟨m, h1, h2, h3, h4⟩
  · exact err 11 (unw_short h1) (by omega) (unwrap_short p n c w (by omega))
  · exact err 12 (unw_bad h1 h2) (by omega) (unwrap_bad p n c zs w hn hB (by omega) (by omega) h2)
  · exact err 11 (unw_cut h1 h2 h3 h4) (by omega) (unwrap_cut p n c m zs w hn hB (by omega) (by omega) h2 h3)
  · obtain ⟨b, o, rfl, _, _⟩ := hB.at_ (by omega)
    exact err 13 (unw_sum h1 h2 h3 h4) (by omega) (unwrap_sum b o n c m zs w hn hB hc hcm (by omega) h1 h2 hT h4)
  · obtain ⟨b, o, rfl, _, _⟩ := hB.at_ (by omega)
    refine (unwrap_ok b o n c m zs w hn hB hc hcm (by omega) h1 h2 hT h4).mono ?_
    rintro e w' ⟨a, c', rfl, hO, hb⟩
    have hk := unw_ok h1 h2 h3 h4
    have hl : ((zs.drop 4).take m).length = m := by simp; omega
    have hs : unwSize zs = m + 8 := by unfold unwSize; rw [hk]; simp only [if_true, hl]
    rw [hs, hk]
    refine ⟨a, c', ?_, hO, hb⟩
    simp only [hl]
    rfl

set_option maxHeartbeats 400000 in
theorem exact_core (p : Option Addr) (n c s k l : Nat) (zs : List Int) (w : World) (_hn : n ≤ 140737488355328) (hk : k ≤ 13) (_hs : s ≤ 140737488355328)
    (H : Hid (Calls Tryd.prog 84 #[.slice p n c] w fun e w' => ∃ a c', e = .returned (.tuple #[.slice a l c', .int .i64 (s : Nat), .int .i64 (k : Nat)]) ∧ OwnB w.heap.size w' a c' zs ∧ Below w.heap.size w w')) :
    Calls Tryd.prog 74 #[.slice p n c] w fun e w' => ((k ≠ 0 ∧ e = .returned (.tuple #[.slice none 0 0, .int .i64 (k : Nat)])) ∨ (k = 0 ∧ s < n ∧ e = .returned (.tuple #[.slice none 0 0, .int .i64 14])) ∨
      (k = 0 ∧ n ≤ s ∧ ∃ a c', e = .returned (.tuple #[.slice a l c', .int .i64 0]) ∧ OwnB w.heap.size w' a c' zs)) ∧ Below w.heap.size w w' := by
  by_cases h0 : k = 0
  · subst h0
    by_cases hl : s < n
    · go_enter Tryd.func74, Tryd.ntmps74
      go_wp2_with (go_at_call 84; refine H.out.mono ?_; rintro e w1 ⟨a, c', rfl, hO, hb⟩)
      go_ret2
      exact ⟨.inr (.inl ⟨trivial, hl, rfl⟩), hb⟩
    · go_enter Tryd.func74, Tryd.ntmps74
      go_wp2_with (go_at_call 84; refine H.out.mono ?_; rintro e w1 ⟨a, c', rfl, hO, hb⟩)
      go_ret2
      exact ⟨.inr (.inr ⟨trivial, by omega, _, _, rfl, hO⟩), hb⟩
  · have hne : ((k : Int) != 0) = true := by rw [bne_iff_ne]; omega
    go_enter Tryd.func74, Tryd.ntmps74
    go_wp2_with (go_at_call 84; refine H.out.mono ?_; rintro e w1 ⟨a, c', rfl, hO, hb⟩)
    go_ret2
    exact ⟨.inl ⟨h0, rfl⟩, hb⟩

theorem exact_any (p : Option Addr) (n c : Nat) (zs : List Int) (w : World) (hn : zs.length = n) (hB : Bytes w p zs) (hc : n ≤ c) (hcm : n ≤ 140737488355328) (hT : Tab w) :
    Calls Tryd.prog 74 #[.slice p n c] w fun e w' => ∃ a c', e = .returned (.tuple #[.slice a (exa zs).2.length c', .int .i64 ((exa zs).1 : Nat)]) ∧ OwnB w.heap.size w' a c' (exa zs).2 ∧ Below w.heap.size w w' := by
  have hsz : unwSize zs ≤ 140737488355328 := by
    unfold unwSize; split
    · have := unw_fit zs (by assumption); omega
    · omega
  refine (exact_core p n c (unwSize zs) (unw zs).1 (unw zs).2.length (unw zs).2 w (by omega) (unw_num zs) hsz (unwrap_any p n c zs w hn hB hc hcm hT)).mono ?_
  rintro e w' ⟨⟨hk, rfl⟩ | ⟨hk, hl, rfl⟩ | ⟨hk, hl, a, c', rfl, hO⟩, hb⟩
  · have he : exa zs = ((unw zs).1, []) := by unfold exa; rw [if_neg hk]
    rw [he]
    exact ⟨none, 0, rfl, own_none _ _, hb⟩
  · have hs : unwSize zs = (unw zs).2.length + 8 := by unfold unwSize; rw [if_pos hk]
    have he : exa zs = (14, []) := by unfold exa; rw [if_pos hk, if_pos (by omega)]
    rw [he]
    exact ⟨none, 0, rfl, own_none _ _, hb⟩
  · have hs : unwSize zs = (unw zs).2.length + 8 := by unfold unwSize; rw [if_pos hk]
    have he : exa zs = (0, (unw zs).2) := by unfold exa; rw [if_pos hk, if_neg (by omega)]
    rw [he]
    exact ⟨a, c', rfl, hO, hb⟩
end Go.Proofs.YtgnamngnmbaeeaaDoor

namespace Go.Proofs.YtgnamngnmbaeeaaDoor
open Go.RowKit
set_option maxRecDepth 8000

/-- the frame of a body -/
def frameOf (zs : List Int) : List Int := hd zs.length ++ zs ++ tl (Crc.add 0 zs)

theorem frameOf_length (zs : List Int) : (frameOf zs).length = zs.length + 8 := by simp [frameOf, hd, tl]
theorem frameOf_byte (zs : List Int) (hm : zs.length ≤ 32768) (hb : ∀ z ∈ zs, 0 ≤ z ∧ z < 256) : ∀ z ∈ frameOf zs, 0 ≤ z ∧ z < 256 :=
  frame_bytes _ (by omega) zs hb _ (by unfold Crc.add Crc.ones; omega)
theorem take4_hd (m : Nat) (r : List Int) : (hd m ++ r).take 4 = hd m := rfl
theorem drop4_hd (m : Nat) (r : List Int) : (hd m ++ r).drop 4 = r := rfl
theorem take4_tl (s : Nat) (r : List Int) : (tl s ++ r).take 4 = tl s := rfl

theorem unw_frame (zs r : List Int) (hm : zs.length ≤ 32768) : unw (frameOf zs ++ r) = (0, zs) := by
  have e : frameOf zs ++ r = hd zs.length ++ (zs ++ (tl (Crc.add 0 zs) ++ r)) := by simp [frameOf]
  have hb : ((frameOf zs ++ r).drop 4).take zs.length = zs := by rw [e, drop4_hd]; simp
  have h := unw_ok (zs := frameOf zs ++ r) (m := zs.length) hm (by rw [e]; exact take4_hd _ _) (by rw [List.length_append, frameOf_length]; omega)
    (by rw [hb, ← List.drop_drop, e, drop4_hd, List.drop_left]; exact take4_tl _ _)
  rw [h, hb]

theorem exa_frame (zs : List Int) (hm : zs.length ≤ 32768) : exa (frameOf zs) = (0, zs) := by
  have h := unw_frame zs [] hm
  rw [List.append_nil] at h
  unfold exa
  rw [h]
  simp [frameOf_length]
theorem exa_frame_more (zs r : List Int) (hm : zs.length ≤ 32768) (hr : 0 < r.length) : exa (frameOf zs ++ r) = (14, []) := by
  unfold exa
  rw [unw_frame zs r hm, if_pos rfl, if_pos (by rw [List.length_append, frameOf_length]; show zs.length + 8 < _; omega)]
end Go.Proofs.YtgnamngnmbaeeaaDoor
