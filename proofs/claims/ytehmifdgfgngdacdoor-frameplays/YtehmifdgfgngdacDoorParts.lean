import Derived.Test.YtehmifdgfgngdacDoorOwn
import Derived.Laws.CopyOwn
import Derived.Deep.RegionLaw
namespace Go.Proofs.YtehmifdgfgngdacDoor
open Go.RowKit

/-- the four bytes of a head -/
def hd (n : Nat) : List Int := [(n : Int) % 256, (n : Int) / 256, (65535 - (n : Int)) % 256, (65535 - (n : Int)) / 256]
/-- the four bytes of a sum -/
def tl (s : Nat) : List Int := [(s : Int) % 256, (s : Int) / 256 % 256, (s : Int) / 65536 % 256, (s : Int) / 16777216]

set_option maxHeartbeats 400000 in
theorem headOf_any (n : Nat) (hn : n ≤ 65535) (w : World) :
    Calls Tryd.prog 52 #[.int .i64 (n : Int)] w fun e w' => e = .returned (.agg #[.int .u8 ((n : Int) % 256), .int .u8 ((n : Int) / 256), .int .u8 ((65535 - (n : Int)) % 256), .int .u8 ((65535 - (n : Int)) / 256)]) ∧ Below w.heap.size w w' := by
  go_enter Tryd.func52, Tryd.ntmps52
  go_wp2
  exact bodyPost_ret (v := .agg #[.int .u8 ((n : Int) % 256), .int .u8 ((n : Int) / 256), .int .u8 ((65535 - (n : Int)) % 256), .int .u8 ((65535 - (n : Int)) / 256)]) (by simp [results, Tryd.results52, go_sem]) rfl ⟨rfl, (Below.refl _ _).alloc (Nat.le_refl _) _⟩

set_option maxHeartbeats 400000 in
theorem tailOf_any (s : Nat) (hs : s < 4294967296) (w : World) :
    Calls Tryd.prog 53 #[.int .u32 (s : Int)] w fun e w' => e = .returned (.agg #[.int .u8 ((s : Int) % 256), .int .u8 ((s : Int) / 256 % 256), .int .u8 ((s : Int) / 65536 % 256), .int .u8 ((s : Int) / 16777216)]) ∧ Below w.heap.size w w' := by
  go_enter Tryd.func53, Tryd.ntmps53
  go_wp2
  exact bodyPost_ret (v := .agg #[.int .u8 ((s : Int) % 256), .int .u8 ((s : Int) / 256 % 256), .int .u8 ((s : Int) / 65536 % 256), .int .u8 ((s : Int) / 16777216)]) (by simp [results, Tryd.results53, go_sem]) rfl ⟨rfl, (Below.refl _ _).alloc (Nat.le_refl _) _⟩

set_option maxHeartbeats 400000 in
theorem sizeOf_any (n : Nat) (hn : n ≤ 65535) (w : World) :
    Calls Tryd.prog 54 #[.int .i64 (n : Int)] w fun e w' => e = .returned (.int .i64 ((n : Int) + 8)) ∧ w' = w := by
  go_enter Tryd.func54, Tryd.ntmps54
  go_wp2
  go_ret
  exact ⟨by go_num, rfl⟩

set_option maxHeartbeats 400000 in
theorem wrap_long (p : Option Addr) (n c : Nat) (w : World) (hn : 32768 < n) (hm : n ≤ 140737488355328) :
    Calls Tryd.prog 23 #[.slice p n c] w fun e w' => e = .returned (.tuple #[.slice none 0 0, .int .i64 10]) ∧ w' = w := by
  go_enter Tryd.func23, Tryd.ntmps23
  go_wp2_with fail
  go_ret2
  exact ⟨rfl, rfl⟩

theorem block_cells {w : World} {g : Nat} {cs : Array Value} {t : TypeId} {f : Nat × Nat} (h : w.heap[g]? = some (.cells cs t f)) : ∀ j u, cs.toList[j]? = some u → w.cell? ((⟨g, 0, none⟩ : Addr).add j) = some u := by
  intro j u hj
  rw [Go.WideShapes.add_plain]
  simp [World.cell?, h]
  simpa using hj

theorem wrap_made {w w2 w3 : World} {n : Nat} {A B : Array Value} (hb : Below w.heap.size w w2)
    (ho : w3.ownsRow w.heap.size 5 1 (Value.slice (some { block := w2.heap.size + 1 + 1, off := 0 }) (n + 8) (n + 8)) (n + 8) (madeCells #[Value.int IntKind.u8 0] (n + 8)).toList)
    (hg : ((w2.alloc (Obj.cells A 80)).alloc (Obj.cells B 80)).grownBy w3 none) :
    w3.heap[w2.heap.size + 1 + 1]? = some (.cells (List.replicate (n + 8) (Value.int .u8 0)).toArray 5 (0, 0)) ∧ w3.heap[w2.heap.size]? = some (.cells A 80 (0, 0)) ∧ w3.heap[w2.heap.size + 1]? = some (.cells B 80 (0, 0)) ∧
      Below w.heap.size w w3 ∧ w2.heap.size + 1 + 1 < w3.heap.size := by
  have hs := hb.size
  have hbel : Below w.heap.size w w3 := ((hb.alloc hs _).alloc (by simp; omega) _).grown hg (by simp; omega) (fun k hk => by cases hk)
  have hz : w3.heap[w2.heap.size + 1 + 1]? = some (.cells (List.replicate (n + 8) (Value.int .u8 0)).toArray 5 (0, 0)) := by
    obtain ⟨_, ⟨hv, _⟩ | ⟨g, cap, cur, hv, _, hh, _, _, hsz, ht⟩⟩ := ho
    · cases hv
    · simp only [Value.slice.injEq, Option.some.injEq, Addr.mk.injEq] at hv
      obtain ⟨⟨rfl, _⟩, _, rfl⟩ := hv
      rw [hh]
      have e : cur.toList = List.replicate (n + 8) (Value.int .u8 0) := by
        rw [toList_madeCells_one, List.take_of_length_le (by simp [hsz])] at ht
        exact ht
      rw [← e]
  refine ⟨hz, ?_, ?_, hbel, ?_⟩
  · rw [hg.block _ (by simp; omega) (by simp), Below.heap_alloc _ _ _ (by simp)]
    show (w2.heap.push _)[w2.heap.size]? = _
    simp
  · rw [hg.block _ (by simp) (by simp)]
    show (Array.push (w2.alloc _).heap _)[w2.heap.size + 1]? = _
    rw [Array.getElem?_push, if_pos (by simp)]
  · rcases Nat.lt_or_ge (w2.heap.size + 1 + 1) w3.heap.size with h1 | h1
    · exact h1
    · rw [Array.getElem?_eq_none h1] at hz; cases hz

theorem own_of_block {base : Nat} {w : World} {g k : Nat} {zs : List Int} (h : w.heap[g]? = some (.cells (zs.map (Value.int .u8)).toArray 5 (0, 0))) (hk : zs.length = k) (hb : base ≤ g) (hm : k ≤ maxLen) (hby : ∀ z ∈ zs, 0 ≤ z ∧ z < 256) :
    OwnB base w (some ⟨g, 0, none⟩) k zs := by
  subst hk
  exact ⟨⟨by simp, .inr ⟨g, zs.length, _, rfl, hb, h, Nat.le_refl _, hm, (by simp), (by simp; exact List.take_of_length_le (by simp))⟩⟩, hby⟩

theorem hd_byte (n : Nat) (hn : n ≤ 65535) : ∀ z ∈ hd n, 0 ≤ z ∧ z < 256 := by
  intro z hz
  simp only [hd, List.mem_cons, List.not_mem_nil, or_false] at hz
  rcases hz with rfl | rfl | rfl | rfl <;> omega
theorem tl_byte (s : Nat) (hs : s < 4294967296) : ∀ z ∈ tl s, 0 ≤ z ∧ z < 256 := by
  intro z hz
  simp only [tl, List.mem_cons, List.not_mem_nil, or_false] at hz
  rcases hz with rfl | rfl | rfl | rfl <;> omega
theorem frame_bytes (n : Nat) (hn : n ≤ 65535) (zs : List Int) (hz : ∀ z ∈ zs, 0 ≤ z ∧ z < 256) (s : Nat) (hs : s < 4294967296) : ∀ z ∈ hd n ++ zs ++ tl s, 0 ≤ z ∧ z < 256 := by
  intro z h
  rcases List.mem_append.1 h with h | h
  · rcases List.mem_append.1 h with h | h
    · exact hd_byte n hn z h
    · exact hz z h
  · exact tl_byte s hs z h

set_option maxHeartbeats 1000000 in
theorem wrap_short (p : Option Addr) (n c : Nat) (zs : List Int) (w : World) (hn : zs.length = n) (hB : Bytes w p zs) (_hp : p = none → n = 0 ∧ c = 0) (hT : Tab w) (hm : n ≤ 32768) :
    Calls Tryd.prog 23 #[.slice p n c] w fun e w' => ∃ a c', e = .returned (.tuple #[.slice a (n + 8) c', .int .i64 0]) ∧ OwnB w.heap.size w' a c' (hd n ++ zs ++ tl (Crc.add 0 zs)) ∧ Below w.heap.size w w' := by
  have hs : Crc.add 0 zs < 4294967296 := by unfold Crc.add Crc.ones; omega
  have HS : Hid (∀ w1, Below w.heap.size w w1 → Calls Tryd.prog 9 #[.slice p n c] w1 fun e w' => e = .returned (.int .u32 (Crc.add 0 zs : Nat)) ∧ w' = w1) := fun w1 h => sum_any p n c zs w1 hn (hB.later h) (by omega) (hT.later h)
  have HB : Hid (∀ w1, Below w.heap.size w w1 → Bytes w1 p zs) := fun w1 h => hB.later h
  have HY2 : Hid (∀ z ∈ hd n ++ zs ++ tl (Crc.add 0 zs), 0 ≤ z ∧ z < 256) := frame_bytes n (by omega) zs hB.byte _ hs
  clear hB hT
  generalize Crc.add 0 zs = s at *
  go_enter Tryd.func23, Tryd.ntmps23
  go_wp2_with fail
  refine (headOf_any n (by omega) _).mono ?_
  rintro e w1 ⟨rfl, hb1⟩
  go_wp2_with fail
  refine (HS.out w1 hb1).mono ?_
  rintro e w' ⟨rfl, rfl⟩
  go_wp2_with fail
  refine (tailOf_any s hs _).mono ?_
  rintro e w2 ⟨rfl, hb2⟩
  go_wp2_with fail
  refine (sizeOf_any n (by omega) _).mono ?_
  rintro e w3 ⟨rfl, rfl⟩
  obtain ⟨i0, hi, hz0, hz1, hz2⟩ := info_parts info5
  go_wp2_with (at_make; refine wpList_make_full _ rfl _ _ 24 rfl w.heap.size 5 i0 (.int .u8 0) 1 Tryd.underlying24 hi hz0 hz1 _ _ _ _ (n + 8) rfl rfl (by omega) (by omega) (by rw [hz2]; omega) (by unfold maxLen; omega) (by have := hb1.size; have := hb2.size; simp; omega) ?_)
  intro w3 ho3 hg3
  obtain ⟨hz, hh, ht, hb3, hsz3⟩ := wrap_made (hb1.trans (hb2.mono hb1.size)) ho3 hg3
  have hsz2 : w.heap.size ≤ w2.heap.size := Nat.le_trans hb1.size hb2.size
  clear ho3 hg3 hb1 hb2 HS
  obtain ⟨X1, HX1⟩ : ∃ X1, Hid (X1 = (hd n).map (Value.int .u8)) := ⟨_, rfl⟩
  obtain ⟨Y, HY⟩ : ∃ Y, Hid (Y = zs.map (Value.int .u8)) := ⟨_, rfl⟩
  obtain ⟨X2, HX2⟩ : ∃ X2, Hid (X2 = (tl s).map (Value.int .u8)) := ⟨_, rfl⟩
  obtain ⟨Z, HZ⟩ : ∃ Z : List Value, Hid (Z = List.replicate (n + 8) (Value.int .u8 0)) := ⟨_, rfl⟩
  have hz' : w3.heap[w2.heap.size + 1 + 1]? = some (.cells Z.toArray 5 (0, 0)) := by rw [HZ.out]; exact hz
  have lX1 : X1.length = 4 := by rw [HX1.out]; rfl
  have lX2 : X2.length = 4 := by rw [HX2.out]; rfl
  have lY : Y.length = n := by rw [HY.out]; simpa using hn
  have lZ : Z.length = n + 8 := by rw [HZ.out]; simp
  have oX1 : ∀ u ∈ X1, u.oneCell' = true := by rw [HX1.out]; exact ints_oneCell _ _
  have oX2 : ∀ u ∈ X2, u.oneCell' = true := by rw [HX2.out]; exact ints_oneCell _ _
  have oY : ∀ u ∈ Y, u.oneCell' = true := by rw [HY.out]; exact ints_oneCell _ _
  have S1 : Hid (∀ j u, X1[j]? = some u → w3.cell? ((⟨w2.heap.size, 0, none⟩ : Addr).add j) = some u) := by
    rw [HX1.out]; exact block_cells hh
  have S2 : Hid (∀ w', Below (w2.heap.size + 1 + 1) w3 w' → ∀ j u, X2[j]? = some u → w'.cell? ((⟨w2.heap.size + 1, 0, none⟩ : Addr).add j) = some u) := by
    intro w' hb; rw [HX2.out]; exact block_cells ((hb.block (w2.heap.size + 1) (by omega)).trans ht)
  have S3 : Hid (∀ w', Below (w2.heap.size + 1 + 1) w3 w' → 0 < Y.length → ∃ ad, p = some ad ∧ ∀ j u, Y[j]? = some u → w'.cell? (ad.add j) = some u) := by
    intro w' hb hpos
    rw [HY.out]
    exact (HB.out w' (hb3.trans (hb.mono (by omega)))).src (by omega)
  clear hz hh ht HB
  have N1 : Hid (X1.length = Nat.min 4 (n + 8)) := by rw [lX1]; exact (Nat.min_eq_left (by omega)).symm
  have N2 : Hid (Y.length = Nat.min n (n + 4)) := by rw [lY]; exact (Nat.min_eq_left (by omega)).symm
  have N3 : Hid (X2.length = Nat.min 4 4) := lX2
  have F1 : Hid (0 + X1.length ≤ Z.length) := by rw [lX1, lZ]; show 0 + 4 ≤ n + 8; omega
  have F2 : Hid (4 + Y.length ≤ (splice Z 0 X1).length) := by show _ ≤ _; rw [length_splice _ _ _ F1.out, lY, lZ]; omega
  have F3 : Hid (4 + n + X2.length ≤ (splice (splice Z 0 X1) 4 Y).length) := by show _ ≤ _; rw [length_splice _ _ _ F2.out, length_splice _ _ _ F1.out, lX2, lZ]; omega
  have FZ : Hid (splice (splice (splice Z 0 X1) 4 Y) (4 + n) X2 = (hd n ++ zs ++ tl s).map (Value.int .u8)) := by
    show _ = _
    rw [splice_splice_splice Z X1 Y X2 4 n lX1 lY (by rw [lZ, lX2]; omega), HX1.out, HY.out, HX2.out]; simp
  go_wp2_with (refine wpList_copy_splice rfl (.tmp 20) (.tmp 21) 24 24 rfl 5 Tryd.underlying24 (by rw [hi]; simp [hz1]) _ _ _ _ _ _ rfl rfl (w2.heap.size + 1 + 1) 0 Z 5 hz' X1 N1.out (fun _ => ⟨rfl, _, rfl, S1.out⟩) F1.out oX1 (w2.heap.size + 1 + 1) w3 (Below.refl _ _) (Nat.le_refl _) ?_)
  intro w4 hg4 hb4
  clear hz'
  go_wp2_with (refine wpList_copy_splice rfl (.tmp 24) (.tmp 25) 24 24 rfl 5 Tryd.underlying24 (by rw [hi]; simp [hz1]) _ _ _ _ _ _ rfl rfl (w2.heap.size + 1 + 1) 4 (splice Z 0 X1) 5 hg4.out Y N2.out (fun h => ⟨rfl, S3.out w4 hb4 h⟩) F2.out oY (w2.heap.size + 1 + 1) w3 hb4 (Nat.le_refl _) ?_)
  intro w5 hg5 hb5
  clear hg4 hb4
  go_wp2_with fail
  obtain ⟨m, hmn⟩ : ∃ m : Nat, m = 4 + n := ⟨_, rfl⟩
  have q1 : IntKind.i64.wrap (4 + (n : Int)) = (m : Int) := by rw [IntKind.wrap_i64]; omega
  have q2 : (m : Int) ≤ (n : Int) + 8 := by omega
  have q3 : (n + 8 = m) = False := by simp; omega
  have q4 : n + 8 - m = 4 := by omega
  have HM : Hid (m = 4 + n) := hmn
  have HI : Hid ((Tryd.prog.info? 5).map (·.size) = some 1) := by rw [hi]; show some i0.size = _; rw [hz1]
  rw [← hmn] at F3 FZ
  clear hmn
  go_region_law (refine step_copy_splice rfl (.tmp 30) (.tmp 31) 24 24 rfl 5 Tryd.underlying24 HI.out (some ⟨w2.heap.size + 1 + 1, m, none⟩) (some ⟨w2.heap.size + 1, 0, none⟩) 4 4 4 4 rfl rfl (w2.heap.size + 1 + 1) m (splice (splice Z 0 X1) 4 Y) 5 hg5.out X2 N3.out (fun _ => ⟨rfl, _, rfl, S2.out _ hb5.drew⟩) F3.out oX2 (w2.heap.size + 1 + 1) w3 hb5.drew (Nat.le_refl _) ?_; intro w6 hg6 hb6)
  all_goals
    have hO : OwnB w.heap.size w6 (some ⟨w2.heap.size + 1 + 1, 0, none⟩) (n + 8) (hd n ++ zs ++ tl s) := by
      refine own_of_block (by have := hg6.out; rw [FZ.out] at this; exact this) (by simp [hd, tl, hn]) (by omega) (by unfold maxLen; omega) HY2.out
    have hbl : Below w.heap.size w w6 := hb3.trans (hb6.mono (by omega))
    have HO : Hid (OwnB w.heap.size w6 (some ⟨w2.heap.size + 1 + 1, 0, none⟩) (n + 8) (hd n ++ zs ++ tl s)) := hO
    clear hO hg6 hb6 hg5 hb5 S1 S2 S3 hb3 F1 F2 F3 FZ N1 N2 N3 HX1 HX2 HY HZ
    go_wp2
    go_ret2
    exact ⟨_, _, rfl, HO.out, hbl⟩
end Go.Proofs.YtehmifdgfgngdacDoor
