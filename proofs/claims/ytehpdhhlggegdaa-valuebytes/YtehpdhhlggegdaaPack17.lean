import Derived.Test.YtehpdhhlggegdaaPack9
namespace Go.Proofs.Ytehpdhhlggegdaa
open Go.RowKit
set_option maxRecDepth 8000

set_option maxHeartbeats 2000000 in
theorem rank_int (s : ByteArray) (n len : Nat) (g c i : Nat) (j0 : Int) (p : Option Addr) (cc : Nat) (f : Nat → VT) (w : World) (hi : i < len) (hlen : len ≤ 12) (_hg : g < w.heap.size)
    (c0 : w.cell? ⟨g, i * 4, none⟩ = some (.int .i64 1)) (c1 : w.cell? ⟨g, i * 4 + 1, none⟩ = some (.int .i64 j0)) (c2 : w.cell? ⟨g, i * 4 + 2, none⟩ = some (.string s)) (c3 : w.cell? ⟨g, i * 4 + 3, none⟩ = some (.int .i64 n)) (hn : n = 0) (hj : -9223372036854775808 ≤ j0) (hj2 : j0 ≤ 9223372036854775807) :
    Calls Try.prog 45 #[.slice (some ⟨g, 0, none⟩) len c, .int .i64 i] w fun r w' => RankPost w (.mk 1 j0 s n p cc f) i r w' := by
  have hi' : (i : Int) < (len : Int) := by omega
  obtain ⟨i0, Kd⟩ := kindB
  subst hn
  have HP := fun W => place_any j0 hj hj2 W
  clear hj hj2
  go_enter Try.func45, Try.ntmps45
  go_wp2_with fail
  refine (HP _).mono ?_
  rintro e w1 ⟨v1, rfl, ho1, hb1⟩
  have hO1 : OwnBy _ w1 v1 (placeB j0) := ho1
  obtain ⟨b1, cp, hv1, hbb, hbl, hcell⟩ := hO1.slice (by simp [placeB, be8])
  have hR : OwnBy (w.heap.size + 1) w1 (.slice (some ⟨w.heap.size + 1, 0, none⟩) 1 1) [2] := by
    have h := row_one (w.alloc (.cells #[.int .i64 1, .int .i64 j0, .string s, .int .i64 0] 93)) 2
    rw [show (w.alloc (.cells #[.int .i64 1, .int .i64 j0, .string s, .int .i64 0] 93)).heap.size = w.heap.size + 1 by simp] at h
    exact OwnBy.below h hb1
  have hbw1 : Below w.heap.size w w1 := (((Below.refl w.heap.size w).alloc (Nat.le_refl _) _).alloc (by simp) _).trans (hb1.mono (by simp; omega))
  have hs1 : w.heap.size + 2 ≤ w1.heap.size := by have := hb1.size; simpa using this
  subst hv1
  have HN : Hid (∀ j u, ((placeB j0).map (Value.int .u8))[j]? = some u → w1.cell? ((⟨b1, 0, none⟩ : Addr).add j) = some u) := hcell
  have hlen8 : (placeB j0).length = 8 := by simp [placeB, be8]
  rw [hlen8]
  clear hcell ho1 hO1 hb1 HP
  go_wp2_with (at_builtin; refine wpList_app rfl (.tmp 28) (.tmp 31) 62 5 i0 _ 1 1 Kd rfl (w.heap.size + 1) (.slice (some ⟨w.heap.size + 1, 0, none⟩) 1 1) 1 [.int .u8 2] rfl hR ⟨b1, 0, none⟩ 8 cp ((placeB j0).map (Value.int .u8)) rfl ?_ HN.out (ints_oneCell _ _) ?_ ?_ ?_ ?_)
  · simp [hlen8]
  · omega
  · omega
  · omega
  intro v2 w2 ho2 hg2 hn2
  have hO2 : OwnBy (w.heap.size + 1) w2 v2 ([2] ++ placeB j0) := hR.app (by rw [hlen8]; exact ho2)
  have hbw2 : Below w.heap.size w w2 := hbw1.grown hg2 (by omega) (fun k hk => by have := (World.ownsRow.lt hR k hk).1; omega)
  clear ho2 hg2 hn2 hR HN hlen8
  go_wp2
  go_ret2
  refine ⟨v2, rfl, ?_, hbw2⟩
  exact ownsRow_mono hO2 (by omega)
end Go.Proofs.Ytehpdhhlggegdaa

namespace Go.Proofs.Ytehpdhhlggegdaa
open Go.RowKit
set_option maxRecDepth 8000

theorem news2 (w : World) (a b : Value) (e : TypeId) : ∀ j u, [a, b][j]? = some u → (w.alloc (.cells #[a, b] e)).cell? ((⟨w.heap.size, 0, none⟩ : Addr).add j) = some u := by
  intro j u h
  rw [cell_new, ← h]
  simp
set_option maxHeartbeats 2000000 in
theorem rank_text (s : ByteArray) (n len : Nat) (g c i : Nat) (j0 : Int) (p : Option Addr) (cc : Nat) (f : Nat → VT) (w : World) (hi : i < len) (hlen : len ≤ 12)
    (c0 : w.cell? ⟨g, i * 4, none⟩ = some (.int .i64 2)) (c1 : w.cell? ⟨g, i * 4 + 1, none⟩ = some (.int .i64 j0)) (c2 : w.cell? ⟨g, i * 4 + 2, none⟩ = some (.string s)) (c3 : w.cell? ⟨g, i * 4 + 3, none⟩ = some (.int .i64 n)) (hn : n = 0) (hs : s.size ≤ 24) :
    Calls Try.prog 45 #[.slice (some ⟨g, 0, none⟩) len c, .int .i64 i] w fun r w' => RankPost w (.mk 2 j0 s n p cc f) i r w' := by
  have hi' : (i : Int) < (len : Int) := by omega
  obtain ⟨i0, Kd⟩ := kindB
  subst hn
  have hW : Below w.heap.size w ((w.alloc (.cells #[.int .i64 2, .int .i64 j0, .string s, .int .i64 0] 93)).alloc (.cells #[.int .u8 3] 5)) := ((Below.refl _ _).alloc (Nat.le_refl _) _).alloc (by simp) _
  have hP : Box ((w.alloc (.cells #[.int .i64 2, .int .i64 j0, .string s, .int .i64 0] 93)).alloc (.cells #[.int .u8 3] 5)) w.heap.size #[.int .i64 2, .int .i64 j0, .string s, .int .i64 0] 93 := (Box.new w _ 93).below ((Below.refl _ _).alloc (Nat.le_refl _) _)
  have hR : OwnBy (w.heap.size + 1) ((w.alloc (.cells #[.int .i64 2, .int .i64 j0, .string s, .int .i64 0] 93)).alloc (.cells #[.int .u8 3] 5)) (.slice (some ⟨w.heap.size + 1, 0, none⟩) 1 1) ([3] ++ escB (s.data.toList.take 0)) := by
    have h := row_one (w.alloc (.cells #[.int .i64 2, .int .i64 j0, .string s, .int .i64 0] 93)) 3
    rw [show (w.alloc (.cells #[.int .i64 2, .int .i64 j0, .string s, .int .i64 0] 93)).heap.size = w.heap.size + 1 by simp] at h
    exact h
  go_enter Try.func45, Try.ntmps45
  go_wp2_with fail
  go_loopw [7, 9] (fun v x wr => ∃ k : Nat, k ≤ s.size ∧ x = .int .i64 k ∧ OwnBy (w.heap.size + 1) wr v ([3] ++ escB (s.data.toList.take k)) ∧ Box wr w.heap.size #[.int .i64 2, .int .i64 j0, .string s, .int .i64 0] 93 ∧ Below w.heap.size w wr) (fun _ x _ => s.size - (intOf x).toNat)
  case atStart => exact ⟨0, by omega, rfl, hR, hP, hW⟩
  case round =>
    obtain ⟨k, hk, rfl, hRk, hPk, hbk⟩ := hrel
    clear hR hP hW c0 c1 c2 c3
    have x2 := hPk.cell 2
    simp at x2
    by_cases hlt : k < s.size
    · have hlt' : (k : Int) < (s.size : Int) := by omega
      obtain ⟨x, HX⟩ : ∃ x : UInt8, Hid (s[k] = x) := ⟨s[k], by unfold Hid; rfl⟩
      have HT : Hid (s.data.toList.take (k + 1) = s.data.toList.take k ++ [x]) := by
        have h1 : k < s.data.toList.length := by simpa using hlt
        unfold Hid
        rw [List.take_add_one, List.getElem?_eq_getElem h1, ← HX.out]
        rfl
      have HE : ∀ l, Hid ([3] ++ escB (l ++ [x]) = [3] ++ escB l ++ (if x.toNat = 0 then [0, 255] else [(x.toNat : Int)])) := fun l => by
        unfold Hid escB; rw [List.flatMap_append]; simp
      have HE1 := HE (s.data.toList.take k)
      rw [← HT.out] at HE1
      obtain ⟨Z, HZ⟩ : ∃ Z, Hid ([3] ++ escB (s.data.toList.take k) = Z) := ⟨[3] ++ escB (s.data.toList.take k), by unfold Hid; rfl⟩
      have HZl : Hid (Z.length ≤ 60) := by
        have := esc_len (s.data.toList.take k)
        have h2 : (s.data.toList.take k).length ≤ k := by simp; omega
        unfold Hid; rw [← HZ.out]
        simp only [List.length_append, List.length_cons, List.length_nil]; omega
      rw [HZ.out] at HE1 hRk
      have hex : (s[k].toNat : Int) = (x.toNat : Int) := by rw [HX.out]
      clear HE HT HZ HX
      by_cases hz : x.toNat = 0
      · have hex0 : (s[k].toNat : Int) = 0 := by rw [hex, hz]; rfl
        rw [if_pos hz] at HE1
        clear hex hz
        have hRk' := hRk
        unfold OwnBy at hRk'
        go_wp2_with (at_builtin; refine wpList_app rfl (.tmp 42) (.tmp 47) 62 5 i0 _ 1 1 Kd rfl (w.heap.size + 1) u7 Z.length _ rfl (hRk'.alloc _) ⟨wr.heap.size, 0, none⟩ 1 1 [.int .u8 _] rfl rfl (cell_one_new _ _ _) ?_ ?_ ?_ ?_ ?_)
        · exact ints_oneCell .u8 [_]
        · have := HZl.out; omega
        · have := HZl.out; omega
        · have h := size_le_alloc wr (.cells #[.int .u8 0] 5); have := hPk.lt; omega
        intro v1 w1 ho hg hn
        have hR1 : OwnBy (w.heap.size + 1) w1 v1 (Z ++ [0]) := OwnBy.app (ys := [0]) hRk' ho
        have hblk : ∀ y, y < w.heap.size + 1 → y < wr.heap.size → w1.heap[y]? = wr.heap[y]? := fun y hy hl => (hg.block y (Nat.lt_of_lt_of_le hl (size_le_alloc _ _)) (fun e => by have := (World.ownsRow.lt hRk' y e.symm).1; omega)).trans (Below.heap_alloc _ _ _ hl)
        have hP1 : Box w1 w.heap.size #[.int .i64 2, .int .i64 j0, .string s, .int .i64 0] 93 := hPk.kept (hblk _ (by omega) hPk.lt)
        have hb1 : Below w.heap.size w w1 := (hbk.alloc hbk.size _).grown hg (Nat.le_trans hbk.size (size_le_alloc _ _)) (fun y hy => by have := (World.ownsRow.lt hRk' y hy).1; omega)
        clear ho hg hn hblk
        have x21 := hP1.cell 2
        simp at x21
        have hR1' := hR1
        unfold OwnBy at hR1'
        obtain ⟨Z1, HZ1⟩ : ∃ Z1, Hid (Z ++ [0] = Z1) := ⟨Z ++ [0], by unfold Hid; rfl⟩
        have HZl2 : Hid (Z1.length ≤ 61) := by unfold Hid; rw [← HZ1.out]; have := HZl.out; simp; omega
        rw [HZ1.out] at hR1'
        clear hR1 hRk hRk' x2 HZl
        have HZl := HZl2
        go_wp2_with (at_builtin; refine wpList_app rfl (.tmp 54) (.tmp 55) 62 5 i0 _ 1 1 Kd rfl (w.heap.size + 1) v1 Z1.length _ rfl (hR1'.alloc _) ⟨w1.heap.size, 0, none⟩ 1 1 [.int .u8 _] rfl rfl (cell_one_new _ _ _) ?_ ?_ ?_ ?_ ?_)
        · exact ints_oneCell .u8 [_]
        · have := HZl.out; omega
        · have := HZl.out; omega
        · have h := size_le_alloc w1 (.cells #[.int .u8 255] 5); have := hP1.lt; omega
        intro v2 w2 ho hg hn
        have hR2 : OwnBy (w.heap.size + 1) w2 v2 (Z1 ++ [255]) := OwnBy.app (ys := [255]) hR1' ho
        have hblk : ∀ y, y < w.heap.size + 1 → y < w1.heap.size → w2.heap[y]? = w1.heap[y]? := fun y hy hl => (hg.block y (Nat.lt_of_lt_of_le hl (size_le_alloc _ _)) (fun e => by have := (World.ownsRow.lt hR1' y e.symm).1; omega)).trans (Below.heap_alloc _ _ _ hl)
        have hP2 : Box w2 w.heap.size #[.int .i64 2, .int .i64 j0, .string s, .int .i64 0] 93 := hP1.kept (hblk _ (by omega) hP1.lt)
        have hb2 : Below w.heap.size w w2 := (hb1.alloc hb1.size _).grown hg (Nat.le_trans hb1.size (size_le_alloc _ _)) (fun y hy => by have := (World.ownsRow.lt hR1' y hy).1; omega)
        clear ho hg hn hblk
        have HR2 : Hid (OwnBy (w.heap.size + 1) w2 v2 ([3] ++ escB (s.data.toList.take (k + 1)))) := by
          unfold Hid
          rw [HE1.out]
          rw [← HZ1.out, List.append_assoc] at hR2
          exact hR2
        clear hR1' x21 hR2 hP1 hb1
        go_wp2
        go_roundw
        case rel => exact ⟨k + 1, by omega, by go_num, HR2.out, hP2, hb2⟩
        case measure => simp [intOf]; omega
      · have hez : ¬ ((s[k].toNat : Int) = 0) := by rw [hex]; omega
        rw [if_neg hz] at HE1
        have hRk' := hRk
        unfold OwnBy at hRk'
        go_wp2_with (at_builtin; refine wpList_app rfl (.tmp 42) (.tmp 47) 62 5 i0 _ 1 1 Kd rfl (w.heap.size + 1) u7 Z.length _ rfl (hRk'.alloc _) ⟨wr.heap.size, 0, none⟩ 1 1 [.int .u8 _] rfl rfl (cell_one_new _ _ _) ?_ ?_ ?_ ?_ ?_)
        · exact ints_oneCell .u8 [_]
        · have := HZl.out; omega
        · have := HZl.out; omega
        · have h := size_le_alloc wr (.cells #[.int .u8 (x.toNat : Int)] 5); have := hPk.lt; omega
        intro v1 w1 ho hg hn
        have hR1 : OwnBy (w.heap.size + 1) w1 v1 (Z ++ [(x.toNat : Int)]) := OwnBy.app (ys := [(x.toNat : Int)]) hRk' ho
        have hblk : ∀ y, y < w.heap.size + 1 → y < wr.heap.size → w1.heap[y]? = wr.heap[y]? := fun y hy hl => (hg.block y (Nat.lt_of_lt_of_le hl (size_le_alloc _ _)) (fun e => by have := (World.ownsRow.lt hRk' y e.symm).1; omega)).trans (Below.heap_alloc _ _ _ hl)
        have hP1 : Box w1 w.heap.size #[.int .i64 2, .int .i64 j0, .string s, .int .i64 0] 93 := hPk.kept (hblk _ (by omega) hPk.lt)
        have hb1 : Below w.heap.size w w1 := (hbk.alloc hbk.size _).grown hg (Nat.le_trans hbk.size (size_le_alloc _ _)) (fun y hy => by have := (World.ownsRow.lt hRk' y hy).1; omega)
        clear ho hg hn hblk
        have x21 := hP1.cell 2
        simp at x21
        have HR2 : Hid (OwnBy (w.heap.size + 1) w1 v1 ([3] ++ escB (s.data.toList.take (k + 1)))) := by
          unfold Hid
          rw [HE1.out]
          exact hR1
        clear hRk hRk' hR1 x2
        go_wp2
        go_roundw
        case rel => exact ⟨k + 1, by omega, by go_num, HR2.out, hP1, hb1⟩
        case measure => simp [intOf]; omega
    · obtain rfl : k = s.size := by omega
      have hx : ¬ (s.size : Int) < (s.size : Int) := by omega
      have hall : s.data.toList.take s.size = s.data.toList := List.take_of_length_le (by simp)
      rw [hall] at hRk
      have HZl : Hid (([3] ++ escB s.data.toList).length ≤ 60) := by
        have := esc_len s.data.toList
        have h2 : s.data.toList.length = s.size := by simp
        unfold Hid
        simp only [List.length_append, List.length_cons, List.length_nil]; omega
      obtain ⟨Z, HZ⟩ : ∃ Z, Hid ([3] ++ escB s.data.toList = Z) := ⟨[3] ++ escB s.data.toList, by unfold Hid; rfl⟩
      rw [HZ.out] at hRk HZl
      have hRk' := hRk
      unfold OwnBy at hRk'
      go_wp2_with (at_builtin; refine wpList_app rfl (.tmp 57) (.tmp 58) 62 5 i0 _ 1 1 Kd rfl (w.heap.size + 1) u7 Z.length _ rfl (hRk'.alloc _) ⟨wr.heap.size, 0, none⟩ 2 2 [.int .u8 0, .int .u8 0] rfl rfl (news2 _ _ _ _) ?_ ?_ ?_ ?_ ?_)
      · first | exact ints_oneCell .u8 [_, _] | rfl
      · have := HZl.out; omega
      · have := HZl.out; omega
      · have h := size_le_alloc wr (.cells #[.int .u8 0, .int .u8 0] 5); have := hPk.lt; omega
      intro v1 w1 ho hg hn
      have hR1 : OwnBy (w.heap.size + 1) w1 v1 (Z ++ [0, 0]) := OwnBy.app (ys := [0, 0]) hRk' ho
      have hb1 : Below w.heap.size w w1 := (hbk.alloc hbk.size _).grown hg (Nat.le_trans hbk.size (size_le_alloc _ _)) (fun y hy => by have := (World.ownsRow.lt hRk' y hy).1; omega)
      have HP : Hid (RankPost w (.mk 2 j0 s 0 p cc f) i (.returned (.tuple #[v1, .int .i64 ((i : Int) + 1)])) w1) := by
        refine ⟨v1, rfl, ?_, hb1⟩
        rw [← HZ.out] at hR1
        exact ownsRow_mono hR1 (by omega)
      clear ho hg hn hRk hRk' hR1 x2
      go_wp2
      go_ret2
      exact HP.out
end Go.Proofs.Ytehpdhhlggegdaa

namespace Go.Proofs.Ytehpdhhlggegdaa
open Go.RowKit
set_option maxRecDepth 8000

def RankC (t : VT) : Prop := ∀ (w : World) (base : Nat) (L : List PT) (g c i : Nat) (rest : List PT), w.ownsRow base 93 4 (.slice (some ⟨g, 0, none⟩) L.length c) L.length (ptCells L) → L.drop i = flatP t ++ rest → L.length ≤ 12 → Val t →
  Calls Try.prog 45 #[.slice (some ⟨g, 0, none⟩) L.length c, .int .i64 i] w fun r w' => RankPost w t i r w'
/-- the bytes of the first j items -/
def ranksN (f : Nat → VT) (j : Nat) : List Int := (List.range j).flatMap fun q => rankB (f q)
theorem ranksN_succ (f : Nat → VT) (j : Nat) : ranksN f (j + 1) = ranksN f j ++ rankB (f j) := by simp [ranksN, List.range_succ, List.flatMap_append]

theorem flatN_pre (f : Nat → VT) {j n : Nat} (h : j ≤ n) : ∃ X, flatN f n = flatN f j ++ X := by
  induction h with
  | refl => exact ⟨[], by simp⟩
  | step _ ih =>
    obtain ⟨X, hX⟩ := ih
    exact ⟨X ++ flatP (f _), by rw [flatN_succ, hX, List.append_assoc]⟩

set_option maxHeartbeats 4000000 in
theorem rank_list (s : ByteArray) (n : Nat) (g c i : Nat) (j0 : Int) (p : Option Addr) (cc : Nat) (f : Nat → VT) (w : World) (base : Nat) (L rest : List PT) (ih : ∀ j, RankC (f j)) (hL : w.ownsRow base 93 4 (.slice (some ⟨g, 0, none⟩) L.length c) L.length (ptCells L)) (hd : L.drop i = flatP (.mk 3 j0 s n p cc f) ++ rest) (hlen : L.length ≤ 12) (hv : Val (.mk 3 j0 s n p cc f))
    (hi : i < L.length)
    (c0 : w.cell? ⟨g, i * 4, none⟩ = some (.int .i64 3)) (c1 : w.cell? ⟨g, i * 4 + 1, none⟩ = some (.int .i64 j0)) (c2 : w.cell? ⟨g, i * 4 + 2, none⟩ = some (.string s)) (c3 : w.cell? ⟨g, i * 4 + 3, none⟩ = some (.int .i64 n)) :
    Calls Try.prog 45 #[.slice (some ⟨g, 0, none⟩) L.length c, .int .i64 i] w fun r w' => RankPost w (.mk 3 j0 s n p cc f) i r w' := by
  have hi' : (i : Int) < (L.length : Int) := by omega
  obtain ⟨i0, Kd⟩ := kindB
  have hW : Below w.heap.size w ((w.alloc (.cells #[.int .i64 3, .int .i64 j0, .string s, .int .i64 n] 93)).alloc (.cells #[.int .u8 4] 5)) := ((Below.refl _ _).alloc (Nat.le_refl _) _).alloc (by simp) _
  have hP : Box ((w.alloc (.cells #[.int .i64 3, .int .i64 j0, .string s, .int .i64 n] 93)).alloc (.cells #[.int .u8 4] 5)) w.heap.size #[.int .i64 3, .int .i64 j0, .string s, .int .i64 n] 93 := (Box.new w _ 93).below ((Below.refl _ _).alloc (Nat.le_refl _) _)
  have hR : OwnBy (w.heap.size + 1) ((w.alloc (.cells #[.int .i64 3, .int .i64 j0, .string s, .int .i64 n] 93)).alloc (.cells #[.int .u8 4] 5)) (.slice (some ⟨w.heap.size + 1, 0, none⟩) 1 1) ([4] ++ ranksN f 0) := by
    have h := row_one (w.alloc (.cells #[.int .i64 3, .int .i64 j0, .string s, .int .i64 n] 93)) 4
    rw [show (w.alloc (.cells #[.int .i64 3, .int .i64 j0, .string s, .int .i64 n] 93)).heap.size = w.heap.size + 1 by simp] at h
    exact h
  have HL : Hid (w.ownsRow base 93 4 (.slice (some ⟨g, 0, none⟩) L.length c) L.length (ptCells L)) := hL
  have HV : Hid (∀ j, j < n → Val (f j)) := hv.2
  have hd1 : L.drop (i + 1) = flatN f n ++ rest := by
    rw [← List.drop_drop, hd, flatP_eq]; rfl
  have HD : Hid (∀ j, j < n → ∃ rest', L.drop (i + 1 + (flatN f j).length) = flatP (f j) ++ rest') := by
    intro j hj
    obtain ⟨X, hX⟩ := flatN_pre f (show j + 1 ≤ n from hj)
    refine ⟨X ++ rest, ?_⟩
    rw [← List.drop_drop, hd1, hX, flatN_succ, List.append_assoc, List.append_assoc, List.drop_left]
  have HLe : Hid (∀ j, j ≤ n → i + 1 + (flatN f j).length ≤ 12) := by
    intro j hj
    obtain ⟨X, hX⟩ := flatN_pre f hj
    have h1 := congrArg List.length hd1
    rw [hX] at h1
    simp only [List.length_drop, List.length_append] at h1
    omega
  have HRl : Hid (∀ j, j ≤ n → (ranksN f j).length ≤ 60 * (flatN f j).length) := fun j hj => flatMap_len _ _ j fun q hq => rank_len (f q) (hv.2 q (by omega))
  have hn6 : n ≤ 6 := hv.1.2.2.1
  clear hL hv hd hd1
  go_enter Try.func45, Try.ntmps45
  go_wp2_with fail
  go_loopw [7, 8, 10] (fun v a x wr => ∃ k : Nat, k ≤ n ∧ x = .int .i64 k ∧ a = .int .i64 ((i + 1 + (flatN f k).length : Nat) : Int) ∧ OwnBy (w.heap.size + 1) wr v ([4] ++ ranksN f k) ∧ Box wr w.heap.size #[.int .i64 3, .int .i64 j0, .string s, .int .i64 n] 93 ∧ Below w.heap.size w wr) (fun _ _ x _ => n - (intOf x).toNat)
  case atStart => exact ⟨0, by omega, rfl, by simp [flatN], hR, hP, hW⟩
  case round =>
    obtain ⟨k, hk, rfl, rfl, hRk, hPk, hbk⟩ := hrel
    clear hR hP hW c0 c1 c2 c3
    have x3 := hPk.cell 3
    simp at x3
    by_cases hlt : k < n
    · have hlt' : (k : Int) < (n : Int) := by omega
      obtain ⟨rest', hr'⟩ := HD.out k hlt
      have HC : Hid (Calls Try.prog 45 #[.slice (some ⟨g, 0, none⟩) L.length c, .int .i64 ((i + 1 + (flatN f k).length : Nat) : Int)] wr fun r w' => RankPost wr (f k) (i + 1 + (flatN f k).length) r w') :=
        ih k wr base L g c (i + 1 + (flatN f k).length) rest' (ownsRow_keep HL.out fun y _ hl => hbk.block y hl) hr' hlen (HV.out k hlt)
      have HS : Hid (i + 1 + (flatN f k).length + (flatP (f k)).length = i + 1 + (flatN f (k + 1)).length) := by unfold Hid; rw [flatN_succ, List.length_append]; omega
      have HRs : Hid ([4] ++ ranksN f k ++ rankB (f k) = [4] ++ ranksN f (k + 1)) := by unfold Hid; rw [ranksN_succ, List.append_assoc]
      have HLr : Hid (([4] ++ ranksN f k).length ≤ 1000 ∧ (rankB (f k)).length ≤ 1000 ∧ 0 < (rankB (f k)).length) := by
        have h1 := HRl.out k (by omega)
        have h2 := HLe.out k (by omega)
        have h3 := rank_len (f k) (HV.out k hlt)
        have h4 := HLe.out (k + 1) (by omega)
        rw [flatN_succ, List.length_append] at h4
        refine ⟨by simp only [List.length_append, List.length_cons, List.length_nil]; omega, by omega, ?_⟩
        cases f k with
        | nil => show 0 < 1; omega
        | mk k i s n p c f => rw [rankB_eq]; simp
      clear hr' HD HV HL
      obtain ⟨A, HA⟩ : ∃ A, Hid (i + 1 + (flatN f k).length = A) := ⟨i + 1 + (flatN f k).length, by unfold Hid; rfl⟩
      obtain ⟨Z, HZ⟩ : ∃ Z, Hid ([4] ++ ranksN f k = Z) := ⟨[4] ++ ranksN f k, by unfold Hid; rfl⟩
      rw [HA.out] at HC HS
      rw [HZ.out] at HRs HLr hRk
      rw [HA.out]
      clear HA HZ
      have hRk' := hRk
      unfold OwnBy at hRk'
      go_wp2_with (go_at_call 45; refine HC.out.mono ?_)
      intro e w1 hP
      obtain ⟨v1, rfl, ho1, hb1⟩ := hP
      have hO1 : OwnBy _ w1 v1 (rankB (f k)) := ho1
      obtain ⟨b1, cp, hv1, hbb, hbl, hcell⟩ := hO1.slice HLr.out.2.2
      have hP1 := hPk.below hb1
      have hR1 := hRk.below hb1
      unfold OwnBy at hR1
      have hbw1 : Below w.heap.size w w1 := hbk.trans (hb1.mono hbk.size)
      have hl1 := hP1.lt
      subst hv1
      rw [HS.out]
      have HN : Hid (∀ j u, ((rankB (f k)).map (Value.int .u8))[j]? = some u → w1.cell? ((⟨b1, 0, none⟩ : Addr).add j) = some u) := hcell
      obtain ⟨Y, HY⟩ : ∃ Y, Hid (rankB (f k) = Y) := ⟨rankB (f k), by unfold Hid; rfl⟩
      rw [HY.out] at HN HRs HLr
      rw [HY.out]
      clear ho1 hO1 hcell hb1 HC hRk hRk' hPk x3 hbk HY
      go_wp2_with (at_builtin; refine wpList_app rfl (.tmp 74) (.tmp 75) 62 5 i0 _ 1 1 Kd rfl (w.heap.size + 1) u7 Z.length _ rfl hR1 ⟨b1, 0, none⟩ Y.length cp (Y.map (Value.int .u8)) rfl ?_ HN.out (ints_oneCell _ _) ?_ ?_ ?_ ?_)
      · simp
      · have := HLr.out; omega
      · have := HLr.out; omega
      · omega
      intro v2 w2 ho hg hn
      have HR2 : Hid (OwnBy (w.heap.size + 1) w2 v2 ([4] ++ ranksN f (k + 1))) := by
        unfold Hid
        rw [← HRs.out]
        exact OwnBy.app hR1 ho
      have hP2 : Box w2 w.heap.size #[.int .i64 3, .int .i64 j0, .string s, .int .i64 n] 93 := hP1.kept (hg.block _ hP1.lt (fun e => by have := (World.ownsRow.lt hR1 _ e.symm).1; omega))
      have hb2 : Below w.heap.size w w2 := hbw1.grown hg hbw1.size (fun y hy => by have := (World.ownsRow.lt hR1 y hy).1; omega)
      clear ho hg hn hR1 HN HRs HLr hP1 hbw1
      go_wp2
      go_roundw
      case rel => exact ⟨k + 1, by omega, by go_num, rfl, HR2.out, hP2, hb2⟩
      case measure => simp [intOf]; omega
    · obtain rfl : k = n := by omega
      have hx : ¬ (k : Int) < (k : Int) := by omega
      have HZl : Hid (([4] ++ ranksN f k).length ≤ 1000) := by
        have h1 := HRl.out k (by omega)
        have h2 := HLe.out k (by omega)
        unfold Hid; simp only [List.length_append, List.length_cons, List.length_nil]; omega
      obtain ⟨Z, HZ⟩ : ∃ Z, Hid ([4] ++ ranksN f k = Z) := ⟨[4] ++ ranksN f k, by unfold Hid; rfl⟩
      rw [HZ.out] at hRk HZl
      have HF : Hid (i + 1 + (flatN f k).length = i + (flatP (.mk 3 j0 s k p cc f)).length) := by
        unfold Hid; rw [flatP_eq]; simp only [List.length_cons, flatN]; omega
      obtain ⟨A, HA⟩ : ∃ A, Hid (i + 1 + (flatN f k).length = A) := ⟨i + 1 + (flatN f k).length, by unfold Hid; rfl⟩
      rw [HA.out] at HF
      rw [HA.out]
      have hRk' := hRk
      unfold OwnBy at hRk'
      clear ih HL HV HD HLe HRl HA
      go_wp2_with (at_builtin; refine wpList_app rfl (.tmp 78) (.tmp 79) 62 5 i0 _ 1 1 Kd rfl (w.heap.size + 1) u7 Z.length _ rfl (hRk'.alloc _) ⟨wr.heap.size, 0, none⟩ 1 1 [.int .u8 0] rfl rfl (cell_one_new _ _ _) ?_ ?_ ?_ ?_ ?_)
      · first | exact ints_oneCell .u8 [_] | rfl
      · have := HZl.out; omega
      · have := HZl.out; omega
      · have h := size_le_alloc wr (.cells #[.int .u8 0] 5); have := hPk.lt; omega
      intro v1 w1 ho hg hn
      have hR1 : OwnBy (w.heap.size + 1) w1 v1 (Z ++ [0]) := OwnBy.app (ys := [0]) hRk' ho
      have hb1 : Below w.heap.size w w1 := (hbk.alloc hbk.size _).grown hg (Nat.le_trans hbk.size (size_le_alloc _ _)) (fun y hy => by have := (World.ownsRow.lt hRk' y hy).1; omega)
      have HP : Hid (RankPost w (.mk 3 j0 s k p cc f) i (.returned (.tuple #[v1, .int .i64 (A : Int)])) w1) := by
        refine ⟨v1, by rw [← HF.out], ?_, hb1⟩
        rw [← HZ.out] at hR1
        have h := ownsRow_mono hR1 (show w.heap.size ≤ w.heap.size + 1 by omega)
        have e : rankB (.mk 3 j0 s k p cc f) = [4] ++ ranksN f k ++ [0] := by rw [rankB_eq]; rfl
        rw [e]; exact h
      clear ho hg hn hRk hRk' hR1 x3
      go_wp2
      go_ret2
      exact HP.out
end Go.Proofs.Ytehpdhhlggegdaa
