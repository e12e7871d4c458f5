import Derived.Test.YtpknlbibijheaabPack33
import Derived.Test.YtpknlbibijheaabPack34
namespace Go.Proofs.Ytpknlbibijheaab
open Go.RowKit
set_option maxRecDepth 8000

def RankPost (w : World) (t : VT) (i : Nat) (r : Ending) (w' : World) : Prop :=
  ∃ v, r = .returned (.tuple #[v, .int .i64 ((i + (flatP t).length : Nat) : Int)]) ∧ w'.ownsRow w.heap.size 5 1 v (rankB t).length ((rankB t).map (Value.int .u8)) ∧ Below w.heap.size w w'
set_option maxHeartbeats 1000000 in
theorem rank_none (s : ByteArray) (n len : Nat) (g c i : Nat) (j0 : Int) (p : Option Addr) (cc : Nat) (f : Nat → VT) (w : World) (hi : i < len) (hlen : len ≤ 12)
    (c0 : w.cell? ⟨g, i * 4, none⟩ = some (.int .i64 0)) (c1 : w.cell? ⟨g, i * 4 + 1, none⟩ = some (.int .i64 j0)) (c2 : w.cell? ⟨g, i * 4 + 2, none⟩ = some (.string s)) (c3 : w.cell? ⟨g, i * 4 + 3, none⟩ = some (.int .i64 n)) (hn : n = 0) :
    Calls Try.prog 51 #[.slice (some ⟨g, 0, none⟩) len c, .int .i64 i] w fun r w' => RankPost w (.mk 0 j0 s n p cc f) i r w' := by
  have hi' : (i : Int) < (len : Int) := by omega
  go_enter Try.func51, Try.ntmps51
  go_wp2_with fail
  go_ret2
  subst hn
  refine ⟨_, rfl, ?_, ((Below.refl _ _).alloc (Nat.le_refl _) _).alloc (by simp) _⟩
  have h := row_one (w.alloc (.cells #[.int .i64 0, .int .i64 j0, .string s, .int .i64 0] 103)) 1
  rw [show (w.alloc (.cells #[.int .i64 0, .int .i64 j0, .string s, .int .i64 0] 103)).heap.size = w.heap.size + 1 by simp] at h
  exact ownsRow_mono h (by omega)

end Go.Proofs.Ytpknlbibijheaab

namespace Go.Proofs.Ytpknlbibijheaab
open Go.RowKit
set_option maxRecDepth 8000

set_option maxHeartbeats 2000000 in
theorem rank_int (s : ByteArray) (n len : Nat) (g c i : Nat) (j0 : Int) (p : Option Addr) (cc : Nat) (f : Nat → VT) (w : World) (hi : i < len) (hlen : len ≤ 12) (_hg : g < w.heap.size)
    (c0 : w.cell? ⟨g, i * 4, none⟩ = some (.int .i64 1)) (c1 : w.cell? ⟨g, i * 4 + 1, none⟩ = some (.int .i64 j0)) (c2 : w.cell? ⟨g, i * 4 + 2, none⟩ = some (.string s)) (c3 : w.cell? ⟨g, i * 4 + 3, none⟩ = some (.int .i64 n)) (hn : n = 0) (hj : -9223372036854775808 ≤ j0) (hj2 : j0 ≤ 9223372036854775807) :
    Calls Try.prog 51 #[.slice (some ⟨g, 0, none⟩) len c, .int .i64 i] w fun r w' => RankPost w (.mk 1 j0 s n p cc f) i r w' := by
  have hi' : (i : Int) < (len : Int) := by omega
  obtain ⟨i0, Kd⟩ := kindB
  subst hn
  have HP := fun W => place_any j0 hj hj2 W
  clear hj hj2
  go_enter Try.func51, Try.ntmps51
  go_wp2_with fail
  refine (HP _).mono ?_
  rintro e w1 ⟨v1, rfl, ho1, hb1⟩
  have hO1 : OwnBy _ w1 v1 (placeB j0) := ho1
  obtain ⟨b1, cp, hv1, hbb, hbl, hcell⟩ := hO1.slice (by simp [placeB, be8])
  have hR : OwnBy (w.heap.size + 1) w1 (.slice (some ⟨w.heap.size + 1, 0, none⟩) 1 1) [2] := by
    have h := row_one (w.alloc (.cells #[.int .i64 1, .int .i64 j0, .string s, .int .i64 0] 103)) 2
    rw [show (w.alloc (.cells #[.int .i64 1, .int .i64 j0, .string s, .int .i64 0] 103)).heap.size = w.heap.size + 1 by simp] at h
    exact OwnBy.below h hb1
  have hbw1 : Below w.heap.size w w1 := (((Below.refl w.heap.size w).alloc (Nat.le_refl _) _).alloc (by simp) _).trans (hb1.mono (by simp; omega))
  have hs1 : w.heap.size + 2 ≤ w1.heap.size := by have := hb1.size; simpa using this
  subst hv1
  have HN : Hid (∀ j u, ((placeB j0).map (Value.int .u8))[j]? = some u → w1.cell? ((⟨b1, 0, none⟩ : Addr).add j) = some u) := hcell
  have hlen8 : (placeB j0).length = 8 := by simp [placeB, be8]
  rw [hlen8]
  clear hcell ho1 hO1 hb1 HP
  go_wp2_with (at_builtin; refine wpList_app rfl (.tmp 28) (.tmp 31) 91 5 i0 _ 1 1 Kd rfl (w.heap.size + 1) (.slice (some ⟨w.heap.size + 1, 0, none⟩) 1 1) 1 [.int .u8 2] rfl hR ⟨b1, 0, none⟩ 8 cp ((placeB j0).map (Value.int .u8)) rfl ?_ HN.out (ints_oneCell _ _) ?_ ?_ ?_ ?_)
  · simp [hlen8]
  · omega
  · omega
  · omega
  intro v2 w2 ho2 hg2 hn2
  have hO2 : OwnBy (w.heap.size + 1) w2 v2 ([2] ++ placeB j0) := hR.app (by rw [hlen8]; exact ho2)
  have hbw2 : Below w.heap.size w w2 := hbw1.grown hg2 (by omega) (fun k hk => by have := (World.ownsRow.lt hR k hk).1; omega)
  clear ho2 hg2 hn2 hR HN hlen8
  go_wp2
  go_ret2
  refine ⟨v2, rfl, ?_, hbw2⟩
  exact ownsRow_mono hO2 (by omega)
end Go.Proofs.Ytpknlbibijheaab

namespace Go.Proofs.Ytpknlbibijheaab
open Go.RowKit
set_option maxRecDepth 8000

theorem news2 (w : World) (a b : Value) (e : TypeId) : ∀ j u, [a, b][j]? = some u → (w.alloc (.cells #[a, b] e)).cell? ((⟨w.heap.size, 0, none⟩ : Addr).add j) = some u := by
  intro j u h
  rw [cell_new, ← h]
  simp
set_option maxHeartbeats 2000000 in
theorem rank_text (s : ByteArray) (n len : Nat) (g c i : Nat) (j0 : Int) (p : Option Addr) (cc : Nat) (f : Nat → VT) (w : World) (hi : i < len) (hlen : len ≤ 12)
    (c0 : w.cell? ⟨g, i * 4, none⟩ = some (.int .i64 2)) (c1 : w.cell? ⟨g, i * 4 + 1, none⟩ = some (.int .i64 j0)) (c2 : w.cell? ⟨g, i * 4 + 2, none⟩ = some (.string s)) (c3 : w.cell? ⟨g, i * 4 + 3, none⟩ = some (.int .i64 n)) (hn : n = 0) (hs : s.size ≤ 24) :
    Calls Try.prog 51 #[.slice (some ⟨g, 0, none⟩) len c, .int .i64 i] w fun r w' => RankPost w (.mk 2 j0 s n p cc f) i r w' := by
  have hi' : (i : Int) < (len : Int) := by omega
  obtain ⟨i0, Kd⟩ := kindB
  subst hn
  have hW : Below w.heap.size w ((w.alloc (.cells #[.int .i64 2, .int .i64 j0, .string s, .int .i64 0] 103)).alloc (.cells #[.int .u8 3] 5)) := ((Below.refl _ _).alloc (Nat.le_refl _) _).alloc (by simp) _
  have hP : Box ((w.alloc (.cells #[.int .i64 2, .int .i64 j0, .string s, .int .i64 0] 103)).alloc (.cells #[.int .u8 3] 5)) w.heap.size #[.int .i64 2, .int .i64 j0, .string s, .int .i64 0] 103 := (Box.new w _ 103).below ((Below.refl _ _).alloc (Nat.le_refl _) _)
  have hR : OwnBy (w.heap.size + 1) ((w.alloc (.cells #[.int .i64 2, .int .i64 j0, .string s, .int .i64 0] 103)).alloc (.cells #[.int .u8 3] 5)) (.slice (some ⟨w.heap.size + 1, 0, none⟩) 1 1) ([3] ++ escB (s.data.toList.take 0)) := by
    have h := row_one (w.alloc (.cells #[.int .i64 2, .int .i64 j0, .string s, .int .i64 0] 103)) 3
    rw [show (w.alloc (.cells #[.int .i64 2, .int .i64 j0, .string s, .int .i64 0] 103)).heap.size = w.heap.size + 1 by simp] at h
    exact h
  go_enter Try.func51, Try.ntmps51
  go_wp2_with fail
  go_loopw [7, 9] (fun v x wr => ∃ k : Nat, k ≤ s.size ∧ x = .int .i64 k ∧ OwnBy (w.heap.size + 1) wr v ([3] ++ escB (s.data.toList.take k)) ∧ Box wr w.heap.size #[.int .i64 2, .int .i64 j0, .string s, .int .i64 0] 103 ∧ Below w.heap.size w wr) (fun _ x _ => s.size - (intOf x).toNat)
  case atStart => exact ⟨0, by omega, rfl, hR, hP, hW⟩
  case round =>
    obtain ⟨k, hk, rfl, hRk, hPk, hbk⟩ := hrel
    clear hR hP hW c0 c1 c2 c3
    have x2 := hPk.cell 2
    simp at x2
    by_cases hlt : k < s.size
    · have hlt' : (k : Int) < (s.size : Int) := by omega
      obtain ⟨x, HX⟩ : ∃ x : UInt8, Hid (s[k] = x) := ⟨s[k], by unfold Hid; rfl⟩
      have HT : Hid (s.data.toList.take (k + 1) = s.data.toList.take k ++ [x]) := by
        have h1 : k < s.data.toList.length := by simpa using hlt
        unfold Hid
        rw [List.take_add_one, List.getElem?_eq_getElem h1, ← HX.out]
        rfl
      have HE : ∀ l, Hid ([3] ++ escB (l ++ [x]) = [3] ++ escB l ++ (if x.toNat = 0 then [0, 255] else [(x.toNat : Int)])) := fun l => by
        unfold Hid escB; rw [List.flatMap_append]; simp
      have HE1 := HE (s.data.toList.take k)
      rw [← HT.out] at HE1
      obtain ⟨Z, HZ⟩ : ∃ Z, Hid ([3] ++ escB (s.data.toList.take k) = Z) := ⟨[3] ++ escB (s.data.toList.take k), by unfold Hid; rfl⟩
      have HZl : Hid (Z.length ≤ 60) := by
        have := esc_len (s.data.toList.take k)
        have h2 : (s.data.toList.take k).length ≤ k := by simp; omega
        unfold Hid; rw [← HZ.out]
        simp only [List.length_append, List.length_cons, List.length_nil]; omega
      rw [HZ.out] at HE1 hRk
      have hex : (s[k].toNat : Int) = (x.toNat : Int) := by rw [HX.out]
      clear HE HT HZ HX
      by_cases hz : x.toNat = 0
      · have hex0 : (s[k].toNat : Int) = 0 := by rw [hex, hz]; rfl
        rw [if_pos hz] at HE1
        clear hex hz
        have hRk' := hRk
        unfold OwnBy at hRk'
        go_wp2_with (at_builtin; refine wpList_app rfl (.tmp 42) (.tmp 47) 91 5 i0 _ 1 1 Kd rfl (w.heap.size + 1) u7 Z.length _ rfl (hRk'.alloc _) ⟨wr.heap.size, 0, none⟩ 1 1 [.int .u8 _] rfl rfl (cell_one_new _ _ _) ?_ ?_ ?_ ?_ ?_)
        · exact ints_oneCell .u8 [_]
        · have := HZl.out; omega
        · have := HZl.out; omega
        · have h := size_le_alloc wr (.cells #[.int .u8 0] 5); have := hPk.lt; omega
        intro v1 w1 ho hg hn
        have hR1 : OwnBy (w.heap.size + 1) w1 v1 (Z ++ [0]) := OwnBy.app (ys := [0]) hRk' ho
        have hblk : ∀ y, y < w.heap.size + 1 → y < wr.heap.size → w1.heap[y]? = wr.heap[y]? := fun y hy hl => (hg.block y (Nat.lt_of_lt_of_le hl (size_le_alloc _ _)) (fun e => by have := (World.ownsRow.lt hRk' y e.symm).1; omega)).trans (Below.heap_alloc _ _ _ hl)
        have hP1 : Box w1 w.heap.size #[.int .i64 2, .int .i64 j0, .string s, .int .i64 0] 103 := hPk.kept (hblk _ (by omega) hPk.lt)
        have hb1 : Below w.heap.size w w1 := (hbk.alloc hbk.size _).grown hg (Nat.le_trans hbk.size (size_le_alloc _ _)) (fun y hy => by have := (World.ownsRow.lt hRk' y hy).1; omega)
        clear ho hg hn hblk
        have x21 := hP1.cell 2
        simp at x21
        have hR1' := hR1
        unfold OwnBy at hR1'
        obtain ⟨Z1, HZ1⟩ : ∃ Z1, Hid (Z ++ [0] = Z1) := ⟨Z ++ [0], by unfold Hid; rfl⟩
        have HZl2 : Hid (Z1.length ≤ 61) := by unfold Hid; rw [← HZ1.out]; have := HZl.out; simp; omega
        rw [HZ1.out] at hR1'
        clear hR1 hRk hRk' x2 HZl
        have HZl := HZl2
        go_wp2_with (at_builtin; refine wpList_app rfl (.tmp 54) (.tmp 55) 91 5 i0 _ 1 1 Kd rfl (w.heap.size + 1) v1 Z1.length _ rfl (hR1'.alloc _) ⟨w1.heap.size, 0, none⟩ 1 1 [.int .u8 _] rfl rfl (cell_one_new _ _ _) ?_ ?_ ?_ ?_ ?_)
        · exact ints_oneCell .u8 [_]
        · have := HZl.out; omega
        · have := HZl.out; omega
        · have h := size_le_alloc w1 (.cells #[.int .u8 255] 5); have := hP1.lt; omega
        intro v2 w2 ho hg hn
        have hR2 : OwnBy (w.heap.size + 1) w2 v2 (Z1 ++ [255]) := OwnBy.app (ys := [255]) hR1' ho
        have hblk : ∀ y, y < w.heap.size + 1 → y < w1.heap.size → w2.heap[y]? = w1.heap[y]? := fun y hy hl => (hg.block y (Nat.lt_of_lt_of_le hl (size_le_alloc _ _)) (fun e => by have := (World.ownsRow.lt hR1' y e.symm).1; omega)).trans (Below.heap_alloc _ _ _ hl)
        have hP2 : Box w2 w.heap.size #[.int .i64 2, .int .i64 j0, .string s, .int .i64 0] 103 := hP1.kept (hblk _ (by omega) hP1.lt)
        have hb2 : Below w.heap.size w w2 := (hb1.alloc hb1.size _).grown hg (Nat.le_trans hb1.size (size_le_alloc _ _)) (fun y hy => by have := (World.ownsRow.lt hR1' y hy).1; omega)
        clear ho hg hn hblk
        have HR2 : Hid (OwnBy (w.heap.size + 1) w2 v2 ([3] ++ escB (s.data.toList.take (k + 1)))) := by
          unfold Hid
          rw [HE1.out]
          rw [← HZ1.out, List.append_assoc] at hR2
          exact hR2
        clear hR1' x21 hR2 hP1 hb1
        go_wp2
        go_roundw
        case rel => exact ⟨k + 1, by omega, by go_num, HR2.out, hP2, hb2⟩
        case measure => simp [intOf]; omega
      · have hez : ¬ ((s[k].toNat : Int) = 0) := by rw [hex]; omega
        rw [if_neg hz] at HE1
        have hRk' := hRk
        unfold OwnBy at hRk'
        go_wp2_with (at_builtin; refine wpList_app rfl (.tmp 42) (.tmp 47) 91 5 i0 _ 1 1 Kd rfl (w.heap.size + 1) u7 Z.length _ rfl (hRk'.alloc _) ⟨wr.heap.size, 0, none⟩ 1 1 [.int .u8 _] rfl rfl (cell_one_new _ _ _) ?_ ?_ ?_ ?_ ?_)
        · exact ints_oneCell .u8 [_]
        · have := HZl.out; omega
        · have := HZl.out; omega
        · have h := size_le_alloc wr (.cells #[.int .u8 (x.toNat : Int)] 5); have := hPk.lt; omega
        intro v1 w1 ho hg hn
        have hR1 : OwnBy (w.heap.size + 1) w1 v1 (Z ++ [(x.toNat : Int)]) := OwnBy.app (ys := [(x.toNat : Int)]) hRk' ho
        have hblk : ∀ y, y < w.heap.size + 1 → y < wr.heap.size → w1.heap[y]? = wr.heap[y]? := fun y hy hl => (hg.block y (Nat.lt_of_lt_of_le hl (size_le_alloc _ _)) (fun e => by have := (World.ownsRow.lt hRk' y e.symm).1; omega)).trans (Below.heap_alloc _ _ _ hl)
        have hP1 : Box w1 w.heap.size #[.int .i64 2, .int .i64 j0, .string s, .int .i64 0] 103 := hPk.kept (hblk _ (by omega) hPk.lt)
        have hb1 : Below w.heap.size w w1 := (hbk.alloc hbk.size _).grown hg (Nat.le_trans hbk.size (size_le_alloc _ _)) (fun y hy => by have := (World.ownsRow.lt hRk' y hy).1; omega)
        clear ho hg hn hblk
        have x21 := hP1.cell 2
        simp at x21
        have HR2 : Hid (OwnBy (w.heap.size + 1) w1 v1 ([3] ++ escB (s.data.toList.take (k + 1)))) := by
          unfold Hid
          rw [HE1.out]
          exact hR1
        clear hRk hRk' hR1 x2
        go_wp2
        go_roundw
        case rel => exact ⟨k + 1, by omega, by go_num, HR2.out, hP1, hb1⟩
        case measure => simp [intOf]; omega
    · obtain rfl : k = s.size := by omega
      have hx : ¬ (s.size : Int) < (s.size : Int) := by omega
      have hall : s.data.toList.take s.size = s.data.toList := List.take_of_length_le (by simp)
      rw [hall] at hRk
      have HZl : Hid (([3] ++ escB s.data.toList).length ≤ 60) := by
        have := esc_len s.data.toList
        have h2 : s.data.toList.length = s.size := by simp
        unfold Hid
        simp only [List.length_append, List.length_cons, List.length_nil]; omega
      obtain ⟨Z, HZ⟩ : ∃ Z, Hid ([3] ++ escB s.data.toList = Z) := ⟨[3] ++ escB s.data.toList, by unfold Hid; rfl⟩
      rw [HZ.out] at hRk HZl
      have hRk' := hRk
      unfold OwnBy at hRk'
      go_wp2_with (at_builtin; refine wpList_app rfl (.tmp 57) (.tmp 58) 91 5 i0 _ 1 1 Kd rfl (w.heap.size + 1) u7 Z.length _ rfl (hRk'.alloc _) ⟨wr.heap.size, 0, none⟩ 2 2 [.int .u8 0, .int .u8 0] rfl rfl (news2 _ _ _ _) ?_ ?_ ?_ ?_ ?_)
      · first | exact ints_oneCell .u8 [_, _] | rfl
      · have := HZl.out; omega
      · have := HZl.out; omega
      · have h := size_le_alloc wr (.cells #[.int .u8 0, .int .u8 0] 5); have := hPk.lt; omega
      intro v1 w1 ho hg hn
      have hR1 : OwnBy (w.heap.size + 1) w1 v1 (Z ++ [0, 0]) := OwnBy.app (ys := [0, 0]) hRk' ho
      have hb1 : Below w.heap.size w w1 := (hbk.alloc hbk.size _).grown hg (Nat.le_trans hbk.size (size_le_alloc _ _)) (fun y hy => by have := (World.ownsRow.lt hRk' y hy).1; omega)
      have HP : Hid (RankPost w (.mk 2 j0 s 0 p cc f) i (.returned (.tuple #[v1, .int .i64 ((i : Int) + 1)])) w1) := by
        refine ⟨v1, rfl, ?_, hb1⟩
        rw [← HZ.out] at hR1
        exact ownsRow_mono hR1 (by omega)
      clear ho hg hn hRk hRk' hR1 x2
      go_wp2
      go_ret2
      exact HP.out
end Go.Proofs.Ytpknlbibijheaab
