import Derived.Test.YtpknlbibijheaabPack35
namespace Go.Proofs.Ytpknlbibijheaab
open Go.RowKit
set_option maxRecDepth 8000

def RankC (t : VT) : Prop := ∀ (w : World) (base : Nat) (L : List PT) (g c i : Nat) (rest : List PT), w.ownsRow base 103 4 (.slice (some ⟨g, 0, none⟩) L.length c) L.length (ptCells L) → L.drop i = flatP t ++ rest → L.length ≤ 12 → Val t →
  Calls Try.prog 51 #[.slice (some ⟨g, 0, none⟩) L.length c, .int .i64 i] w fun r w' => RankPost w t i r w'
/-- the bytes of the first j items -/
def ranksN (f : Nat → VT) (j : Nat) : List Int := (List.range j).flatMap fun q => rankB (f q)
theorem ranksN_succ (f : Nat → VT) (j : Nat) : ranksN f (j + 1) = ranksN f j ++ rankB (f j) := by simp [ranksN, List.range_succ, List.flatMap_append]

theorem flatN_pre (f : Nat → VT) {j n : Nat} (h : j ≤ n) : ∃ X, flatN f n = flatN f j ++ X := by
  induction h with
  | refl => exact ⟨[], by simp⟩
  | step _ ih =>
    obtain ⟨X, hX⟩ := ih
    exact ⟨X ++ flatP (f _), by rw [flatN_succ, hX, List.append_assoc]⟩

set_option maxHeartbeats 4000000 in
theorem rank_list (s : ByteArray) (n : Nat) (g c i : Nat) (j0 : Int) (p : Option Addr) (cc : Nat) (f : Nat → VT) (w : World) (base : Nat) (L rest : List PT) (ih : ∀ j, RankC (f j)) (hL : w.ownsRow base 103 4 (.slice (some ⟨g, 0, none⟩) L.length c) L.length (ptCells L)) (hd : L.drop i = flatP (.mk 3 j0 s n p cc f) ++ rest) (hlen : L.length ≤ 12) (hv : Val (.mk 3 j0 s n p cc f))
    (hi : i < L.length)
    (c0 : w.cell? ⟨g, i * 4, none⟩ = some (.int .i64 3)) (c1 : w.cell? ⟨g, i * 4 + 1, none⟩ = some (.int .i64 j0)) (c2 : w.cell? ⟨g, i * 4 + 2, none⟩ = some (.string s)) (c3 : w.cell? ⟨g, i * 4 + 3, none⟩ = some (.int .i64 n)) :
    Calls Try.prog 51 #[.slice (some ⟨g, 0, none⟩) L.length c, .int .i64 i] w fun r w' => RankPost w (.mk 3 j0 s n p cc f) i r w' := by
  have hi' : (i : Int) < (L.length : Int) := by omega
  obtain ⟨i0, Kd⟩ := kindB
  have hW : Below w.heap.size w ((w.alloc (.cells #[.int .i64 3, .int .i64 j0, .string s, .int .i64 n] 103)).alloc (.cells #[.int .u8 4] 5)) := ((Below.refl _ _).alloc (Nat.le_refl _) _).alloc (by simp) _
  have hP : Box ((w.alloc (.cells #[.int .i64 3, .int .i64 j0, .string s, .int .i64 n] 103)).alloc (.cells #[.int .u8 4] 5)) w.heap.size #[.int .i64 3, .int .i64 j0, .string s, .int .i64 n] 103 := (Box.new w _ 103).below ((Below.refl _ _).alloc (Nat.le_refl _) _)
  have hR : OwnBy (w.heap.size + 1) ((w.alloc (.cells #[.int .i64 3, .int .i64 j0, .string s, .int .i64 n] 103)).alloc (.cells #[.int .u8 4] 5)) (.slice (some ⟨w.heap.size + 1, 0, none⟩) 1 1) ([4] ++ ranksN f 0) := by
    have h := row_one (w.alloc (.cells #[.int .i64 3, .int .i64 j0, .string s, .int .i64 n] 103)) 4
    rw [show (w.alloc (.cells #[.int .i64 3, .int .i64 j0, .string s, .int .i64 n] 103)).heap.size = w.heap.size + 1 by simp] at h
    exact h
  have HL : Hid (w.ownsRow base 103 4 (.slice (some ⟨g, 0, none⟩) L.length c) L.length (ptCells L)) := hL
  have HV : Hid (∀ j, j < n → Val (f j)) := hv.2
  have hd1 : L.drop (i + 1) = flatN f n ++ rest := by
    rw [← List.drop_drop, hd, flatP_eq]; rfl
  have HD : Hid (∀ j, j < n → ∃ rest', L.drop (i + 1 + (flatN f j).length) = flatP (f j) ++ rest') := by
    intro j hj
    obtain ⟨X, hX⟩ := flatN_pre f (show j + 1 ≤ n from hj)
    refine ⟨X ++ rest, ?_⟩
    rw [← List.drop_drop, hd1, hX, flatN_succ, List.append_assoc, List.append_assoc, List.drop_left]
  have HLe : Hid (∀ j, j ≤ n → i + 1 + (flatN f j).length ≤ 12) := by
    intro j hj
    obtain ⟨X, hX⟩ := flatN_pre f hj
    have h1 := congrArg List.length hd1
    rw [hX] at h1
    simp only [List.length_drop, List.length_append] at h1
    omega
  have HRl : Hid (∀ j, j ≤ n → (ranksN f j).length ≤ 60 * (flatN f j).length) := fun j hj => flatMap_len _ _ j fun q hq => rank_len (f q) (hv.2 q (by omega))
  have hn6 : n ≤ 6 := hv.1.2.2.1
  clear hL hv hd hd1
  go_enter Try.func51, Try.ntmps51
  go_wp2_with fail
  go_loopw [7, 8, 10] (fun v a x wr => ∃ k : Nat, k ≤ n ∧ x = .int .i64 k ∧ a = .int .i64 ((i + 1 + (flatN f k).length : Nat) : Int) ∧ OwnBy (w.heap.size + 1) wr v ([4] ++ ranksN f k) ∧ Box wr w.heap.size #[.int .i64 3, .int .i64 j0, .string s, .int .i64 n] 103 ∧ Below w.heap.size w wr) (fun _ _ x _ => n - (intOf x).toNat)
  case atStart => exact ⟨0, by omega, rfl, by simp [flatN], hR, hP, hW⟩
  case round =>
    obtain ⟨k, hk, rfl, rfl, hRk, hPk, hbk⟩ := hrel
    clear hR hP hW c0 c1 c2 c3
    have x3 := hPk.cell 3
    simp at x3
    by_cases hlt : k < n
    · have hlt' : (k : Int) < (n : Int) := by omega
      obtain ⟨rest', hr'⟩ := HD.out k hlt
      have HC : Hid (Calls Try.prog 51 #[.slice (some ⟨g, 0, none⟩) L.length c, .int .i64 ((i + 1 + (flatN f k).length : Nat) : Int)] wr fun r w' => RankPost wr (f k) (i + 1 + (flatN f k).length) r w') :=
        ih k wr base L g c (i + 1 + (flatN f k).length) rest' (ownsRow_keep HL.out fun y _ hl => hbk.block y hl) hr' hlen (HV.out k hlt)
      have HS : Hid (i + 1 + (flatN f k).length + (flatP (f k)).length = i + 1 + (flatN f (k + 1)).length) := by unfold Hid; rw [flatN_succ, List.length_append]; omega
      have HRs : Hid ([4] ++ ranksN f k ++ rankB (f k) = [4] ++ ranksN f (k + 1)) := by unfold Hid; rw [ranksN_succ, List.append_assoc]
      have HLr : Hid (([4] ++ ranksN f k).length ≤ 1000 ∧ (rankB (f k)).length ≤ 1000 ∧ 0 < (rankB (f k)).length) := by
        have h1 := HRl.out k (by omega)
        have h2 := HLe.out k (by omega)
        have h3 := rank_len (f k) (HV.out k hlt)
        have h4 := HLe.out (k + 1) (by omega)
        rw [flatN_succ, List.length_append] at h4
        refine ⟨by simp only [List.length_append, List.length_cons, List.length_nil]; omega, by omega, ?_⟩
        cases f k with
        | nil => show 0 < 1; omega
        | mk k i s n p c f => rw [rankB_eq]; simp
      clear hr' HD HV HL
      obtain ⟨A, HA⟩ : ∃ A, Hid (i + 1 + (flatN f k).length = A) := ⟨i + 1 + (flatN f k).length, by unfold Hid; rfl⟩
      obtain ⟨Z, HZ⟩ : ∃ Z, Hid ([4] ++ ranksN f k = Z) := ⟨[4] ++ ranksN f k, by unfold Hid; rfl⟩
      rw [HA.out] at HC HS
      rw [HZ.out] at HRs HLr hRk
      rw [HA.out]
      clear HA HZ
      have hRk' := hRk
      unfold OwnBy at hRk'
      go_wp2_with (go_at_call 51; refine HC.out.mono ?_)
      intro e w1 hP
      obtain ⟨v1, rfl, ho1, hb1⟩ := hP
      have hO1 : OwnBy _ w1 v1 (rankB (f k)) := ho1
      obtain ⟨b1, cp, hv1, hbb, hbl, hcell⟩ := hO1.slice HLr.out.2.2
      have hP1 := hPk.below hb1
      have hR1 := hRk.below hb1
      unfold OwnBy at hR1
      have hbw1 : Below w.heap.size w w1 := hbk.trans (hb1.mono hbk.size)
      have hl1 := hP1.lt
      subst hv1
      rw [HS.out]
      have HN : Hid (∀ j u, ((rankB (f k)).map (Value.int .u8))[j]? = some u → w1.cell? ((⟨b1, 0, none⟩ : Addr).add j) = some u) := hcell
      obtain ⟨Y, HY⟩ : ∃ Y, Hid (rankB (f k) = Y) := ⟨rankB (f k), by unfold Hid; rfl⟩
      rw [HY.out] at HN HRs HLr
      rw [HY.out]
      clear ho1 hO1 hcell hb1 HC hRk hRk' hPk x3 hbk HY
      go_wp2_with (at_builtin; refine wpList_app rfl (.tmp 74) (.tmp 75) 91 5 i0 _ 1 1 Kd rfl (w.heap.size + 1) u7 Z.length _ rfl hR1 ⟨b1, 0, none⟩ Y.length cp (Y.map (Value.int .u8)) rfl ?_ HN.out (ints_oneCell _ _) ?_ ?_ ?_ ?_)
      · simp
      · have := HLr.out; omega
      · have := HLr.out; omega
      · omega
      intro v2 w2 ho hg hn
      have HR2 : Hid (OwnBy (w.heap.size + 1) w2 v2 ([4] ++ ranksN f (k + 1))) := by
        unfold Hid
        rw [← HRs.out]
        exact OwnBy.app hR1 ho
      have hP2 : Box w2 w.heap.size #[.int .i64 3, .int .i64 j0, .string s, .int .i64 n] 103 := hP1.kept (hg.block _ hP1.lt (fun e => by have := (World.ownsRow.lt hR1 _ e.symm).1; omega))
      have hb2 : Below w.heap.size w w2 := hbw1.grown hg hbw1.size (fun y hy => by have := (World.ownsRow.lt hR1 y hy).1; omega)
      clear ho hg hn hR1 HN HRs HLr hP1 hbw1
      go_wp2
      go_roundw
      case rel => exact ⟨k + 1, by omega, by go_num, rfl, HR2.out, hP2, hb2⟩
      case measure => simp [intOf]; omega
    · obtain rfl : k = n := by omega
      have hx : ¬ (k : Int) < (k : Int) := by omega
      have HZl : Hid (([4] ++ ranksN f k).length ≤ 1000) := by
        have h1 := HRl.out k (by omega)
        have h2 := HLe.out k (by omega)
        unfold Hid; simp only [List.length_append, List.length_cons, List.length_nil]; omega
      obtain ⟨Z, HZ⟩ : ∃ Z, Hid ([4] ++ ranksN f k = Z) := ⟨[4] ++ ranksN f k, by unfold Hid; rfl⟩
      rw [HZ.out] at hRk HZl
      have HF : Hid (i + 1 + (flatN f k).length = i + (flatP (.mk 3 j0 s k p cc f)).length) := by
        unfold Hid; rw [flatP_eq]; simp only [List.length_cons, flatN]; omega
      obtain ⟨A, HA⟩ : ∃ A, Hid (i + 1 + (flatN f k).length = A) := ⟨i + 1 + (flatN f k).length, by unfold Hid; rfl⟩
      rw [HA.out] at HF
      rw [HA.out]
      have hRk' := hRk
      unfold OwnBy at hRk'
      clear ih HL HV HD HLe HRl HA
      go_wp2_with (at_builtin; refine wpList_app rfl (.tmp 78) (.tmp 79) 91 5 i0 _ 1 1 Kd rfl (w.heap.size + 1) u7 Z.length _ rfl (hRk'.alloc _) ⟨wr.heap.size, 0, none⟩ 1 1 [.int .u8 0] rfl rfl (cell_one_new _ _ _) ?_ ?_ ?_ ?_ ?_)
      · first | exact ints_oneCell .u8 [_] | rfl
      · have := HZl.out; omega
      · have := HZl.out; omega
      · have h := size_le_alloc wr (.cells #[.int .u8 0] 5); have := hPk.lt; omega
      intro v1 w1 ho hg hn
      have hR1 : OwnBy (w.heap.size + 1) w1 v1 (Z ++ [0]) := OwnBy.app (ys := [0]) hRk' ho
      have hb1 : Below w.heap.size w w1 := (hbk.alloc hbk.size _).grown hg (Nat.le_trans hbk.size (size_le_alloc _ _)) (fun y hy => by have := (World.ownsRow.lt hRk' y hy).1; omega)
      have HP : Hid (RankPost w (.mk 3 j0 s k p cc f) i (.returned (.tuple #[v1, .int .i64 (A : Int)])) w1) := by
        refine ⟨v1, by rw [← HF.out], ?_, hb1⟩
        rw [← HZ.out] at hR1
        have h := ownsRow_mono hR1 (show w.heap.size ≤ w.heap.size + 1 by omega)
        have e : rankB (.mk 3 j0 s k p cc f) = [4] ++ ranksN f k ++ [0] := by rw [rankB_eq]; rfl
        rw [e]; exact h
      clear ho hg hn hRk hRk' hR1 x3
      go_wp2
      go_ret2
      exact HP.out
end Go.Proofs.Ytpknlbibijheaab
