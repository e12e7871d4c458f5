import Derived.Test.YtbeibhmbaofjhaaPack21
namespace Go.Proofs.Ytbeibhmbaofjhaa
open Go.RowKit
set_option maxRecDepth 8000
/-- what made sends of the data -/
def mdO (l : LT BY) (j : Nat) : List FA := if 1000 < (l.item j).n then [] else [⟨((j % 3 : Nat) : Int), (((j + 1) % 3 : Nat) : Int), (l.item j).zs⟩]
def mdA (l : LT BY) (k : Nat) : List FA := (List.range k).flatMap (mdO l)
theorem mdA_succ (l : LT BY) (k : Nat) : mdA l (k + 1) = mdA l k ++ mdO l k := by
  unfold mdA
  rw [List.range_succ, List.flatMap_append]
  simp
theorem mdA_len (l : LT BY) : ∀ k, (mdA l k).length ≤ k
  | 0 => by simp [mdA]
  | k + 1 => by
    rw [mdA_succ, List.length_append]
    have := mdA_len l k
    have h1 : (mdO l k).length ≤ 1 := by unfold mdO; split <;> simp
    omega
set_option maxHeartbeats 8000000 in
/-- made -/
theorem made_any (l : LT BY) (w : World) (S : Nat → Prop) (hD : LT.In elBy w S l) :
    Calls Try.prog 5 #[.slice l.p l.n l.c] w fun e w' => ∃ b, e = .returned (.pointer (some ⟨b, 0, none⟩)) ∧ En w.heap.size w w' b 3 (mdA l (min l.n 40)) := by
  have HN := hid (new_en (B := w.heap.size) (W := w) 3 (Below.refl _ _) (Nat.le_refl _) (by omega))
  have hdn := hD.nn
  have HD0 := hid hD
  clear hD
  go_enter Try.func5, Try.ntmps5
  go_wp2_with fail
  refine HN.out.mono ?_
  rintro e w2 ⟨rfl, hE2⟩
  obtain ⟨b, hb⟩ : ∃ b, b = w.heap.size := ⟨_, rfl⟩
  have HE2 : Hid (En w.heap.size w w2 b 3 []) := by rw [hb]; exact hE2
  rw [← hb]
  clear hE2 hb HN
  go_wp2_with fail
  go_loopw [5] (fun x wr => ∃ i : Nat, x = .int .i64 (i : Int) ∧ i ≤ min l.n 40 ∧ En w.heap.size w wr b 3 (mdA l i)) (fun x _ => 40 - (intOf x).toNat)
  case atStart => exact ⟨0, rfl, by omega, HE2.out⟩
  case round =>
    obtain ⟨i, rfl, hi, hE⟩ := hrel
    have HE := hid hE
    clear hE HE2
    by_cases hlt : i < l.n
    case neg =>
      have hlt' : ¬ (i : Int) < (l.n : Int) := by omega
      have HQ : Hid (En w.heap.size w wr b 3 (mdA l (min l.n 40))) := by
        have e : min l.n 40 = i := by omega
        rw [e]
        exact HE.out
      go_wp2
      exact bodyPost_ret (v := .pointer (some ⟨b, 0, none⟩)) (by simp [results, Try.results5, go_sem]) rfl ⟨b, rfl, HQ.out⟩
    case pos =>
      have hlt' : (i : Int) < (l.n : Int) := by omega
      by_cases h40 : i < 40
      case neg =>
        have h40' : ¬ (i : Int) < 40 := by omega
        have HQ : Hid (En w.heap.size w wr b 3 (mdA l (min l.n 40))) := by
          have e : min l.n 40 = i := by omega
          rw [e]
          exact HE.out
        go_wp2
        exact bodyPost_ret (v := .pointer (some ⟨b, 0, none⟩)) (by simp [results, Try.results5, go_sem]) rfl ⟨b, rfl, HQ.out⟩
      case pos =>
        have h40' : (i : Int) < 40 := by omega
        obtain ⟨xb, xo, hxp, _, _⟩ := HD0.out.at_ (show 0 < l.n by omega)
        rw [hxp]
        obtain ⟨hxl, x0, hxs, hxb⟩ := bys_at' HD0.out HE.out.bel hxp (j := i) (by omega)
        obtain ⟨N, hN⟩ : ∃ N : Nat, N = (l.item i).zs.length := ⟨_, rfl⟩
        have hxn : (l.item i).n = N := by rw [hN, BY.len]
        rw [hxn] at x0
        have hml := mdA_len l i
        by_cases h1k : N ≤ 1000
        · have h1k' : ¬ (1000 : Int) < (N : Int) := by omega
          obtain ⟨r0, hr0⟩ : ∃ r : Nat, r = i % 3 := ⟨_, rfl⟩
          obtain ⟨r1, hr1⟩ : ∃ r : Nat, r = (i + 1) % 3 := ⟨_, rfl⟩
          have hq0 : (i : Int).tmod 3 = (r0 : Int) := by rw [tmod3, hr0]
          have hq0' : (i : Int) % 3 = (r0 : Int) := by rw [hr0]; omega
          have hq1 : ((i : Int) + 1).tmod 3 = (r1 : Int) := by have := tmod3 (i + 1); rw [hr1]; push_cast at this ⊢; exact this
          have hq1' : ((i : Int) + 1) % 3 = (r1 : Int) := by rw [hr1]; omega
          have HS := hid (send_en HE.out (r0 : Int) (r1 : Int) _ _ _ hxs hxb 0 (by unfold sendE; rw [if_neg (by omega), if_neg (by omega), if_neg (by omega)]))
          have HL : Hid (mdA l i ++ [⟨(r0 : Int), (r1 : Int), (l.item i).zs⟩] = mdA l (i + 1)) := by
            show _ = _
            rw [mdA_succ, mdO, if_neg (by omega), hr0, hr1]
          rw [← hN] at HS
          rw [HL.out] at HS
          have hr3 : (r0 : Int) ≤ 2 := by omega
          have hr4 : (r1 : Int) ≤ 2 := by omega
          clear hxs hxb hN hxn hr0 hr1 hml
          go_wp2_with fail
          refine HS.out.mono ?_
          rintro e w4 ⟨rfl, hq, _⟩
          have HE4 := hid (hq (by first | rfl | trivial))
          clear hq HS x0
          go_wp2
          go_roundw
          case rel => exact ⟨i + 1, by go_num, by omega, HE4.out⟩
          case measure => simp [intOf]; omega
        · have h1k' : (1000 : Int) < (N : Int) := by omega
          have HL : Hid (En w.heap.size w wr b 3 (mdA l (i + 1))) := by
            show En _ _ _ _ _ _
            rw [mdA_succ, mdO, if_pos (by omega), List.append_nil]
            exact HE.out
          clear hxs hxb hN hxn hml
          go_wp2
          all_goals exact ⟨⟨i + 1, by go_num, by omega, HL.out⟩, by simp [intOf]; omega⟩
end Go.Proofs.Ytbeibhmbaofjhaa
