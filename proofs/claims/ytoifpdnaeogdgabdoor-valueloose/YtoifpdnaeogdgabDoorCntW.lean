import Derived.Test.YtoifpdnaeogdgabDoorPack17
import Derived.Test.YtoifpdnaeogdgabDoorPack3
namespace Go.Proofs.YtoifpdnaeogdgabDoor
open Go.RowKit
set_option maxRecDepth 8000
theorem not_bad {k i : Int} {s : ByteArray} {n d : Nat} (h : fitB k i s n = false ∨ (k = 3 ∧ 3 ≤ d) ∨ 24 < s.size ∨ 6 < n) (h0 : 0 ≤ k ∧ k ≤ 3) (h1 : (n : Int) ≤ 6) (h2 : (s.size : Int) ≤ 24) (h3 : i = 0 ∨ k = 1) (h4 : s.toList = [] ∨ k = 2) (h5 : ¬ 0 < n ∨ k = 3) (h6 : k = 3 → (d : Int) < 3) : False := by
  rcases h with h | h | h | h
  · have h7 : fitB k i s n = true := by
      simp only [fitB, Bool.and_eq_true, Bool.or_eq_true, decide_eq_true_eq, List.isEmpty_iff]
      exact ⟨⟨⟨⟨h0.1, h0.2⟩, h3⟩, h4⟩, h5.imp (fun h => by omega) id⟩
    rw [h7] at h
    cases h
  · have := h6 h.1
    omega
  · omega
  · omega
set_option maxHeartbeats 2000000 in
theorem lawCount_any (t : VT) : ∀ (d : Nat) (w : World) (S : Nat → Prop), VT.In w S t → t.total ≤ 10000 → d ≤ 10000 →
    Calls Tryd.prog 14 #[t.val, .int .i64 (d : Int)] w fun e w' => e = .returned (.int .i64 (cnt t d : Int)) ∧ Below w.heap.size w w' := by
  induction t with
  | nil => intro d w S hin; exact hin.elim
  | mk k i s n p c f ih =>
    intro d w S hin ht hd
    have HI := hid hin
    have hnn := hin.fit.nn
    simp only [VT.n_mk] at hnn
    have hn1 : n ≤ 10000 := by rw [VT.total_upto] at ht; simp only [VT.n] at ht; omega
    simp only [VT.val, VT.kind_mk, VT.int_mk, VT.text_mk, VT.p_mk, VT.n_mk, VT.c_mk]
    have HTot : Hid (∀ j, j < n → (f j).total ≤ 10000) := fun j hj => Nat.le_trans (VT.item_total (.mk k i s n p c f) hj) ht
    clear hin
    by_cases hbad : fitB k i s n = false ∨ (k = 3 ∧ 3 ≤ d) ∨ 24 < s.size ∨ 6 < n
    · have hE : cnt (.mk k i s n p c f) d = 1000000 := by rw [cnt_eq, if_pos hbad]
      rw [hE]
      have HB := hid hbad
      clear hbad hE ih HI HTot ht
      have hkc : k < 0 ∨ 3 < k ∨ k = 0 ∨ k = 1 ∨ k = 2 ∨ k = 3 := by omega
      rcases hkc with hk | hk | rfl | rfl | rfl | rfl
      all_goals
        go_enter Tryd.func14, Tryd.ntmps14
        go_wp2_with fail
      all_goals first
        | (go_ret; exact ⟨rfl, (Below.refl _ _).alloc (Nat.le_refl _) _⟩)
        | (exfalso; exact not_bad HB.out (by omega) (by omega) (by omega) (by first | exact Or.inl (by assumption) | exact Or.inr rfl) (by first | exact Or.inl (by assumption) | exact Or.inr rfl) (by first | exact Or.inl (by assumption) | exact Or.inr rfl) (fun _ => by omega))
        | (exfalso; exact not_bad (k := 3) (by simpa using HB.out) (by omega) (by omega) (by omega) (by first | exact Or.inl (by assumption) | exact Or.inr rfl) (by first | exact Or.inl (by assumption) | exact Or.inr rfl) (by first | exact Or.inl (by assumption) | exact Or.inr rfl) (fun _ => by omega))
    · have hE : cnt (.mk k i s n p c f) d = 1 + cntN f d n := by rw [cnt_eq, if_neg hbad]; rfl
      have hle := cnt_le (.mk k i s n p c f) d
      rw [hE] at hle ⊢
      have hle2 : 1 + cntN f d n ≤ 10001000000 := by omega
      have hfit : fitB k i s n = true := by
        cases h : fitB k i s n with
        | true => rfl
        | false => exact absurd (Or.inl h) hbad
      have hs24 : s.size ≤ 24 := by
        rcases Nat.lt_or_ge 24 s.size with h | h
        · exact absurd (Or.inr (Or.inr (Or.inl h))) hbad
        · exact h
      have hn6 : n ≤ 6 := by
        rcases Nat.lt_or_ge 6 n with h | h
        · exact absurd (Or.inr (Or.inr (Or.inr h))) hbad
        · exact h
      have hd3 : k = 3 → d < 3 := fun h => by
        rcases Nat.lt_or_ge d 3 with h2 | h2
        · exact h2
        · exact absurd (Or.inr (Or.inl ⟨h, h2⟩)) hbad
      simp only [fitB, Bool.and_eq_true, Bool.or_eq_true, decide_eq_true_eq, List.isEmpty_iff] at hfit
      obtain ⟨⟨⟨⟨hk0, hk3⟩, hi⟩, hs⟩, hn⟩ := hfit
      have hs24' : ¬ (24 : Int) < (s.size : Int) := by omega
      have hn6' : ¬ (6 : Int) < (n : Int) := by omega
      clear hbad hE hle ht
      rcases (by omega : k = 0 ∨ k = 1 ∨ k = 2 ∨ k = 3) with rfl | rfl | rfl | rfl
      · have hi := hi.resolve_right (by decide)
        have hs := hs.resolve_right (by decide)
        have hn := hn.resolve_right (by decide)
        subst hi hn
        clear ih HI HTot hd3
        go_enter Tryd.func14, Tryd.ntmps14
        go_wp2_with fail
        refine wp_loop_rounds 1 ?_
        rw [rounds_succ]
        go_wp2
        go_ret
        exact ⟨by simp [cntN], (Below.refl _ _).alloc (Nat.le_refl _) _⟩
      · have hs := hs.resolve_right (by decide)
        have hn := hn.resolve_right (by decide)
        subst hn
        clear ih HI HTot hd3 hi
        by_cases hi0 : i = 0
        all_goals
          go_enter Tryd.func14, Tryd.ntmps14
          go_wp2_with fail
          refine wp_loop_rounds 1 ?_
          rw [rounds_succ]
          go_wp2
          go_ret
          exact ⟨by simp [cntN], (Below.refl _ _).alloc (Nat.le_refl _) _⟩
      · have hi := hi.resolve_right (by decide)
        have hn := hn.resolve_right (by decide)
        subst hi hn
        clear ih HI HTot hd3 hs
        by_cases hs0 : s.toList = []
        all_goals
          go_enter Tryd.func14, Tryd.ntmps14
          go_wp2_with fail
          refine wp_loop_rounds 1 ?_
          rw [rounds_succ]
          go_wp2
          go_ret
          exact ⟨by simp [cntN], (Below.refl _ _).alloc (Nat.le_refl _) _⟩
      · have hi := hi.resolve_right (by decide)
        have hs := hs.resolve_right (by decide)
        subst hi
        have hd3' : ¬ (3 : Int) ≤ (d : Int) := by have := hd3 rfl; omega
        clear hd3 hn
        by_cases hn0 : n = 0
        · subst hn0
          clear ih HI HTot
          go_enter Tryd.func14, Tryd.ntmps14
          go_wp2_with fail
          refine wp_loop_rounds 1 ?_
          rw [rounds_succ]
          go_wp2
          go_ret
          exact ⟨by simp [cntN], (Below.refl _ _).alloc (Nat.le_refl _) _⟩
        · have hn0' : 0 < n := by omega
          go_enter Tryd.func14, Tryd.ntmps14
          go_wp2_with fail
          have hS1 : Box (w.alloc (.cells #[.int .i64 3, .int .i64 0, .string s, .slice p n c] 24)) w.heap.size #[.int .i64 3, .int .i64 0, .string s, .slice p n c] 24 := Box.new _ _ _
          have hS2 : Below w.heap.size w (w.alloc (.cells #[.int .i64 3, .int .i64 0, .string s, .slice p n c] 24)) := (Below.refl _ _).alloc (Nat.le_refl _) _
          go_loopw [5, 6] (fun x y wr => ∃ j : Nat, j ≤ n ∧ x = .int .i64 ((1 + cntN f d j : Nat) : Int) ∧ y = .int .i64 (j : Int) ∧ Box wr w.heap.size #[.int .i64 3, .int .i64 0, .string s, .slice p n c] 24 ∧ Below w.heap.size w wr) (fun _ y _ => n - (intOf y).toNat)
          case atStart => exact ⟨0, Nat.zero_le _, rfl, rfl, hS1, hS2⟩
          case round =>
            obtain ⟨j, hj, rfl, rfl, hB0, hbel⟩ := hrel
            clear hS1 hS2
            have x3 := hB0.cell 3
            simp at x3
            by_cases hlt : j < n
            · have hlt' : (j : Int) < (n : Int) := by omega
              obtain ⟨bb, o, hp, hSb, hbl, hat⟩ := HI.out.at_ (show 0 < (VT.mk 3 0 s n p c f).n from hn0')
              simp only [VT.p_mk] at hp
              subst hp
              obtain ⟨a0, a1, a2, a3⟩ := (hat j hlt).kept (hbel.block bb hbl)
              simp only [VT.item_mk] at a0 a1 a2 a3
              have HC : Hid (Calls Tryd.prog 14 #[(f j).val, .int .i64 ((d : Int) + 1)] wr fun e w' => e = .returned (.int .i64 (cnt (f j) (d + 1) : Int)) ∧ Below wr.heap.size wr w') := by
                have h := ih j (d + 1) wr (fun b => S b ∧ b < w.heap.size) (((HI.out.sub hlt).mono fun b hb hl => ⟨hb, hl⟩).kept hbel.size (fun b hb _ => hbel.block b hb.2)) (HTot.out j hlt) (by omega)
                rw [show ((d + 1 : Nat) : Int) = (d : Int) + 1 by omega] at h
                exact h
              unfold VT.val at HC
              have hm1 := cntN_mono f d (show j + 1 ≤ n by omega)
              have hs1 := cntN_succ f d j
              have HS1 := hid hs1
              have hq1 : cntN f d j ≤ 10001000000 := by omega
              have hq2 : cnt (f j) (d + 1) ≤ 10001000000 := by omega
              clear hat ih HI HTot hm1 hs1
              go_wp2_with (go_at_call 14; refine HC.out.mono ?_)
              rintro e w4 ⟨rfl, hb4⟩
              have HB := hid (And.intro (hB0.below hb4) (hbel.trans (hb4.mono hbel.size)))
              clear hb4 hB0 hbel HC a0 a1 a2 a3 x3
              go_wp2
              go_roundw
              case rel => exact ⟨j + 1, by omega, by rw [HS1.out]; go_num, by go_num, HB.out.1, HB.out.2⟩
              case measure => simp [intOf]; omega
            · obtain rfl : j = n := by omega
              clear ih HI HTot hB0
              go_wp2
              go_ret
              exact ⟨by simp, hbel⟩
end Go.Proofs.YtoifpdnaeogdgabDoor
