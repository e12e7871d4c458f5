import Derived.Test.YtehpdhhlggegdaaDoorPack7
import Derived.Test.YtehpdhhlggegdaaDoorPack3
namespace Go.Proofs.YtehpdhhlggegdaaDoor
open Go.RowKit
set_option maxRecDepth 8000
theorem not_bad {k i : Int} {s : ByteArray} {n d : Nat} (h : fitB k i s n = false ∨ (k = 3 ∧ 3 ≤ d) ∨ 24 < s.size ∨ 6 < n) (h0 : 0 ≤ k ∧ k ≤ 3) (h1 : (n : Int) ≤ 6) (h2 : (s.size : Int) ≤ 24) (h3 : i = 0 ∨ k = 1) (h4 : s.toList = [] ∨ k = 2) (h5 : ¬ 0 < n ∨ k = 3) (h6 : k = 3 → (d : Int) < 3) : False := by
  rcases h with h | h | h | h
  · have h7 : fitB k i s n = true := by
      simp only [fitB, Bool.and_eq_true, Bool.or_eq_true, decide_eq_true_eq, List.isEmpty_iff]
      exact ⟨⟨⟨⟨h0.1, h0.2⟩, h3⟩, h4⟩, h5.imp (fun h => by omega) id⟩
    rw [h7] at h
    cases h
  · have := h6 h.1
    omega
  · omega
  · omega
set_option maxHeartbeats 2000000 in
theorem count_any (t : VT) : ∀ (d : Nat) (w : World) (S : Nat → Prop), VT.In w S t → t.total ≤ 10000 → d ≤ 10000 →
    Calls Tryd.prog 14 #[t.val, .int .i64 (d : Int)] w fun e w' => e = .returned (.int .i64 (cnt t d : Int)) ∧ Below w.heap.size w w' := by
  induction t with
  | nil => intro d w S hin; exact hin.elim
  | mk k i s n p c f ih =>
    intro d w S hin ht hd
    have HI := hid hin
    have hnn := hin.fit.nn
    simp only [VT.n_mk] at hnn
    have hn1 : n ≤ 10000 := by rw [VT.total_upto] at ht; simp only [VT.n] at ht; omega
    simp only [VT.val, VT.kind_mk, VT.int_mk, VT.text_mk, VT.p_mk, VT.n_mk, VT.c_mk]
    have HTot : Hid (∀ j, j < n → (f j).total ≤ 10000) := fun j hj => Nat.le_trans (VT.item_total (.mk k i s n p c f) hj) ht
    clear hin
    by_cases hbad : fitB k i s n = false ∨ (k = 3 ∧ 3 ≤ d) ∨ 24 < s.size ∨ 6 < n
    · have hE : cnt (.mk k i s n p c f) d = 1000000 := by rw [cnt_eq, if_pos hbad]
      rw [hE]
      have HB := hid hbad
      clear hbad hE ih HI HTot ht
      have hkc : k < 0 ∨ 3 < k ∨ k = 0 ∨ k = 1 ∨ k = 2 ∨ k = 3 := by omega
      rcases hkc with hk | hk | rfl | rfl | rfl | rfl
      all_goals
        go_enter Tryd.func14, Tryd.ntmps14
        go_wp2_with fail
      all_goals first
        | (go_ret; exact ⟨rfl, (Below.refl _ _).alloc (Nat.le_refl _) _⟩)
        | (exfalso; exact not_bad HB.out (by omega) (by omega) (by omega) (by first | exact Or.inl (by assumption) | exact Or.inr rfl) (by first | exact Or.inl (by assumption) | exact Or.inr rfl) (by first | exact Or.inl (by assumption) | exact Or.inr rfl) (fun _ => by omega))
        | (exfalso; exact not_bad (k := 3) (by simpa using HB.out) (by omega) (by omega) (by omega) (by first | exact Or.inl (by assumption) | exact Or.inr rfl) (by first | exact Or.inl (by assumption) | exact Or.inr rfl) (by first | exact Or.inl (by assumption) | exact Or.inr rfl) (fun _ => by omega))
    · have hE : cnt (.mk k i s n p c f) d = 1 + cntN f d n := by rw [cnt_eq, if_neg hbad]; rfl
      have hle := cnt_le (.mk k i s n p c f) d
      rw [hE] at hle ⊢
      have hle2 : 1 + cntN f d n ≤ 10001000000 := by omega
      have hfit : fitB k i s n = true := by
        cases h : fitB k i s n with
        | true => rfl
        | false => exact absurd (Or.inl h) hbad
      have hs24 : s.size ≤ 24 := by
        rcases Nat.lt_or_ge 24 s.size with h | h
        · exact absurd (Or.inr (Or.inr (Or.inl h))) hbad
        · exact h
      have hn6 : n ≤ 6 := by
        rcases Nat.lt_or_ge 6 n with h | h
        · exact absurd (Or.inr (Or.inr (Or.inr h))) hbad
        · exact h
      have hd3 : k = 3 → d < 3 := fun h => by
        rcases Nat.lt_or_ge d 3 with h2 | h2
        · exact h2
        · exact absurd (Or.inr (Or.inl ⟨h, h2⟩)) hbad
      simp only [fitB, Bool.and_eq_true, Bool.or_eq_true, decide_eq_true_eq, List.isEmpty_iff] at hfit
      obtain ⟨⟨⟨⟨hk0, hk3⟩, hi⟩, hs⟩, hn⟩ := hfit
      have hs24' : ¬ (24 : Int) < (s.size : Int) := by omega
      have hn6' : ¬ (6 : Int) < (n : Int) := by omega
      clear hbad hE hle ht
      rcases (by omega : k = 0 ∨ k = 1 ∨ k = 2 ∨ k = 3) with rfl | rfl | rfl | rfl
      · have hi := hi.resolve_right (by decide)
        have hs := hs.resolve_right (by decide)
        have hn := hn.resolve_right (by decide)
        subst hi hn
        clear ih HI HTot hd3
        go_enter Tryd.func14, Tryd.ntmps14
        go_wp2_with fail
        refine wp_loop_rounds 1 ?_
        rw [rounds_succ]
        go_wp2
        go_ret
        exact ⟨by simp [cntN], (Below.refl _ _).alloc (Nat.le_refl _) _⟩
      · have hs := hs.resolve_right (by decide)
        have hn := hn.resolve_right (by decide)
        subst hn
        clear ih HI HTot hd3 hi
        by_cases hi0 : i = 0
        all_goals
          go_enter Tryd.func14, Tryd.ntmps14
          go_wp2_with fail
          refine wp_loop_rounds 1 ?_
          rw [rounds_succ]
          go_wp2
          go_ret
          exact ⟨by simp [cntN], (Below.refl _ _).alloc (Nat.le_refl _) _⟩
      · have hi := hi.resolve_right (by decide)
        have hn := hn.resolve_right (by decide)
        subst hi hn
        clear ih HI HTot hd3 hs
        by_cases hs0 : s.toList = []
        all_goals
          go_enter Tryd.func14, Tryd.ntmps14
          go_wp2_with fail
          refine wp_loop_rounds 1 ?_
          rw [rounds_succ]
          go_wp2
          go_ret
          exact ⟨by simp [cntN], (Below.refl _ _).alloc (Nat.le_refl _) _⟩
      · have hi := hi.resolve_right (by decide)
        have hs := hs.resolve_right (by decide)
        subst hi
        have hd3' : ¬ (3 : Int) ≤ (d : Int) := by have := hd3 rfl; omega
        clear hd3 hn
        by_cases hn0 : n = 0
        · subst hn0
          clear ih HI HTot
          go_enter Tryd.func14, Tryd.ntmps14
          go_wp2_with fail
          refine wp_loop_rounds 1 ?_
          rw [rounds_succ]
          go_wp2
          go_ret
          exact ⟨by simp [cntN], (Below.refl _ _).alloc (Nat.le_refl _) _⟩
        · have hn0' : 0 < n := by omega
          go_enter Tryd.func14, Tryd.ntmps14
          go_wp2_with fail
          have hS1 : Box (w.alloc (.cells #[.int .i64 3, .int .i64 0, .string s, .slice p n c] 24)) w.heap.size #[.int .i64 3, .int .i64 0, .string s, .slice p n c] 24 := Box.new _ _ _
          have hS2 : Below w.heap.size w (w.alloc (.cells #[.int .i64 3, .int .i64 0, .string s, .slice p n c] 24)) := (Below.refl _ _).alloc (Nat.le_refl _) _
          go_loopw [5, 6] (fun x y wr => ∃ j : Nat, j ≤ n ∧ x = .int .i64 ((1 + cntN f d j : Nat) : Int) ∧ y = .int .i64 (j : Int) ∧ Box wr w.heap.size #[.int .i64 3, .int .i64 0, .string s, .slice p n c] 24 ∧ Below w.heap.size w wr) (fun _ y _ => n - (intOf y).toNat)
          case atStart => exact ⟨0, Nat.zero_le _, rfl, rfl, hS1, hS2⟩
          case round =>
            obtain ⟨j, hj, rfl, rfl, hB0, hbel⟩ := hrel
            clear hS1 hS2
            have x3 := hB0.cell 3
            simp at x3
            by_cases hlt : j < n
            · have hlt' : (j : Int) < (n : Int) := by omega
              obtain ⟨bb, o, hp, hSb, hbl, hat⟩ := HI.out.at_ (show 0 < (VT.mk 3 0 s n p c f).n from hn0')
              simp only [VT.p_mk] at hp
              subst hp
              obtain ⟨a0, a1, a2, a3⟩ := (hat j hlt).kept (hbel.block bb hbl)
              simp only [VT.item_mk] at a0 a1 a2 a3
              have HC : Hid (Calls Tryd.prog 14 #[(f j).val, .int .i64 ((d : Int) + 1)] wr fun e w' => e = .returned (.int .i64 (cnt (f j) (d + 1) : Int)) ∧ Below wr.heap.size wr w') := by
                have h := ih j (d + 1) wr (fun b => S b ∧ b < w.heap.size) (((HI.out.sub hlt).mono fun b hb hl => ⟨hb, hl⟩).kept hbel.size (fun b hb _ => hbel.block b hb.2)) (HTot.out j hlt) (by omega)
                rw [show ((d + 1 : Nat) : Int) = (d : Int) + 1 by omega] at h
                exact h
              unfold VT.val at HC
              have hm1 := cntN_mono f d (show j + 1 ≤ n by omega)
              have hs1 := cntN_succ f d j
              have HS1 := hid hs1
              have hq1 : cntN f d j ≤ 10001000000 := by omega
              have hq2 : cnt (f j) (d + 1) ≤ 10001000000 := by omega
              clear hat ih HI HTot hm1 hs1
              go_wp2_with (go_at_call 14; refine HC.out.mono ?_)
              rintro e w4 ⟨rfl, hb4⟩
              have HB := hid (And.intro (hB0.below hb4) (hbel.trans (hb4.mono hbel.size)))
              clear hb4 hB0 hbel HC a0 a1 a2 a3 x3
              go_wp2
              go_roundw
              case rel => exact ⟨j + 1, by omega, by rw [HS1.out]; go_num, by go_num, HB.out.1, HB.out.2⟩
              case measure => simp [intOf]; omega
            · obtain rfl : j = n := by omega
              clear ih HI HTot hB0
              go_wp2
              go_ret
              exact ⟨by simp, hbel⟩
end Go.Proofs.YtehpdhhlggegdaaDoor

namespace Go.Proofs.YtehpdhhlggegdaaDoor
open Go.RowKit
set_option maxRecDepth 8000
set_option maxHeartbeats 1000000 in
theorem clean_any (t : VT) (w : World) (S : Nat → Prop) (hin : VT.In w S t) (ht : t.total ≤ 10000) :
    Calls Tryd.prog 18 #[t.val] w fun e w' => e = .returned (.agg #[.int .i64 (cleanT t).kind, .int .i64 (cleanT t).int, .string (cleanT t).text, .slice (cleanT t).p (cleanT t).n (cleanT t).c]) ∧ Below w.heap.size w w' := by
  have HC : Hid (∀ W, Below w.heap.size w W → Calls Tryd.prog 14 #[t.val, .int .i64 0] W fun e w' => e = .returned (.int .i64 (cnt t 0 : Int)) ∧ Below W.heap.size W w') := fun W hW => count_any t 0 W S (hin.below hW) ht (by omega)
  have hcl := cnt_le t 0
  have hcc := cnt_clean t
  obtain ⟨k, i, s, n, p, c, f, rfl⟩ := hin.mk_
  simp only [VT.val, VT.kind_mk, VT.int_mk, VT.text_mk, VT.p_mk, VT.n_mk, VT.c_mk] at HC ⊢
  have hc10 : cnt (.mk k i s n p c f) 0 ≤ 10001000000 := by omega
  have HE : Hid (cleanT (.mk k i s n p c f) = if 12 < cnt (.mk k i s n p c f) 0 then zeroT else .mk k i s n p c f) := by
    unfold Hid cleanT
    by_cases h : (chk (.mk k i s n p c f) 0 0).1 = 0
    · rw [if_pos h, if_neg (fun h2 => hcc.1 h2 h)]
    · rw [if_neg h, if_pos (hcc.2 h)]
  clear hin ht hcl hcc
  generalize cnt (.mk k i s n p c f) 0 = N at *
  go_enter Tryd.func18, Tryd.ntmps18
  go_wp2_with fail
  have hS1 : Box ((w.alloc (.cells #[.int .i64 k, .int .i64 i, .string s, .slice p n c] 24)).alloc (.cells #[.int .i64 0, .int .i64 0, .string ⟨#[]⟩, .slice none 0 0] 24)) w.heap.size #[.int .i64 k, .int .i64 i, .string s, .slice p n c] 24 := (Box.new w _ 24).below ((Below.refl _ _).alloc (Nat.le_refl _) _)
  have hS2 : Box ((w.alloc (.cells #[.int .i64 k, .int .i64 i, .string s, .slice p n c] 24)).alloc (.cells #[.int .i64 0, .int .i64 0, .string ⟨#[]⟩, .slice none 0 0] 24)) (w.heap.size + 1) #[.int .i64 0, .int .i64 0, .string ⟨#[]⟩, .slice none 0 0] 24 := by
    have h := Box.new (w.alloc (.cells #[.int .i64 k, .int .i64 i, .string s, .slice p n c] 24)) #[.int .i64 0, .int .i64 0, .string ⟨#[]⟩, .slice none 0 0] 24
    simpa using h
  have hS3 : Below w.heap.size w ((w.alloc (.cells #[.int .i64 k, .int .i64 i, .string s, .slice p n c] 24)).alloc (.cells #[.int .i64 0, .int .i64 0, .string ⟨#[]⟩, .slice none 0 0] 24)) := ((Below.refl _ _).alloc (Nat.le_refl _) _).alloc (by simp) _
  refine (HC.out _ hS3).mono ?_
  rintro e w1 ⟨rfl, hb1⟩
  have hB0 := hS1.below hb1
  have hB1 := hS2.below hb1
  have hbw := hS3.trans (hb1.mono hS3.size)
  have x0 := hB0.cell 0
  have x1 := hB0.cell 1
  have x2 := hB0.cell 2
  have x3 := hB0.cell 3
  have g0 := hB1.frozen 0
  have g1 := hB1.frozen 1
  have g2 := hB1.frozen 2
  have g3 := hB1.frozen 3
  have d0 := hB1.cell 0
  have d1 := hB1.cell 1
  have d2 := hB1.cell 2
  have d3 := hB1.cell 3
  have hl := hB1.lt
  simp at x0 x1 x2 x3 d0 d1 d2 d3
  clear hS1 hS2 hS3 hb1 HC
  by_cases hN : 12 < N
  · have hN' : (12 : Int) < (N : Int) := by omega
    go_wp2
    have hk : But (fun x => x = w.heap.size + 1) w1 ((((w1.setCell ⟨w.heap.size + 1, 0, none⟩ (.int .i64 0)).setCell ⟨w.heap.size + 1, 1, none⟩ (.int .i64 0)).setCell ⟨w.heap.size + 1, 2, none⟩ (.string ⟨#[]⟩)).setCell ⟨w.heap.size + 1, 3, none⟩ (.slice none 0 0)) :=
      ((((But.one _ (w.heap.size + 1)).setAt 0 _).setAt 1 _).setAt 2 _).setAt 3 _
    refine bodyPost_ret (v := .agg #[.int .i64 0, .int .i64 0, .string ⟨#[]⟩, .slice none 0 0]) (by simp [results, Tryd.results18, go_sem, d0, d1, d2, d3]) rfl ⟨by rw [HE.out, if_pos hN]; rfl, hbw.trans (hk.below (by omega) (fun x hx => by omega))⟩
  · have hN' : ¬ (12 : Int) < (N : Int) := by omega
    go_wp2
    have hk : But (fun x => x = w.heap.size + 1) w1 ((((w1.setCell ⟨w.heap.size + 1, 0, none⟩ (.int .i64 k)).setCell ⟨w.heap.size + 1, 1, none⟩ (.int .i64 i)).setCell ⟨w.heap.size + 1, 2, none⟩ (.string s)).setCell ⟨w.heap.size + 1, 3, none⟩ (.slice p n c)) :=
      ((((But.one _ (w.heap.size + 1)).setAt 0 _).setAt 1 _).setAt 2 _).setAt 3 _
    refine bodyPost_ret (v := .agg #[.int .i64 k, .int .i64 i, .string s, .slice p n c]) (by simp [results, Tryd.results18, go_sem, d0, d1, d2, d3]) rfl ⟨by rw [HE.out, if_neg hN]; rfl, hbw.trans (hk.below (by omega) (fun x hx => by omega))⟩
end Go.Proofs.YtehpdhhlggegdaaDoor

namespace Go.Proofs.YtehpdhhlggegdaaDoor
open Go.RowKit
set_option maxRecDepth 8000

set_option maxHeartbeats 2000000 in
theorem appendEncoded_any (t : VT) : ∀ (base : Nat) (w : World) (v : Value) (zs : List Int), base ≤ w.heap.size → OwnBy base w v zs → VT.In w (fun b => b < base) t → Val t → zs.length + (encB t).length ≤ 80000 →
    Calls Tryd.prog 29 #[v, t.val] w fun e w' => EPost base w (zs ++ encB t) e w' := by
  obtain ⟨i0, Kd⟩ := kindB
  induction t with
  | nil => intro base w v zs _ _ _ h; exact h.elim
  | mk k i s n p c f ih =>
    intro base w v zs hB hv hin hval hlen
    obtain ⟨⟨hf, hs24, hn6, hi1, hi2⟩, hvi⟩ := hval
    have hk : 0 ≤ k ∧ k ≤ 3 := by
      simp only [fitB, Bool.and_eq_true, Bool.or_eq_true, decide_eq_true_eq] at hf
      exact ⟨hf.1.1.1.1, hf.1.1.1.2⟩
    obtain ⟨hk0, hk3⟩ := hk
    simp only [VT.val, VT.kind_mk, VT.int_mk, VT.text_mk, VT.p_mk, VT.n_mk, VT.c_mk]
    have hzl : zs.length ≤ 80000 := by omega
    have HI := hid hin
    have hkm : k % 256 = k := by omega
    have ha : Below w.heap.size w (w.alloc (.cells #[.int .i64 k, .int .i64 i, .string s, .slice p n c] 24)) := (Below.refl _ _).alloc (Nat.le_refl _) _
    have hv0 : LayB base w zs v (w.alloc (.cells #[.int .i64 k, .int .i64 i, .string s, .slice p n c] 24)) := ⟨hv.below ha, ha.mono hB, KeepN.below ha⟩
    have hbx := Box.new w #[.int .i64 k, .int .i64 i, .string s, .slice p n c] 24
    have HL0 := hid hv0
    have HBx := hid hbx
    have hrow : (w.alloc (.cells #[.int .i64 k, .int .i64 i, .string s, .slice p n c] 24)).ownsRow base 5 1 v zs.length (zs.map (Value.int .u8)) := hv0.own
    clear hin hf hv ha hv0 hbx
    have E : Hid (zs ++ encB (.mk k i s n p c f) = (zs ++ [k]) ++ (if k = 1 then grpB (foldN i) else if k = 2 then (s.size : Int) :: txtB s else if k = 3 then (n : Int) :: (List.range n).flatMap fun j => encB (f j) else [])) := by
      unfold Hid
      rw [encB_eq, List.append_assoc]; rfl
    have HLen : Hid ((zs ++ encB (.mk k i s n p c f)).length ≤ 80000) := by unfold Hid; rw [List.length_append]; exact hlen
    generalize zs ++ encB (.mk k i s n p c f) = RES at *
    clear hlen
    go_enter Tryd.func29, Tryd.ntmps29
    go_wp2_with (at_builtin; refine wpList_app rfl (.tmp 7) (.tmp 11) 29 5 i0 _ 1 1 Kd rfl base v zs.length _ rfl (hrow.alloc _) ⟨w.heap.size + 1, 0, none⟩ 1 1 [.int .u8 k] rfl rfl ?_ (one8 _) (by omega) (by omega) (by simp; omega) ?_)
    · have h := cell_one_new (w.alloc (.cells #[.int .i64 k, .int .i64 i, .string s, .slice p n c] 24)) (.int .u8 k) 5
      rw [show (w.alloc (.cells #[.int .i64 k, .int .i64 i, .string s, .slice p n c] 24)).heap.size = w.heap.size + 1 by simp] at h
      exact h
    · intro v1 w1 ho1 hg1 hn1
      have hL1 := HL0.out.one (by simp; omega) ho1 hg1
      have hB1 : Box w1 w.heap.size #[.int .i64 k, .int .i64 i, .string s, .slice p n c] 24 :=
        (KeepN.grown (HL0.out.own.below ((Below.refl _ _).alloc (Nat.le_refl _) _)) hg1).box (by decide) (HBx.out.below ((Below.refl _ _).alloc (Nat.le_refl _) _))
      have HL1 := hid hL1
      have HB1 := hid hB1
      have x0 := hB1.cell 0
      have x1 := hB1.cell 1
      have x2 := hB1.cell 2
      have x3 := hB1.cell 3
      simp at x0 x1 x2 x3
      have hsw := hL1.bel.size
      have hl1 : (zs ++ [k]).length ≤ 80001 := by simp; omega
      obtain ⟨L, hL⟩ : ∃ L, L = zs ++ [k] := ⟨_, rfl⟩
      rw [← hL] at hL1 HL1 hl1
      have HLe := hid hL
      have hrow1 : w1.ownsRow base 5 1 v1 L.length (L.map (Value.int .u8)) := hL1.own
      clear ho1 hg1 hn1 hL1 hB1 HL0 HBx hrow hL
      rw [← HLe.out] at E
      rcases (by omega : k = 0 ∨ k = 1 ∨ k = 2 ∨ k = 3) with rfl | rfl | rfl | rfl
      · have e : Hid (RES = L) := by unfold Hid; rw [E.out]; simp
        go_wp2
        go_ret
        exact ⟨_, rfl, e.out ▸ HL1.out⟩
      · have e : Hid (RES = L ++ grpB (foldN i)) := by unfold Hid; rw [E.out]; simp
        have HFo := fun W => fold_any i hi1 hi2 W
        have HG := hid (appendGroups_any (foldN i) (foldN_lt hi1 hi2) base w1 v1 L HL1.out.own (by omega) (by omega))
        go_wp2_with fail
        refine (HFo _).mono ?_
        rintro e2 w2 ⟨rfl, hw2⟩
        subst w2
        go_wp2_with fail
        refine HG.out.mono ?_
        intro e3 w3 hP
        obtain ⟨v3, rfl, h3⟩ := hP
        have HF := hid (h3.lift HL1.out.bel HL1.out.keep)
        clear h3 HG
        go_wp2
        go_ret
        exact ⟨_, rfl, e.out ▸ HF.out⟩
      · have e : Hid (RES = (L ++ [(s.size : Int)]) ++ txtB s) := by unfold Hid; rw [E.out]; simp
        have hs' : (s.size : Int) % 256 = (s.size : Int) := by omega
        go_wp2_with (at_builtin; refine wpList_app rfl (.tmp 24) (.tmp 29) 29 5 i0 _ 1 1 Kd rfl base v1 L.length _ rfl (hrow1.alloc _) ⟨w1.heap.size, 0, none⟩ 1 1 [.int .u8 (s.size : Int)] rfl rfl (cell_one_new _ _ _) (one8 _) (by omega) (by omega) (by simp; omega) ?_)
        intro v2 w2 ho2 hg2 hn2
        have hL2 := HL1.out.one (by omega) ho2 hg2
        have hB2 := ((KeepN.below ((Below.refl _ _).alloc (Nat.le_refl _) (.cells #[.int .u8 (s.size : Int)] 5))).trans (KeepN.grown (HL1.out.own.below ((Below.refl _ _).alloc (Nat.le_refl _) _)) hg2)).box (by decide) HB1.out
        have y2 := hB2.cell 2
        simp at y2
        obtain ⟨L2, hL2e⟩ : ∃ L2, L2 = L ++ [(s.size : Int)] := ⟨_, rfl⟩
        rw [← hL2e] at hL2
        have hl2 : L2.length ≤ 80002 := by rw [hL2e]; simp; omega
        have HL2 := hid hL2
        have HLe2 := hid hL2e
        have hrow2 : w2.ownsRow base 5 1 v2 L2.length (L2.map (Value.int .u8)) := hL2.own
        have hs2 := hL2.bel.size
        clear ho2 hg2 hn2 hL2 hB2 hL2e x0 x1 x2 x3 hrow1
        go_wp2_with (at_builtin; go_loud (refine Go.Lib.wpList_append_own_string _ rfl (.tmp 31) (.tmp 33) 29 9 rfl base 5 i0 Kd.ht Tryd.underlying9 Kd.hi Kd.hz Kd.hsize Kd.hby v2 L2.length _ rfl hrow2 s rfl (by unfold maxLen; omega) (by omega) (by omega) ?_))
        intro v3 w3 ho3 hg3 _
        have HF := hid (HL2.out.text (by omega) ho3 hg3)
        clear ho3 hg3 hrow2
        go_wp2
        go_ret
        exact ⟨_, rfl, by rw [e.out, ← HLe2.out]; exact HF.out⟩
      · have e : Hid (RES = (L ++ [(n : Int)]) ++ (List.range n).flatMap fun j => encB (f j)) := by unfold Hid; rw [E.out]; simp
        have hn' : (n : Int) % 256 = (n : Int) := by omega
        go_wp2_with (at_builtin; refine wpList_app rfl (.tmp 37) (.tmp 42) 29 5 i0 _ 1 1 Kd rfl base v1 L.length _ rfl (hrow1.alloc _) ⟨w1.heap.size, 0, none⟩ 1 1 [.int .u8 (n : Int)] rfl rfl (cell_one_new _ _ _) (one8 _) (by omega) (by omega) (by simp; omega) ?_)
        intro v2 w2 ho2 hg2 hn2
        have hL2 := HL1.out.one (by omega) ho2 hg2
        have hB2 := ((KeepN.below ((Below.refl _ _).alloc (Nat.le_refl _) (.cells #[.int .u8 (n : Int)] 5))).trans (KeepN.grown (HL1.out.own.below ((Below.refl _ _).alloc (Nat.le_refl _) _)) hg2)).box (by decide) HB1.out
        have HB2 := hid hB2
        have y3 := hB2.cell 3
        simp at y3
        have HL2 := hid hL2
        clear ho2 hg2 hn2 hL2 hB2 x0 x1 x2 x3 hrow1
        go_wp2_with fail
        go_loopw [0, 47] (fun v x wr => ∃ j : Nat, j ≤ n ∧ x = .int .i64 j ∧ LayB base w ((L ++ [(n : Int)]) ++ (List.range j).flatMap fun j => encB (f j)) v wr) (fun _ x _ => n - (intOf x).toNat)
        case atStart => exact ⟨0, Nat.zero_le _, rfl, by simpa using HL2.out⟩
        case round =>
          obtain ⟨j, hj, rfl, hLj⟩ := hrel
          have hsj := hLj.bel.size
          by_cases hlt : j < n
          · have hlt' : (j : Int) < (n : Int) := by omega
            obtain ⟨bb, o, hp, hSb, hbl, hat⟩ := HI.out.at_ (show 0 < (VT.mk 3 i s n p c f).n from by simp only [VT.n]; omega)
            simp only [VT.p_mk] at hp
            subst hp
            obtain ⟨d0, d1, d2, d3⟩ := (hat j hlt).kept (hLj.bel.block bb hSb)
            simp only [VT.item_mk] at d0 d1 d2 d3
            obtain ⟨M, hM⟩ : ∃ M, M = (L ++ [(n : Int)]) ++ (List.range j).flatMap fun j => encB (f j) := ⟨_, rfl⟩
            rw [← hM] at hLj
            have hM2 : M ++ encB (f j) = (L ++ [(n : Int)]) ++ (List.range (j + 1)).flatMap fun j => encB (f j) := by rw [hM, List.range_succ, List.flatMap_append]; simp
            have hMl : M.length + (encB (f j)).length ≤ 80000 := by
              have h1 := HLen.out
              rw [e.out] at h1
              have h2 : ∀ a b : Nat, a ≤ b → ((List.range a).flatMap fun j => encB (f j)).length ≤ ((List.range b).flatMap fun j => encB (f j)).length := by
                intro a b hab
                induction hab with
                | refl => exact Nat.le_refl _
                | step _ ih => rw [List.range_succ, List.flatMap_append, List.length_append]; omega
              have h3 := h2 (j + 1) n hlt
              have h4 := congrArg List.length hM2
              simp only [List.length_append, List.length_cons, List.length_nil] at h1 h4
              omega
            have ha : Below wr.heap.size wr (wr.alloc (.cells #[.int .i64 (f j).kind, .int .i64 (f j).int, .string (f j).text, .slice (f j).p (f j).n (f j).c] 24)) := (Below.refl _ _).alloc (Nat.le_refl _) _
            have HC := hid (ih j base (wr.alloc (.cells #[.int .i64 (f j).kind, .int .i64 (f j).int, .string (f j).text, .slice (f j).p (f j).n (f j).c] 24)) u0 M (by simp; omega) (hLj.own.below ha) (((HI.out.sub hlt).kept hLj.bel.size fun b hb _ => hLj.bel.block b hb).below ha) (hvi j hlt) hMl)
            unfold VT.val at HC
            have HLj := hid (hLj.bel.trans (ha.mono (by omega)))
            have HKj := hid (hLj.keep.trans (KeepN.below ha))
            have HM2 := hid hM2
            clear hat hLj hM2 hMl hM ha ih
            go_wp2_with fail
            refine HC.out.mono ?_
            intro e3 w3 hP
            obtain ⟨v3, rfl, h3⟩ := hP
            have HF := hid (h3.lift HLj.out HKj.out)
            clear h3 HC d0 d1 d2 d3
            go_wp2
            go_roundw
            case rel => exact ⟨j + 1, by omega, by go_num, HM2.out ▸ HF.out⟩
            case measure => simp [intOf]; omega
          · have hje : j = n := by omega
            have hlt' : ¬ (j : Int) < (n : Int) := by omega
            rw [hje] at hLj
            have HF := hid hLj
            clear hLj ih
            go_wp2
            go_ret
            exact ⟨_, rfl, by rw [e.out]; exact HF.out⟩
end Go.Proofs.YtehpdhhlggegdaaDoor
