import Derived.Test.YtdmhemofhmfkoabGreatDoorRTxI
namespace Go.Proofs.YtdmhemofhmfkoabGreatDoor
open Go.RowKit
set_option maxRecDepth 8000
def sliLen : Value → Nat
  | .slice _ n _ => n
  | _ => 0
def openLen (rb : Nat) (w : World) : Nat := ((w.cell? ⟨rb, 3, none⟩).map sliLen).getD 0
def BehPost (w0 : World) (rb : Nat) (s : ByteArray) (T : TR) (q : Nat) (x : Ending) (w' : World) : Prop :=
  (x = .returned (.bool false) ∧ ∃ v a, T = .ok (v, a, q) ∧ Whole v ∧ (flatP v).length = q ∧ RR w0 rb w' s a (flatP v) [] 0)
  ∨ (x = .returned (.bool true) ∧ ∃ p e L O, T = .error (p, e) ∧ e ≠ 0 ∧ RR w0 rb w' s p L O e)
  ∨ (x = .returned (.bool true) ∧ ∃ fr a, FrOk fr ∧ T = openS s fr a q ∧ (frP fr).length = q ∧ RR w0 rb w' s a (frP fr) (frO fr) 0)
theorem RM.openLen {w0 : World} {rb : Nat} {w : World} {s : ByteArray} {a e : Nat} {v5 v6 : Value} {L : List PT} {O : List Nat} (h : RM w0 rb w s a v5 v6 L O e) : openLen rb w = O.length := by
  obtain ⟨p, c, rfl⟩ := ownsRow_slice h.stk
  have x3 := h.box.cell 3
  simp at x3
  unfold Go.Proofs.YtdmhemofhmfkoabGreatDoor.openLen
  rw [x3]
  rfl
set_option maxHeartbeats 8000000 in
theorem refBehind_any (w0 : World) (rb : Nat) (s : ByteArray) (fr : List (List VT)) (v : VT) (a q : Nat) (w : World) (hf : FrOk fr) (hv : Whole v) (hq : (frP fr ++ flatP v).length = q) (h : RR w0 rb w s a (frP fr ++ flatP v) (frO fr) 0) (hs : s.size ≤ 140737488355328) :
    Calls Tryz.prog 56 #[.pointer (some ⟨rb, 0, none⟩)] w fun x w' => BehPost w0 rb s (contS s fr v a q) q x w' := by
  obtain ⟨T, hT⟩ : ∃ T, contS s fr v a q = T := ⟨_, rfl⟩
  rw [hT]
  have H0 : Hid (∃ (fr : List (List VT)) (v : VT) (a : Nat), FrOk fr ∧ Whole v ∧ (frP fr ++ flatP v).length = q ∧ contS s fr v a q = T ∧ RR w0 rb w s a (frP fr ++ flatP v) (frO fr) 0) := ⟨fr, v, a, hf, hv, hq, hT, h⟩
  clear hf hv hq h hT
  go_enter Tryz.func56, Tryz.ntmps56
  go_wp2_with fail
  go_loopw [] (fun wr => ∃ (fr : List (List VT)) (v : VT) (a : Nat), FrOk fr ∧ Whole v ∧ (frP fr ++ flatP v).length = q ∧ contS s fr v a q = T ∧ RR w0 rb wr s a (frP fr ++ flatP v) (frO fr) 0) (fun wr => openLen rb wr)
  case atStart => exact H0.out
  case round =>
    obtain ⟨fr, v, a, hf, hv, hq, hT, v5, v6, h⟩ := hrel
    clear H0
    cases fr with
    | nil =>
      obtain ⟨p6, c6, rfl⟩ := ownsRow_slice h.stk
      have x3 := h.box.cell 3
      simp [frO] at x3
      have HE : Hid (BehPost w0 rb s T q (.returned (.bool false)) wr) := .inl ⟨rfl, v, a, hT.symm, hv, by simpa [frP] using hq, _, _, by simpa [frP, frO] using h⟩
      clear h hT hv hq
      go_wp2
      exact bodyPost_ret (v := .bool false) (by simp [results, Tryz.results56, go_sem]) rfl HE.out
    | cons l fr =>
      obtain ⟨A, hA⟩ : ∃ A, frP fr = A := ⟨_, rfl⟩
      obtain ⟨O, hO⟩ : ∃ O, frO fr = O := ⟨_, rfl⟩
      obtain ⟨B, hB⟩ : ∃ B, l.flatMap flatP ++ flatP v = B := ⟨_, rfl⟩
      have hl5 : l.length ≤ 5 := hf.len l (List.mem_cons_self ..)
      have HFm : Hid (l.length < 5 → FrOk ((l ++ [v]) :: fr)) := fun h5 => hf.more h5 hv
      have HFt : Hid (FrOk fr ∧ Whole (mkL (l ++ [v]))) := ⟨hf.tail, hf.closed hv⟩
      have HPm : Hid (frP ((l ++ [v]) :: fr) = A ++ hdr (l.length + 2) :: B) := by unfold Hid; rw [frP_more, hA, hB]; rfl
      have HPc : Hid (frP fr ++ flatP (mkL (l ++ [v])) = A ++ hdr (l.length + 1) :: B) := by unfold Hid; rw [← frP_close, frP_at, hA, hB]; rfl
      have HOm : Hid (frO ((l ++ [v]) :: fr) = A.length :: O) := by unfold Hid; rw [frO, hA, hO]
      have hL : frP (l :: fr) ++ flatP v = A ++ hdr (l.length + 1) :: B := by rw [frP_at, hA, hB]; rfl
      have hOO : frO (l :: fr) = A.length :: O := by rw [frO, hA, hO]
      rw [hL] at hq h
      rw [hOO] at h
      have HO := hid hO
      clear hL hOO hA hB hO hf hv
      obtain ⟨g6, cap6, rfl, hc6, hcap6, hg6⟩ := h.top
      obtain ⟨g5, cap5, rfl, hpts, hfz, hg5⟩ := h.pts (by simp; omega)
      have hA12 : (A ++ hdr (l.length + 1) :: B).length ≤ 12 := h.len
      have hAl : A.length < (A ++ hdr (l.length + 1) :: B).length := by simp
      have hO3 : O.length + 1 ≤ 3 := by have := h.dep; simpa using this
      have hlt6 := (h.stk.lt g6 rfl).2
      have HM := hid h
      have hol : openLen rb wr = O.length + 1 := h.openLen
      have ha := h.at_
      have hba := skS_le ha
      have x0 := h.box.cell 0
      have x1 := h.box.cell 1
      have x3 := h.box.cell 3
      have f1 := h.box.frozen 1
      simp at x0 x1 x3
      have HBl : Hid (∀ W, Calls Tryz.prog 53 #[.string s, .int .i64 (a : Int)] W fun x w' => x = .returned (.int .i64 (skS s a : Nat)) ∧ Below W.heap.size W w') := fun W => refBlanks_any s a W ha hs
      have HT := hid hT
      obtain ⟨b, hb⟩ : ∃ b, skS s a = b := ⟨_, rfl⟩
      have Hb := hid hb
      rw [hb] at HBl hba
      clear hb h hpts hfz hT
      obtain ⟨n5, hn5⟩ : ∃ n, (A ++ hdr (l.length + 1) :: B).length = n := ⟨_, rfl⟩
      have hpos : (0 : Int) < (O.length : Int) + 1 := by omega
      go_wp2_with fail
      go_region_law (refine step_call rfl 53 #[.tmp 14, .tmp 18] _ rfl Tryz.f53 Tryz.func53 (by kernel_rfl) rfl #[.string s, .int .i64 (a : Int)] rfl _ (HBl.out _) ?_
                     rintro e w1 ⟨rfl, hb1'⟩
                     refine ⟨_, rfl, ?_⟩
                     have hb1 : Below wr.heap.size wr w1 := (Below.refl _ _).drew.trans hb1'
                     have y1 := (HM.out.kept hb1).box.cell 1
                     have g1 := (HM.out.kept hb1).box.frozen 1
                     simp at y1)
      all_goals
        have hM2 := (HM.out.kept hb1).to (b : Int) b rfl hba
        clear y1 g1 hb1' hb1 x0 x1 x3 f1 HM HBl hc6
        generalize w1.setCell ⟨rb, 1, none⟩ (.int .i64 (b : Int)) = w2 at hM2 ⊢
        have HM2 := hid hM2
        obtain ⟨_, _, e6, hc6, _, _⟩ := hM2.top
        cases e6
        obtain ⟨_, _, e5, hp2, hf2, _⟩ := hM2.pts (by simp; omega)
        cases e5
        have z3 := (hp2.at_ A.length (hdr (l.length + 1)) (by simp)).c3
        rw [Nat.zero_add] at z3
        have fq : w2.frozen? ⟨g5, A.length * 4 + 3, none⟩ = false := hM2.own.frozenAt _
        have x0 := hM2.box.cell 0
        have x1 := hM2.box.cell 1
        have x2 := hM2.box.cell 2
        have x3 := hM2.box.cell 3
        have f1 := hM2.box.frozen 1
        have f3 := hM2.box.frozen 3
        rw [hn5] at x2
        simp at x0 x1 x2 x3
        simp only [hdr] at z3
        have hAn : (A.length : Int) < (n5 : Int) := by omega
        clear hM2 hp2 hf2
        have hbw : IntKind.i64.wrap ((b : Int) + 1) = (b : Int) + 1 := by rw [IntKind.wrap_i64]; omega
        have how : IntKind.i64.wrap ((O.length : Int) + 1 - 1) = (O.length : Int) := by rw [IntKind.wrap_i64]; omega
        have HFa := hid (fun e2 q => refFault_any w0 rb s b 0 _ _ _ _ (w2.drewN q) (HM2.out.kept (below_dN (Below.refl _ _) q)) e2 b hba)
        by_cases hlt : b < s.size
        · have hg := pk_get hlt
          have hn2 : (b : Int) < (s.size : Int) := by omega
          have hn1 : ¬ (s.size : Int) ≤ (b : Int) := by omega
          have hn3 : decide ((s.size : Int) ≤ (b : Int)) = false := by simp; omega
          have hn4 : ¬ s.size ≤ b := by omega
          by_cases h93 : pk s b = 93
          · rw [h93] at hg
            go_wp2_with fail
            go_big_quiet (fail)
            revert nq
            intro n1
            go_wp2_with fail
            go_big_quiet (fail)
            revert nq
            intro n2
            go_wp2_with fail
            go_big_quiet (fail)
            go_wp2_with fail
            have hM3 := (HM2.out.kept (below_dN (Below.refl _ _) (n1 + n2 + nq))).to ((b : Int) + 1) (b + 1) rfl hlt
            clear HM2 x0 x1 x2 x3 f1 f3 fq z3 hc6 HFa
            generalize (w2.drewN (n1 + n2 + nq)).setCell ⟨rb, 1, none⟩ (.int .i64 ((b : Int) + 1)) = w3 at hM3 ⊢
            have x3 := hM3.box.cell 3
            have f3 := hM3.box.frozen 3
            simp at x3
            have HM3 := hid (hM3.kept (Below.refl _ _).drew).pop
            have HTT : Hid (contS s fr (mkL (l ++ [v])) (b + 1) q = T) := by unfold Hid; rw [← HT.out, cont_close (by rw [Hb.out]; exact h93), Hb.out]
            clear hM3
            go_region
            all_goals
              go_wp2
              refine ⟨⟨fr, mkL (l ++ [v]), b + 1, HFt.out.1, HFt.out.2, by rw [HPc.out]; exact hq, HTT.out, _, _, by rw [HPc.out, HO.out]; exact HM3.out⟩, ?_⟩
              exact Nat.lt_of_le_of_lt (Nat.le_of_eq HM3.out.openLen) (by rw [hol]; omega)
          by_cases h44 : pk s b = 44
          · rw [h44] at hg
            go_wp2_with fail
            go_big_quiet (fail)
            revert nq
            intro n1
            go_wp2_with fail
            go_big_quiet (fail)
            revert nq
            intro n2
            go_wp2_with fail
            go_big_quiet (fail)
            by_cases h6 : l.length = 5
            · have h6' : ((l.length : Int) + 1) = 6 := by omega
              have HE : Hid (T = .error (b, 22)) := by unfold Hid; rw [← HT.out, cont_full (by rw [Hb.out]; exact h44) h6, Hb.out]
              go_wp2_with fail
              refine (HFa.out 22 _).mono ?_
              rintro e w3 ⟨rfl, hR1⟩
              have HR := hid hR1
              clear hR1 HFa
              go_wp2
              exact bodyPost_ret (v := .bool true) (by simp [results, Tryz.results56, go_sem]) rfl (.inr (.inl ⟨rfl, b, 22, _, _, HE.out, by omega, _, _, HR.out⟩))
            · have h6' : ¬ ((l.length : Int) + 1) = 6 := by omega
              have h6n : ¬ l.length = 5 := h6
              clear HFa
              go_wp2_with fail
              have hM3 := RM.count (A := A) (B := B) (q := hdr (l.length + 1)) (l.length + 2) (by omega) (HM2.out.kept (below_dN (Below.refl _ _) (n1 + n2 + nq)))
              have ecv : (((l.length + 2 : Nat) : Int)) = (l.length : Int) + 1 + 1 := by omega
              rw [ecv] at hM3
              clear HM2 x0 x1 x2 x3 f1 f3 fq z3 hc6
              generalize (w2.drewN (n1 + n2 + nq)).setCell ⟨g5, A.length * 4 + 3, none⟩ (.int .i64 ((l.length : Int) + 1 + 1)) = w3 at hM3 ⊢
              have HM3 := hid hM3
              have x0 := hM3.box.cell 0
              have x1 := hM3.box.cell 1
              have f1 := hM3.box.frozen 1
              simp at x0 x1
              have hb2 := skS_le (s := s) (a := b + 1) hlt
              have HBl2 : Hid (∀ W, Calls Tryz.prog 53 #[.string s, .int .i64 ((b : Int) + 1)] W fun x w' => x = .returned (.int .i64 (skS s (b + 1) : Nat)) ∧ Below W.heap.size W w') := fun W => refBlanks_any s (b + 1) W hlt hs
              have HTT : Hid (T = openS s ((l ++ [v]) :: fr) (skS s (b + 1)) q) := by unfold Hid; rw [← HT.out, cont_more (by rw [Hb.out]; exact h44) (by omega), Hb.out]
              obtain ⟨c, hc⟩ : ∃ c, skS s (b + 1) = c := ⟨_, rfl⟩
              rw [hc] at hb2 HBl2 HTT
              clear hc hM3
              go_region_law (refine step_call rfl 53 #[.tmp 114, .tmp 119] _ rfl Tryz.f53 Tryz.func53 (by kernel_rfl) rfl #[.string s, .int .i64 ((b : Int) + 1)] rfl _ (HBl2.out _) ?_
                             rintro e w4 ⟨rfl, hb1'⟩
                             refine ⟨_, rfl, ?_⟩
                             have hb1 : Below w3.heap.size w3 w4 := (Below.refl _ _).drew.trans hb1'
                             have y1 := (HM3.out.kept hb1).box.cell 1
                             have g1 := (HM3.out.kept hb1).box.frozen 1
                             simp at y1)
              all_goals
                have HM4 := hid ((HM3.out.kept hb1).to (c : Int) c rfl hb2)
                clear HM3 y1 g1 hb1 hb1' x0 x1 f1
                go_wp2
                exact bodyPost_ret (v := .bool true) (by simp [results, Tryz.results56, go_sem]) rfl (.inr (.inr ⟨rfl, (l ++ [v]) :: fr, c, HFm.out (by omega), HTT.out, by rw [HPm.out, ← hq]; simp, _, _, by rw [HPm.out, HOm.out]; exact HM4.out⟩))
          · obtain ⟨z, hz⟩ : ∃ z, pk s b = z := ⟨_, rfl⟩
            have HE : Hid (T = .error (b, 28)) := by unfold Hid; rw [← HT.out, cont_bad (by rw [Hb.out]; exact h93) (by rw [Hb.out]; exact h44), Hb.out]
            rw [hz] at hg h93 h44
            have hp3 : ((z : Int) != 93) = true := by simp; omega
            have hp4 : ((z : Int) != 44) = true := by simp; omega
            have hp5 : ¬ (z : Int) = 93 := by omega
            have hp6 : ¬ (z : Int) = 44 := by omega
            go_wp2_with fail
            go_big_quiet (fail)
            go_wp2_with fail
            refine (HFa.out 28 _).mono ?_
            rintro e w3 ⟨rfl, hR1⟩
            have HR := hid hR1
            clear hR1 HFa
            go_wp2
            exact bodyPost_ret (v := .bool true) (by simp [results, Tryz.results56, go_sem]) rfl (.inr (.inl ⟨rfl, b, 28, _, _, HE.out, by omega, _, _, HR.out⟩))
        · have hn1 : (s.size : Int) ≤ (b : Int) := by omega
          have hn3 : decide ((s.size : Int) ≤ (b : Int)) = true := by simp; omega
          have hn4 : s.size ≤ b := by omega
          have h0 : pk s b = 0 := by
            rcases Nat.eq_zero_or_pos (pk s b) with h | h
            · exact h
            · exact absurd (pk_pos (s := s) (a := b) (by omega)) hlt
          have HE : Hid (T = .error (b, 28)) := by unfold Hid; rw [← HT.out, cont_bad (by rw [Hb.out]; omega) (by rw [Hb.out]; omega), Hb.out]
          go_wp2_with fail
          go_big_quiet (fail)
          go_wp2_with fail
          refine (HFa.out 28 _).mono ?_
          rintro e w3 ⟨rfl, hR1⟩
          have HR := hid hR1
          clear hR1 HFa
          go_wp2
          exact bodyPost_ret (v := .bool true) (by simp [results, Tryz.results56, go_sem]) rfl (.inr (.inl ⟨rfl, b, 28, _, _, HE.out, by omega, _, _, HR.out⟩))
end Go.Proofs.YtdmhemofhmfkoabGreatDoor
