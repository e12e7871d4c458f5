import Derived.Test.YtoifpdnaeogdgabDoorPack2
import Derived.Test.YtoifpdnaeogdgabDoorPack31
import Derived.Test.YtoifpdnaeogdgabDoorPack9
namespace Go.Proofs.YtoifpdnaeogdgabDoor
open Go.RowKit
set_option maxRecDepth 8000

set_option maxHeartbeats 1000000 in
theorem orNone_any (t : VT) (w : World) (S : Nat → Prop) (hin : VT.In w S t) :
    Calls Tryd.prog 24 #[t.val] w fun e w' => e = .returned (cleanT t).val ∧ Below w.heap.size w w' := by
  have HC : Hid (∀ W, Below w.heap.size w W → Calls Tryd.prog 36 #[t.val] W fun e w' => e = .returned (.int .i64 (chk t 0 0).1) ∧ Below W.heap.size W w') :=
    fun W hW => check_any t W (fun b => b < W.heap.size) ((hin.below hW).mono fun b _ hl => hl) (fun b hb => hb)
  obtain ⟨k, i, s, n, p, c, f, ht⟩ := hin.mk_
  clear hin
  unfold cleanT
  by_cases h : (chk t 0 0).1 = 0
  · rw [if_pos h]
    rw [h] at HC
    simp only [VT.val, ht, VT.kind_mk, VT.int_mk, VT.text_mk, VT.p_mk, VT.n_mk, VT.c_mk] at HC ⊢
    go_enter Tryd.func24, Tryd.ntmps24
    go_wp2_with fail
    refine (HC.out _ ?_).mono ?_
    · exact ((Below.refl _ _).alloc (Nat.le_refl _) _).alloc (by simp) _
    rintro e w1 ⟨rfl, hb1⟩
    have hv1 : Box w1 w.heap.size #[.int .i64 k, .int .i64 i, .string s, .slice p n c] 24 := ((Box.new w _ 24).below ((Below.refl _ _).alloc (Nat.le_refl _) _)).below hb1
    have hv2 : Box w1 (w.heap.size + 1) #[.int .i64 0, .int .i64 0, .string ⟨#[]⟩, .slice none 0 0] 24 := by
      have h := Box.new (w.alloc (.cells #[.int .i64 k, .int .i64 i, .string s, .slice p n c] 24)) #[.int .i64 0, .int .i64 0, .string ⟨#[]⟩, .slice none 0 0] 24
      rw [show (w.alloc (.cells #[.int .i64 k, .int .i64 i, .string s, .slice p n c] 24)).heap.size = w.heap.size + 1 by simp] at h
      exact h.below hb1
    have hbw : Below w.heap.size w w1 := (((Below.refl w.heap.size w).alloc (Nat.le_refl _) _).alloc (by simp) _).trans (hb1.mono (by simp; omega))
    have x0 := hv1.cell 0
    have x1 := hv1.cell 1
    have x2 := hv1.cell 2
    have x3 := hv1.cell 3
    have d0 := hv2.cell 0
    have d1 := hv2.cell 1
    have d2 := hv2.cell 2
    have d3 := hv2.cell 3
    have e0 := hv2.frozen 0
    have e1 := hv2.frozen 1
    have e2 := hv2.frozen 2
    have e3 := hv2.frozen 3
    have z2 := hv2.lt
    simp at x0 x1 x2 x3 d0 d1 d2 d3
    clear hb1 hv1 hv2 HC
    go_wp2
    refine bodyPost_ret (v := .agg #[.int .i64 k, .int .i64 i, .string s, .slice p n c]) (by simp [results, Tryd.results24, go_sem, d0, d1, d2, d3]) rfl ⟨rfl, ?_⟩
    exact (((hbw.setCell (Nat.le_succ _) _).setCell (Nat.le_succ _) _).setCell (Nat.le_succ _) _).setCell (Nat.le_succ _) _
  · rw [if_neg h]
    have h' : ¬ (((chk t 0 0).1 : Int) = 0) := by omega
    generalize (chk t 0 0).1 = r at *
    simp only [VT.val, zeroT, ht, VT.kind_mk, VT.int_mk, VT.text_mk, VT.p_mk, VT.n_mk, VT.c_mk] at HC ⊢
    go_enter Tryd.func24, Tryd.ntmps24
    go_wp2_with fail
    refine (HC.out _ ?_).mono ?_
    · exact ((Below.refl _ _).alloc (Nat.le_refl _) _).alloc (by simp) _
    rintro e w1 ⟨rfl, hb1⟩
    have hv1 : Box w1 w.heap.size #[.int .i64 k, .int .i64 i, .string s, .slice p n c] 24 := ((Box.new w _ 24).below ((Below.refl _ _).alloc (Nat.le_refl _) _)).below hb1
    have hv2 : Box w1 (w.heap.size + 1) #[.int .i64 0, .int .i64 0, .string ⟨#[]⟩, .slice none 0 0] 24 := by
      have h := Box.new (w.alloc (.cells #[.int .i64 k, .int .i64 i, .string s, .slice p n c] 24)) #[.int .i64 0, .int .i64 0, .string ⟨#[]⟩, .slice none 0 0] 24
      rw [show (w.alloc (.cells #[.int .i64 k, .int .i64 i, .string s, .slice p n c] 24)).heap.size = w.heap.size + 1 by simp] at h
      exact h.below hb1
    have hbw : Below w.heap.size w w1 := (((Below.refl w.heap.size w).alloc (Nat.le_refl _) _).alloc (by simp) _).trans (hb1.mono (by simp; omega))
    have x0 := hv1.cell 0
    have x1 := hv1.cell 1
    have x2 := hv1.cell 2
    have x3 := hv1.cell 3
    have d0 := hv2.cell 0
    have d1 := hv2.cell 1
    have d2 := hv2.cell 2
    have d3 := hv2.cell 3
    have e0 := hv2.frozen 0
    have e1 := hv2.frozen 1
    have e2 := hv2.frozen 2
    have e3 := hv2.frozen 3
    have z2 := hv2.lt
    simp at x0 x1 x2 x3 d0 d1 d2 d3
    clear hb1 hv1 hv2 HC
    go_wp2
    refine bodyPost_ret (v := .agg #[.int .i64 0, .int .i64 0, .string ⟨#[]⟩, .slice none 0 0]) (by simp [results, Tryd.results24, go_sem, d0, d1, d2, d3]) rfl ⟨rfl, ?_⟩
    exact (((hbw.setCell (Nat.le_succ _) _).setCell (Nat.le_succ _) _).setCell (Nat.le_succ _) _).setCell (Nat.le_succ _) _
end Go.Proofs.YtoifpdnaeogdgabDoor

namespace Go.Proofs.YtoifpdnaeogdgabDoor
open Go.RowKit
set_option maxRecDepth 8000

theorem itoa_cells (i : Int) : Go.Lib.byteCells (Go.Lib.itoa i) = (itoaB i).map (Value.int .u8) := by
  simp [Go.Lib.byteCells, itoaB, List.map_map, Function.comp_def]
theorem itoaB_len (i : Int) : (itoaB i).length = (Go.Lib.itoa i).length := by simp [itoaB]
/-- a number's digits more -/
theorem LayB.num {base : Nat} {a w w' : World} {v v' : Value} {zs : List Int} {i : Int} (h : LayB base a zs v w) (ho : w'.ownsRow base 5 1 v' (zs.length + (Go.Lib.itoa i).length) (zs.map (Value.int .u8) ++ Go.Lib.byteCells (Go.Lib.itoa i))) (hb : Below base w w') (hk : Go.Lib.OthersKept 5 none w w') : LayB base a (zs ++ itoaB i) v' w' :=
  ⟨h.own.app (by rw [itoaB_len, ← itoa_cells]; exact ho), h.bel.trans hb, h.keep.trans fun B o he hB => hk B o hB (by simp) he⟩
theorem prB_three (i : Int) (s : ByteArray) (n : Nat) (p : Option Addr) (c : Nat) (f : Nat → VT) : prB (.mk 3 i s n p c f) = [91] ++ itB f n ++ [93] := by
  rw [prB_eq, if_neg (by decide), if_neg (by decide), if_pos rfl]
  rfl
theorem itB_len {f : Nat → VT} {m : Nat} (h : ∀ j, j < m → (prB (f j)).length ≤ 400 * (flatP (f j)).length) : ∀ n, n ≤ m → (itB f n).length ≤ 2 * n + 400 * (flatN f n).length := by
  intro n
  induction n with
  | zero => intro _; simp [itB]
  | succ n ih =>
    intro hn
    have h1 := ih (by omega)
    have h2 := h n (by omega)
    rw [itB_succ, flatN_succ, List.length_append, List.length_append, List.length_append]
    have h3 : (if 0 < n then [(44 : Int), 32] else []).length ≤ 2 := by split <;> simp
    omega
theorem prB_len {t : VT} (h : Val t) : (prB t).length ≤ 400 * (flatP t).length := by
  induction t with
  | nil => exact h.elim
  | mk k i s n p c f ih =>
    obtain ⟨⟨h1, h2, h3, h4, h5⟩, h6⟩ := h
    by_cases hk : k = 3
    · subst hk
      have h7 := itB_len (m := n) (fun j hj => ih j (h6 j hj)) n (Nat.le_refl _)
      rw [prB_three, flatP_eq]
      simp only [List.length_append, List.length_cons, List.length_nil, flatN] at h7 ⊢
      omega
    · rw [prB_eq, flatP_eq]
      simp only [List.length_cons]
      split
      · rw [itoaB_len]
        have := Go.Lib.itoa_length_le i h4 h5
        omega
      · split
        · have := quoF_len s s.size 0
          rw [quoB]
          simp only [List.length_append, List.length_cons, List.length_nil]
          omega
        · simp only [List.length_cons, List.length_nil]
          omega
set_option maxHeartbeats 2000000 in
set_option maxRecDepth 100000 in
theorem appendPrinted_any (t : VT) : PrintC t := by
  obtain ⟨i0, Kd⟩ := kindB
  induction t with
  | nil => intro base w v zs _ _ hin; exact hin.elim
  | mk k i s n p c f ih =>
    intro base w v zs hB hv hin hval hT hlen
    have HIn := hid hin
    obtain ⟨⟨hf, hs24, hn6, hi1, hi2⟩, hvi⟩ := hval
    have hk : 0 ≤ k ∧ k ≤ 3 := by
      simp only [fitB, Bool.and_eq_true, Bool.or_eq_true, decide_eq_true_eq] at hf
      exact ⟨hf.1.1.1.1, hf.1.1.1.2⟩
    obtain ⟨hk0, hk3⟩ := hk
    simp only [VT.val, VT.kind_mk, VT.int_mk, VT.text_mk, VT.p_mk, VT.n_mk, VT.c_mk]
    have ha : Below w.heap.size w (w.alloc (.cells #[.int .i64 k, .int .i64 i, .string s, .slice p n c] 24)) := (Below.refl _ _).alloc (Nat.le_refl _) _
    have hL := (LayB.refl hv).later hB ha
    have HL := hid hL
    have HT := hid (hT.on hL.bel)
    have HInA := hid (hin.below ha)
    have hzl : zs.length ≤ 70000 := by omega
    have hrow : (w.alloc (.cells #[.int .i64 k, .int .i64 i, .string s, .slice p n c] 24)).ownsRow base 5 1 v zs.length (zs.map (Value.int .u8)) := hL.own
    have HLen := hid hlen
    have HVi := hid hvi
    have hBa : base ≤ (w.alloc (.cells #[.int .i64 k, .int .i64 i, .string s, .slice p n c] 24)).heap.size := by simp; omega
    clear hin hf hv ha hL hT hvi hlen
    rcases (by omega : k = 0 ∨ k = 1 ∨ k = 2 ∨ k = 3) with rfl | rfl | rfl | rfl
    · have hz2 : (⟨#[110, 111, 110, 101]⟩ : ByteArray).size = 4 := rfl
      go_enter Tryd.func23, Tryd.ntmps23
      go_wp2_with (at_builtin; go_loud (refine Go.Lib.wpList_append_own_string _ rfl (.tmp 25) (.const (.string ⟨#[110, 111, 110, 101]⟩)) 56 9 rfl base 5 i0 Kd.ht Tryd.underlying9 Kd.hi Kd.hz Kd.hsize Kd.hby v zs.length _ rfl hrow ⟨#[110, 111, 110, 101]⟩ rfl (by unfold maxLen; omega) (by omega) hBa ?_))
      intro v3 w3 ho3 hg3 _
      have HF := hid (HL.out.text hBa ho3 hg3)
      clear ho3 hg3 hrow
      go_wp2
      go_ret
      exact ⟨_, rfl, HF.out⟩
    · have hil := Go.Lib.itoa_length_le i hi1 hi2
      have HC := hid (Tryd.strconv_AppendInt_10 base zs.length i hi1 hi2 v (zs.map (Value.int .u8)) _ hrow hBa (by omega) HT.out.pow)
      clear hrow
      go_enter Tryd.func23, Tryd.ntmps23
      go_wp2_with (go_at_call 33; refine HC.out.mono ?_)
      rintro e w3 ⟨v3, rfl, ho3, hb3, hk3⟩
      have HF := hid (HL.out.num ho3 hb3 hk3)
      clear ho3 hb3 hk3 HC
      go_wp2
      go_ret
      exact ⟨_, rfl, HF.out⟩
    · have HC := hid (appendQuoted_any s hs24 base _ v zs HL.out.own hBa (by omega) HT.out)
      clear hrow
      go_enter Tryd.func23, Tryd.ntmps23
      go_wp2_with (go_at_call 34; refine HC.out.mono ?_)
      intro e w3 hP
      obtain ⟨v3, rfl, h3⟩ := hP
      have HF := hid (h3.lift HL.out.bel HL.out.keep)
      clear h3 HC
      go_wp2
      go_ret
      exact ⟨_, rfl, HF.out⟩
    · have HC := hid (bracketed_of f ih n p c base _ v zs hBa HL.out.own hn6 (fun hp => by
          obtain ⟨b, o, e, hb, hl, ha⟩ := HInA.out.at_ (show 0 < (VT.mk 3 i s n p c f).n from hp)
          exact ⟨b, o, e, hb, hl, fun j hj => ha j hj⟩) (fun j hj => HInA.out.sub (show j < (VT.mk 3 i s n p c f).n from hj)) HVi.out HT.out (by
          have h := HLen.out
          rw [prB_three] at h
          simp only [List.length_append, List.length_cons, List.length_nil] at h
          omega))
      clear hrow
      go_enter Tryd.func23, Tryd.ntmps23
      go_wp2_with (go_at_call 35; refine HC.out.mono ?_)
      intro e w3 hP
      obtain ⟨v3, rfl, h3⟩ := hP
      have HF := hid (h3.lift HL.out.bel HL.out.keep)
      clear h3 HC
      go_wp2
      go_ret
      exact ⟨_, rfl, by rw [prB_three]; exact HF.out⟩
set_option maxHeartbeats 1000000 in
theorem print_any (t : VT) (w : World) (S : Nat → Prop) (hin : VT.In w S t) (hS : ∀ b, S b → b < w.heap.size) (hT : Tabs w.heap.size w) :
    Calls Tryd.prog 15 #[t.val] w fun e w' => e = .returned (.string (strOf (prB (cleanT t)))) ∧ Below w.heap.size w w' := by
  have HC : Hid (∀ W, Below w.heap.size w W → Calls Tryd.prog 24 #[t.val] W fun e w' => e = .returned (cleanT t).val ∧ Below W.heap.size W w') := fun W hW => orNone_any t W S (hin.below hW)
  have hcv := clean_val hin
  have hcl : (prB (cleanT t)).length ≤ 4800 := by
    have h1 := prB_len hcv
    have h2 := clean_len (t := t)
    omega
  have HA : Hid (∀ W, Below w.heap.size w W → Calls Tryd.prog 23 #[.slice none 0 0, (cleanT t).val] W fun e w' => EPost w.heap.size W ([] ++ prB (cleanT t)) e w') := fun W hW => by
    have h1 : VT.In W (fun b => b < w.heap.size) (cleanT t) := ((cleanT_in hin).mono fun b hb _ => hS b hb).kept hW.size fun b hb _ => hW.block b hb
    exact appendPrinted_any (cleanT t) w.heap.size W (.slice none 0 0) [] hW.size (World.ownsRow_nil _ _ _ _) h1 hcv (hT.on hW) (by simp; omega)
  clear hin hS hcv hT
  unfold VT.val at HC HA ⊢
  have hpos : 0 < (prB (cleanT t)).length := by
    cases cleanT t with
    | nil => simp [prB]
    | mk k i s n p c f =>
      rw [prB_eq]
      split
      · rw [itoaB_len]; unfold Go.Lib.itoa; split
        · simp
        · unfold Go.Lib.decDigits; split <;> simp
      · split
        · simp [quoB]
        · split <;> simp
  simp only [List.nil_append] at HA
  generalize prB (cleanT t) = Z at *
  go_enter Tryd.func15, Tryd.ntmps15
  go_wp2_with fail
  refine (HC.out _ ?_).mono ?_
  · exact (Below.refl _ _).alloc (Nat.le_refl _) _
  rintro e w1 ⟨rfl, hb1⟩
  have hbw : Below w.heap.size w w1 := ((Below.refl w.heap.size w).alloc (Nat.le_refl _) _).trans (hb1.mono (by simp))
  have HBw := hid hbw
  clear hb1 hbw
  go_wp2_with fail
  refine (HA.out _ HBw.out).mono ?_
  intro e w2 hP
  obtain ⟨v2, rfl, h2⟩ := hP
  obtain ⟨b, c, hv2, _⟩ := OwnBy.slice h2.own hpos
  subst hv2
  have hcv := conv_any h2.own
  have HF := hid (HBw.out.trans h2.bel)
  clear h2 HA HC
  go_wp2
  go_ret
  exact ⟨rfl, HF.out⟩
end Go.Proofs.YtoifpdnaeogdgabDoor
