import Derived.Test.YtoifpdnaeogdgabGreatDoorPrQuoW
import Derived.Test.YtoifpdnaeogdgabGreatDoorPack29
import Derived.Test.YtoifpdnaeogdgabGreatDoorPack9
import Derived.Test.YtoifpdnaeogdgabGreatDoorCntW
namespace Go.Proofs.YtoifpdnaeogdgabGreatDoor
open Go.RowKit
set_option maxRecDepth 8000

def PrintC (t : VT) : Prop := ∀ (base : Nat) (w : World) (v : Value) (zs : List Int), base ≤ w.heap.size → OwnBy base w v zs → VT.In w (fun b => b < base) t → Val t → Tabs base w → zs.length + (prB t).length ≤ 70000 →
    Calls Tryz.prog 31 #[v, t.val] w fun e w' => EPost base w (zs ++ prB t) e w'
/-- the items up to j -/
def itB (f : Nat → VT) (j : Nat) : List Int := (List.range j).flatMap fun j => (if 0 < j then [44, 32] else []) ++ prB (f j)
theorem itB_succ (f : Nat → VT) (j : Nat) : itB f (j + 1) = itB f j ++ ((if 0 < j then [44, 32] else []) ++ prB (f j)) := by simp [itB, List.range_succ, List.flatMap_append]
theorem itB_le (f : Nat → VT) {a b : Nat} (h : a ≤ b) : (itB f a).length ≤ (itB f b).length := by
  induction h with
  | refl => exact Nat.le_refl _
  | step _ ih => rw [itB_succ, List.length_append]; omega
set_option maxHeartbeats 2000000 in
set_option maxRecDepth 100000 in
theorem bracketed_of (f : Nat → VT) (ih : ∀ j, PrintC (f j)) (n : Nat) (p : Option Addr) (c : Nat) (base : Nat) (w : World) (v : Value) (zs : List Int) (hB : base ≤ w.heap.size) (hv : OwnBy base w v zs) (hn : n ≤ 6)
    (hat : 0 < n → ∃ b o, p = some ⟨b, o, none⟩ ∧ b < base ∧ b < w.heap.size ∧ ∀ j, j < n → VT.At w b (o + j * 4) (f j)) (hin : ∀ j, j < n → VT.In w (fun b => b < base) (f j)) (hval : ∀ j, j < n → Val (f j)) (hT : Tabs base w) (hlen : zs.length + (itB f n).length + 2 ≤ 70000) :
    Calls Tryz.prog 61 #[v, .slice p n c] w fun e w' => EPost base w (zs ++ ([91] ++ itB f n ++ [93])) e w' := by
  obtain ⟨i0, Kd⟩ := kindB
  have HV := hid hv
  have HT := hid hT
  have HAt := hid hat
  have HIn := hid hin
  have HVal := hid hval
  have HIh := hid ih
  have hrow : w.ownsRow base 5 1 v zs.length (zs.map (Value.int .u8)) := hv
  clear hv hT hat hin hval ih
  have hzl : zs.length ≤ 70000 := by omega
  go_enter Tryz.func61, Tryz.ntmps61
  go_wp2_with (at_builtin; refine wpList_app rfl (.tmp 7) (.tmp 8) 25 5 i0 _ 1 1 Kd rfl base v zs.length _ rfl (hrow.alloc _) ⟨w.heap.size, 0, none⟩ 1 1 [.int .u8 91] rfl rfl (cell_one_new _ _ _) (one8 _) (by omega) (by omega) (by simp; omega) ?_)
  intro v1 w1 ho1 hg1 hn1
  have HL1 := hid ((LayB.refl HV.out).one hB ho1 hg1)
  clear ho1 hg1 hn1 hrow
  go_wp2_with fail
  go_loopw [0, 12] (fun v x wr => ∃ j : Nat, j ≤ n ∧ x = .int .i64 j ∧ LayB base w ((zs ++ [91]) ++ itB f j) v wr) (fun _ x _ => n - (intOf x).toNat)
  case atStart => exact ⟨0, Nat.zero_le _, rfl, by simpa [itB] using HL1.out⟩
  case round =>
    obtain ⟨j, hj, rfl, hLj⟩ := hrel
    clear HL1
    have hsj := hLj.bel.size
    by_cases hlt : j < n
    · have hlt' : (j : Int) < (n : Int) := by omega
      obtain ⟨bb, o, hp, hSb, hbl, hat⟩ := HAt.out (by omega)
      subst hp
      obtain ⟨d0, d1, d2, d3⟩ := (hat j hlt).kept (hLj.bel.block bb hSb)
      have hle := itB_le f (show j + 1 ≤ n by omega)
      have hls : (itB f (j + 1)).length = (itB f j).length + ((if 0 < j then [(44 : Int), 32] else []).length + (prB (f j)).length) := by rw [itB_succ, List.length_append, List.length_append]
      obtain ⟨M, hM⟩ : ∃ M, M = (zs ++ [91]) ++ itB f j := ⟨_, rfl⟩
      rw [← hM] at hLj
      have hMl : M.length = zs.length + 1 + (itB f j).length := by rw [hM]; simp; omega
      have HM := hid hM
      have ha : Below wr.heap.size wr (wr.alloc (.cells #[.int .i64 (f j).kind, .int .i64 (f j).int, .string (f j).text, .slice (f j).p (f j).n (f j).c] 24)) := (Below.refl _ _).alloc (Nat.le_refl _) _
      have hLa := hLj.later (by omega) ha
      have hbx := Box.new wr #[.int .i64 (f j).kind, .int .i64 (f j).int, .string (f j).text, .slice (f j).p (f j).n (f j).c] 24
      have HLa := hid hLa
      have HBx := hid hbx
      have hrow2 : (wr.alloc (.cells #[.int .i64 (f j).kind, .int .i64 (f j).int, .string (f j).text, .slice (f j).p (f j).n (f j).c] 24)).ownsRow base 5 1 u0 M.length (M.map (Value.int .u8)) := hLa.own
      have HLe := hid (show M.length + ((if 0 < j then [(44 : Int), 32] else []).length + (prB (f j)).length) ≤ 70000 by omega)
      have hM7 : M.length ≤ 70000 := by omega
      have HC : Hid (∀ W u M2, LayB base w M2 u W → M2.length + (prB (f j)).length ≤ 70000 → Calls Tryz.prog 31 #[u, .agg #[.int .i64 (f j).kind, .int .i64 (f j).int, .string (f j).text, .slice (f j).p (f j).n (f j).c]] W fun e w' => EPost base w (M2 ++ prB (f j)) e w') := by
        intro W u M2 hL2 hl2
        have h := HIh.out j base W u M2 (Nat.le_trans hB hL2.bel.size) hL2.own ((HIn.out j hlt).kept hL2.bel.size fun b hb _ => hL2.bel.block b hb) (HVal.out j hlt) (HT.out.on hL2.bel) hl2
        refine h.mono fun e w' hP => ?_
        obtain ⟨v3, rfl, h3⟩ := hP
        exact ⟨v3, rfl, h3.lift hL2.bel hL2.keep⟩
      clear hLj hLa hbx ha hM hat hle hls hMl
      by_cases hj0 : 0 < j
      · have hj0' : (0 : Int) < (j : Int) := by omega
        have hz2 : (⟨#[44, 32]⟩ : ByteArray).size = 2 := rfl
        go_wp2_with (at_builtin; go_loud (refine Go.Lib.wpList_append_own_string _ rfl (.tmp 19) (.const (.string ⟨#[44, 32]⟩)) 25 9 rfl base 5 i0 Kd.ht Tryz.underlying9 Kd.hi Kd.hz Kd.hsize Kd.hby u0 M.length _ rfl hrow2 ⟨#[44, 32]⟩ rfl (by unfold maxLen; omega) (by omega) (by simp; omega) ?_))
        intro v3 w3 ho3 hg3 _
        have hL3 := HLa.out.text (by simp; omega) ho3 hg3
        have hB3 := (KeepN.grown HLa.out.own hg3).box (by decide) HBx.out
        have y0 := hB3.cell 0
        have y1 := hB3.cell 1
        have y2 := hB3.cell 2
        have y3 := hB3.cell 3
        simp at y0 y1 y2 y3
        have hk := HLe.out
        rw [if_pos hj0] at hk
        simp only [List.length_cons, List.length_nil] at hk
        have HC3 := hid (HC.out w3 v3 _ hL3 (by rw [List.length_append, txtB_len]; omega))
        clear ho3 hg3 hrow2 hL3 hB3 hk
        go_wp2_with (go_at_call 31; refine HC3.out.mono ?_)
        intro e w4 hP
        obtain ⟨v4, rfl, h4⟩ := hP
        have e1 : M ++ txtB ⟨#[44, 32]⟩ ++ prB (f j) = (zs ++ [91]) ++ itB f (j + 1) := by
          rw [itB_succ, if_pos hj0, HM.out]
          simp [txtB]
        rw [e1] at h4
        have HF := hid h4
        clear h4 HC3 e1 y0 y1 y2 y3
        go_wp2
        go_roundw
        case rel => exact ⟨j + 1, by omega, by go_num, HF.out⟩
        case measure => simp [intOf]; omega
      · have hj0' : ¬ (0 : Int) < (j : Int) := by omega
        have hk := HLe.out
        rw [if_neg hj0] at hk
        simp only [List.length_nil] at hk
        have HC3 := hid (HC.out _ u0 _ HLa.out (by omega))
        clear hrow2 hk
        go_wp2_with (go_at_call 31; refine HC3.out.mono ?_)
        intro e w4 hP
        obtain ⟨v4, rfl, h4⟩ := hP
        have e1 : M ++ prB (f j) = (zs ++ [91]) ++ itB f (j + 1) := by
          rw [itB_succ, if_neg hj0, HM.out]
          simp
        rw [e1] at h4
        have HF := hid h4
        clear h4 HC3 e1
        go_wp2
        go_roundw
        case rel => exact ⟨j + 1, by omega, by go_num, HF.out⟩
        case measure => simp [intOf]; omega
    · have hje : j = n := by omega
      have hlt' : ¬ (j : Int) < (n : Int) := by omega
      rw [hje] at hLj
      obtain ⟨M, hM⟩ : ∃ M, M = (zs ++ [91]) ++ itB f n := ⟨_, rfl⟩
      rw [← hM] at hLj
      have hMl : M.length ≤ 70000 := by rw [hM]; simp; omega
      have HM := hid hM
      have HL := hid hLj
      have hrow2 : wr.ownsRow base 5 1 u0 M.length (M.map (Value.int .u8)) := hLj.own
      clear hLj hM
      go_wp2_with (at_builtin; refine wpList_app rfl (.tmp 25) (.tmp 26) 25 5 i0 _ 1 1 Kd rfl base u0 M.length _ rfl (hrow2.alloc _) ⟨wr.heap.size, 0, none⟩ 1 1 [.int .u8 93] rfl rfl (cell_one_new _ _ _) (one8 _) (by omega) (by omega) (by simp; omega) ?_)
      intro v3 w3 ho3 hg3 hn3
      have h := HL.out.one (by omega) ho3 hg3
      have e1 : M ++ [93] = zs ++ ([91] ++ itB f n ++ [93]) := by rw [HM.out]; simp
      rw [e1] at h
      have HF := hid h
      clear ho3 hg3 hn3 hrow2 h e1
      go_wp2
      go_ret
      exact ⟨_, rfl, by simpa using HF.out⟩
end Go.Proofs.YtoifpdnaeogdgabGreatDoor

namespace Go.Proofs.YtoifpdnaeogdgabGreatDoor
open Go.RowKit
set_option maxRecDepth 8000

theorem itoa_cells (i : Int) : Go.Lib.byteCells (Go.Lib.itoa i) = (itoaB i).map (Value.int .u8) := by
  simp [Go.Lib.byteCells, itoaB, List.map_map, Function.comp_def]
theorem itoaB_len (i : Int) : (itoaB i).length = (Go.Lib.itoa i).length := by simp [itoaB]
/-- a number's digits more -/
theorem LayB.num {base : Nat} {a w w' : World} {v v' : Value} {zs : List Int} {i : Int} (h : LayB base a zs v w) (ho : w'.ownsRow base 5 1 v' (zs.length + (Go.Lib.itoa i).length) (zs.map (Value.int .u8) ++ Go.Lib.byteCells (Go.Lib.itoa i))) (hb : Below base w w') (hk : Go.Lib.OthersKept 5 none w w') : LayB base a (zs ++ itoaB i) v' w' :=
  ⟨h.own.app (by rw [itoaB_len, ← itoa_cells]; exact ho), h.bel.trans hb, h.keep.trans fun B o he hB => hk B o hB (by simp) he⟩
theorem prB_three (i : Int) (s : ByteArray) (n : Nat) (p : Option Addr) (c : Nat) (f : Nat → VT) : prB (.mk 3 i s n p c f) = [91] ++ itB f n ++ [93] := by
  rw [prB_eq, if_neg (by decide), if_neg (by decide), if_pos rfl]
  rfl
theorem itB_len {f : Nat → VT} {m : Nat} (h : ∀ j, j < m → (prB (f j)).length ≤ 400 * (flatP (f j)).length) : ∀ n, n ≤ m → (itB f n).length ≤ 2 * n + 400 * (flatN f n).length := by
  intro n
  induction n with
  | zero => intro _; simp [itB]
  | succ n ih =>
    intro hn
    have h1 := ih (by omega)
    have h2 := h n (by omega)
    rw [itB_succ, flatN_succ, List.length_append, List.length_append, List.length_append]
    have h3 : (if 0 < n then [(44 : Int), 32] else []).length ≤ 2 := by split <;> simp
    omega
theorem prB_len {t : VT} (h : Val t) : (prB t).length ≤ 400 * (flatP t).length := by
  induction t with
  | nil => exact h.elim
  | mk k i s n p c f ih =>
    obtain ⟨⟨h1, h2, h3, h4, h5⟩, h6⟩ := h
    by_cases hk : k = 3
    · subst hk
      have h7 := itB_len (m := n) (fun j hj => ih j (h6 j hj)) n (Nat.le_refl _)
      rw [prB_three, flatP_eq]
      simp only [List.length_append, List.length_cons, List.length_nil, flatN] at h7 ⊢
      omega
    · rw [prB_eq, flatP_eq]
      simp only [List.length_cons]
      split
      · rw [itoaB_len]
        have := Go.Lib.itoa_length_le i h4 h5
        omega
      · split
        · have := quoF_len s s.size 0
          rw [quoB]
          simp only [List.length_append, List.length_cons, List.length_nil]
          omega
        · simp only [List.length_cons, List.length_nil]
          omega
set_option maxHeartbeats 2000000 in
set_option maxRecDepth 100000 in
theorem appendPrinted_any (t : VT) : PrintC t := by
  obtain ⟨i0, Kd⟩ := kindB
  induction t with
  | nil => intro base w v zs _ _ hin; exact hin.elim
  | mk k i s n p c f ih =>
    intro base w v zs hB hv hin hval hT hlen
    have HIn := hid hin
    obtain ⟨⟨hf, hs24, hn6, hi1, hi2⟩, hvi⟩ := hval
    have hk : 0 ≤ k ∧ k ≤ 3 := by
      simp only [fitB, Bool.and_eq_true, Bool.or_eq_true, decide_eq_true_eq] at hf
      exact ⟨hf.1.1.1.1, hf.1.1.1.2⟩
    obtain ⟨hk0, hk3⟩ := hk
    simp only [VT.val, VT.kind_mk, VT.int_mk, VT.text_mk, VT.p_mk, VT.n_mk, VT.c_mk]
    have ha : Below w.heap.size w (w.alloc (.cells #[.int .i64 k, .int .i64 i, .string s, .slice p n c] 24)) := (Below.refl _ _).alloc (Nat.le_refl _) _
    have hL := (LayB.refl hv).later hB ha
    have HL := hid hL
    have HT := hid (hT.on hL.bel)
    have HInA := hid (hin.below ha)
    have hzl : zs.length ≤ 70000 := by omega
    have hrow : (w.alloc (.cells #[.int .i64 k, .int .i64 i, .string s, .slice p n c] 24)).ownsRow base 5 1 v zs.length (zs.map (Value.int .u8)) := hL.own
    have HLen := hid hlen
    have HVi := hid hvi
    have hBa : base ≤ (w.alloc (.cells #[.int .i64 k, .int .i64 i, .string s, .slice p n c] 24)).heap.size := by simp; omega
    clear hin hf hv ha hL hT hvi hlen
    rcases (by omega : k = 0 ∨ k = 1 ∨ k = 2 ∨ k = 3) with rfl | rfl | rfl | rfl
    · have hz2 : (⟨#[110, 111, 110, 101]⟩ : ByteArray).size = 4 := rfl
      go_enter Tryz.func31, Tryz.ntmps31
      go_wp2_with (at_builtin; go_loud (refine Go.Lib.wpList_append_own_string _ rfl (.tmp 25) (.const (.string ⟨#[110, 111, 110, 101]⟩)) 25 9 rfl base 5 i0 Kd.ht Tryz.underlying9 Kd.hi Kd.hz Kd.hsize Kd.hby v zs.length _ rfl hrow ⟨#[110, 111, 110, 101]⟩ rfl (by unfold maxLen; omega) (by omega) hBa ?_))
      intro v3 w3 ho3 hg3 _
      have HF := hid (HL.out.text hBa ho3 hg3)
      clear ho3 hg3 hrow
      go_wp2
      go_ret
      exact ⟨_, rfl, HF.out⟩
    · have hil := Go.Lib.itoa_length_le i hi1 hi2
      have HC := hid (Tryz.strconv_AppendInt_10 base zs.length i hi1 hi2 v (zs.map (Value.int .u8)) _ hrow hBa (by omega) HT.out.pow)
      clear hrow
      go_enter Tryz.func31, Tryz.ntmps31
      go_wp2_with (go_at_call 59; refine HC.out.mono ?_)
      rintro e w3 ⟨v3, rfl, ho3, hb3, hk3⟩
      have HF := hid (HL.out.num ho3 hb3 hk3)
      clear ho3 hb3 hk3 HC
      go_wp2
      go_ret
      exact ⟨_, rfl, HF.out⟩
    · have HC := hid (appendQuoted_any s hs24 base _ v zs HL.out.own hBa (by omega) HT.out)
      clear hrow
      go_enter Tryz.func31, Tryz.ntmps31
      go_wp2_with (go_at_call 60; refine HC.out.mono ?_)
      intro e w3 hP
      obtain ⟨v3, rfl, h3⟩ := hP
      have HF := hid (h3.lift HL.out.bel HL.out.keep)
      clear h3 HC
      go_wp2
      go_ret
      exact ⟨_, rfl, HF.out⟩
    · have HC := hid (bracketed_of f ih n p c base _ v zs hBa HL.out.own hn6 (fun hp => by
          obtain ⟨b, o, e, hb, hl, ha⟩ := HInA.out.at_ (show 0 < (VT.mk 3 i s n p c f).n from hp)
          exact ⟨b, o, e, hb, hl, fun j hj => ha j hj⟩) (fun j hj => HInA.out.sub (show j < (VT.mk 3 i s n p c f).n from hj)) HVi.out HT.out (by
          have h := HLen.out
          rw [prB_three] at h
          simp only [List.length_append, List.length_cons, List.length_nil] at h
          omega))
      clear hrow
      go_enter Tryz.func31, Tryz.ntmps31
      go_wp2_with (go_at_call 61; refine HC.out.mono ?_)
      intro e w3 hP
      obtain ⟨v3, rfl, h3⟩ := hP
      have HF := hid (h3.lift HL.out.bel HL.out.keep)
      clear h3 HC
      go_wp2
      go_ret
      exact ⟨_, rfl, by rw [prB_three]; exact HF.out⟩
set_option maxHeartbeats 1000000 in
theorem print_any (t : VT) (w : World) (S : Nat → Prop) (hin : VT.In w S t) (hS : ∀ b, S b → b < w.heap.size) (hT : Tabs w.heap.size w) :
    Calls Tryz.prog 8 #[t.val] w fun e w' => e = .returned (.string (strOf (prB (cleanT t)))) ∧ Below w.heap.size w w' := by
  have HC : Hid (∀ W, Below w.heap.size w W → Calls Tryz.prog 32 #[t.val] W fun e w' => e = .returned (cleanT t).val ∧ Below W.heap.size W w') := fun W hW => orNone_any t W S (hin.below hW)
  have hcv := clean_val hin
  have hcl : (prB (cleanT t)).length ≤ 4800 := by
    have h1 := prB_len hcv
    have h2 := clean_len (t := t)
    omega
  have HA : Hid (∀ W, Below w.heap.size w W → Calls Tryz.prog 31 #[.slice none 0 0, (cleanT t).val] W fun e w' => EPost w.heap.size W ([] ++ prB (cleanT t)) e w') := fun W hW => by
    have h1 : VT.In W (fun b => b < w.heap.size) (cleanT t) := ((cleanT_in hin).mono fun b hb _ => hS b hb).kept hW.size fun b hb _ => hW.block b hb
    exact appendPrinted_any (cleanT t) w.heap.size W (.slice none 0 0) [] hW.size (World.ownsRow_nil _ _ _ _) h1 hcv (hT.on hW) (by simp; omega)
  clear hin hS hcv hT
  unfold VT.val at HC HA ⊢
  have hpos : 0 < (prB (cleanT t)).length := by
    cases cleanT t with
    | nil => simp [prB]
    | mk k i s n p c f =>
      rw [prB_eq]
      split
      · rw [itoaB_len]; unfold Go.Lib.itoa; split
        · simp
        · unfold Go.Lib.decDigits; split <;> simp
      · split
        · simp [quoB]
        · split <;> simp
  simp only [List.nil_append] at HA
  generalize prB (cleanT t) = Z at *
  go_enter Tryz.func8, Tryz.ntmps8
  go_wp2_with fail
  refine (HC.out _ ?_).mono ?_
  · exact (Below.refl _ _).alloc (Nat.le_refl _) _
  rintro e w1 ⟨rfl, hb1⟩
  have hbw : Below w.heap.size w w1 := ((Below.refl w.heap.size w).alloc (Nat.le_refl _) _).trans (hb1.mono (by simp))
  have HBw := hid hbw
  clear hb1 hbw
  go_wp2_with fail
  refine (HA.out _ HBw.out).mono ?_
  intro e w2 hP
  obtain ⟨v2, rfl, h2⟩ := hP
  obtain ⟨b, c, hv2, _⟩ := OwnBy.slice h2.own hpos
  subst hv2
  have hcv := conv_any h2.own
  have HF := hid (HBw.out.trans h2.bel)
  clear h2 HA HC
  go_wp2
  go_ret
  exact ⟨rfl, HF.out⟩
end Go.Proofs.YtoifpdnaeogdgabGreatDoor

namespace Go.Proofs.YtoifpdnaeogdgabGreatDoor
open Go.RowKit
set_option maxRecDepth 8000
set_option maxHeartbeats 1000000 in
theorem clean_any (t : VT) (w : World) (S : Nat → Prop) (hin : VT.In w S t) (ht : t.total ≤ 10000) :
    Calls Tryz.prog 7 #[t.val] w fun e w' => e = .returned (.agg #[.int .i64 (cleanT t).kind, .int .i64 (cleanT t).int, .string (cleanT t).text, .slice (cleanT t).p (cleanT t).n (cleanT t).c]) ∧ Below w.heap.size w w' := by
  have HC : Hid (∀ W, Below w.heap.size w W → Calls Tryz.prog 30 #[t.val, .int .i64 0] W fun e w' => e = .returned (.int .i64 (cnt t 0 : Int)) ∧ Below W.heap.size W w') := fun W hW => lawCount_any t 0 W S (hin.below hW) ht (by omega)
  have hcl := cnt_le t 0
  have hcc := cnt_clean t
  obtain ⟨k, i, s, n, p, c, f, rfl⟩ := hin.mk_
  simp only [VT.val, VT.kind_mk, VT.int_mk, VT.text_mk, VT.p_mk, VT.n_mk, VT.c_mk] at HC ⊢
  have hc10 : cnt (.mk k i s n p c f) 0 ≤ 10001000000 := by omega
  have HE : Hid (cleanT (.mk k i s n p c f) = if 12 < cnt (.mk k i s n p c f) 0 then zeroT else .mk k i s n p c f) := by
    unfold Hid cleanT
    by_cases h : (chk (.mk k i s n p c f) 0 0).1 = 0
    · rw [if_pos h, if_neg (fun h2 => hcc.1 h2 h)]
    · rw [if_neg h, if_pos (hcc.2 h)]
  clear hin ht hcl hcc
  generalize cnt (.mk k i s n p c f) 0 = N at *
  go_enter Tryz.func7, Tryz.ntmps7
  go_wp2_with fail
  have hS1 : Box ((w.alloc (.cells #[.int .i64 k, .int .i64 i, .string s, .slice p n c] 24)).alloc (.cells #[.int .i64 0, .int .i64 0, .string ⟨#[]⟩, .slice none 0 0] 24)) w.heap.size #[.int .i64 k, .int .i64 i, .string s, .slice p n c] 24 := (Box.new w _ 24).below ((Below.refl _ _).alloc (Nat.le_refl _) _)
  have hS2 : Box ((w.alloc (.cells #[.int .i64 k, .int .i64 i, .string s, .slice p n c] 24)).alloc (.cells #[.int .i64 0, .int .i64 0, .string ⟨#[]⟩, .slice none 0 0] 24)) (w.heap.size + 1) #[.int .i64 0, .int .i64 0, .string ⟨#[]⟩, .slice none 0 0] 24 := by
    have h := Box.new (w.alloc (.cells #[.int .i64 k, .int .i64 i, .string s, .slice p n c] 24)) #[.int .i64 0, .int .i64 0, .string ⟨#[]⟩, .slice none 0 0] 24
    simpa using h
  have hS3 : Below w.heap.size w ((w.alloc (.cells #[.int .i64 k, .int .i64 i, .string s, .slice p n c] 24)).alloc (.cells #[.int .i64 0, .int .i64 0, .string ⟨#[]⟩, .slice none 0 0] 24)) := ((Below.refl _ _).alloc (Nat.le_refl _) _).alloc (by simp) _
  refine (HC.out _ hS3).mono ?_
  rintro e w1 ⟨rfl, hb1⟩
  have hB0 := hS1.below hb1
  have hB1 := hS2.below hb1
  have hbw := hS3.trans (hb1.mono hS3.size)
  have x0 := hB0.cell 0
  have x1 := hB0.cell 1
  have x2 := hB0.cell 2
  have x3 := hB0.cell 3
  have g0 := hB1.frozen 0
  have g1 := hB1.frozen 1
  have g2 := hB1.frozen 2
  have g3 := hB1.frozen 3
  have d0 := hB1.cell 0
  have d1 := hB1.cell 1
  have d2 := hB1.cell 2
  have d3 := hB1.cell 3
  have hl := hB1.lt
  simp at x0 x1 x2 x3 d0 d1 d2 d3
  clear hS1 hS2 hS3 hb1 HC
  by_cases hN : 12 < N
  · have hN' : (12 : Int) < (N : Int) := by omega
    go_wp2
    have hk : But (fun x => x = w.heap.size + 1) w1 ((((w1.setCell ⟨w.heap.size + 1, 0, none⟩ (.int .i64 0)).setCell ⟨w.heap.size + 1, 1, none⟩ (.int .i64 0)).setCell ⟨w.heap.size + 1, 2, none⟩ (.string ⟨#[]⟩)).setCell ⟨w.heap.size + 1, 3, none⟩ (.slice none 0 0)) :=
      ((((But.one _ (w.heap.size + 1)).setAt 0 _).setAt 1 _).setAt 2 _).setAt 3 _
    refine bodyPost_ret (v := .agg #[.int .i64 0, .int .i64 0, .string ⟨#[]⟩, .slice none 0 0]) (by simp [results, Tryz.results7, go_sem, d0, d1, d2, d3]) rfl ⟨by rw [HE.out, if_pos hN]; rfl, hbw.trans (hk.below (by omega) (fun x hx => by omega))⟩
  · have hN' : ¬ (12 : Int) < (N : Int) := by omega
    go_wp2
    have hk : But (fun x => x = w.heap.size + 1) w1 ((((w1.setCell ⟨w.heap.size + 1, 0, none⟩ (.int .i64 k)).setCell ⟨w.heap.size + 1, 1, none⟩ (.int .i64 i)).setCell ⟨w.heap.size + 1, 2, none⟩ (.string s)).setCell ⟨w.heap.size + 1, 3, none⟩ (.slice p n c)) :=
      ((((But.one _ (w.heap.size + 1)).setAt 0 _).setAt 1 _).setAt 2 _).setAt 3 _
    refine bodyPost_ret (v := .agg #[.int .i64 k, .int .i64 i, .string s, .slice p n c]) (by simp [results, Tryz.results7, go_sem, d0, d1, d2, d3]) rfl ⟨by rw [HE.out, if_neg hN]; rfl, hbw.trans (hk.below (by omega) (fun x hx => by omega))⟩
end Go.Proofs.YtoifpdnaeogdgabGreatDoor
