import Derived.Test.YtdmhemofhmfkoabGreatDoorPack43
import Derived.Test.YtdmhemofhmfkoabGreatDoorPack1
import Derived.Test.YtdmhemofhmfkoabGreatDoorPack6
namespace Go.Proofs.YtdmhemofhmfkoabGreatDoor
open Go.RowKit
set_option maxRecDepth 8000

def PrintC (t : VT) : Prop := ∀ (base : Nat) (w : World) (v : Value) (zs : List Int), base ≤ w.heap.size → OwnBy base w v zs → VT.In w (fun b => b < base) t → Val t → Tabs base w → zs.length + (prB t).length ≤ 70000 →
    Calls Tryz.prog 31 #[v, t.val] w fun e w' => EPost base w (zs ++ prB t) e w'
/-- the items up to j -/
def itB (f : Nat → VT) (j : Nat) : List Int := (List.range j).flatMap fun j => (if 0 < j then [44, 32] else []) ++ prB (f j)
theorem itB_succ (f : Nat → VT) (j : Nat) : itB f (j + 1) = itB f j ++ ((if 0 < j then [44, 32] else []) ++ prB (f j)) := by simp [itB, List.range_succ, List.flatMap_append]
theorem itB_le (f : Nat → VT) {a b : Nat} (h : a ≤ b) : (itB f a).length ≤ (itB f b).length := by
  induction h with
  | refl => exact Nat.le_refl _
  | step _ ih => rw [itB_succ, List.length_append]; omega
set_option maxHeartbeats 2000000 in
set_option maxRecDepth 100000 in
theorem bracketed_of (f : Nat → VT) (ih : ∀ j, PrintC (f j)) (n : Nat) (p : Option Addr) (c : Nat) (base : Nat) (w : World) (v : Value) (zs : List Int) (hB : base ≤ w.heap.size) (hv : OwnBy base w v zs) (hn : n ≤ 6)
    (hat : 0 < n → ∃ b o, p = some ⟨b, o, none⟩ ∧ b < base ∧ b < w.heap.size ∧ ∀ j, j < n → VT.At w b (o + j * 4) (f j)) (hin : ∀ j, j < n → VT.In w (fun b => b < base) (f j)) (hval : ∀ j, j < n → Val (f j)) (hT : Tabs base w) (hlen : zs.length + (itB f n).length + 2 ≤ 70000) :
    Calls Tryz.prog 61 #[v, .slice p n c] w fun e w' => EPost base w (zs ++ ([91] ++ itB f n ++ [93])) e w' := by
  obtain ⟨i0, Kd⟩ := kindB
  have HV := hid hv
  have HT := hid hT
  have HAt := hid hat
  have HIn := hid hin
  have HVal := hid hval
  have HIh := hid ih
  have hrow : w.ownsRow base 5 1 v zs.length (zs.map (Value.int .u8)) := hv
  clear hv hT hat hin hval ih
  have hzl : zs.length ≤ 70000 := by omega
  go_enter Tryz.func61, Tryz.ntmps61
  go_wp2_with (at_builtin; refine wpList_app rfl (.tmp 7) (.tmp 8) 25 5 i0 _ 1 1 Kd rfl base v zs.length _ rfl (hrow.alloc _) ⟨w.heap.size, 0, none⟩ 1 1 [.int .u8 91] rfl rfl (cell_one_new _ _ _) (one8 _) (by omega) (by omega) (by simp; omega) ?_)
  intro v1 w1 ho1 hg1 hn1
  have HL1 := hid ((LayB.refl HV.out).one hB ho1 hg1)
  clear ho1 hg1 hn1 hrow
  go_wp2_with fail
  go_loopw [0, 12] (fun v x wr => ∃ j : Nat, j ≤ n ∧ x = .int .i64 j ∧ LayB base w ((zs ++ [91]) ++ itB f j) v wr) (fun _ x _ => n - (intOf x).toNat)
  case atStart => exact ⟨0, Nat.zero_le _, rfl, by simpa [itB] using HL1.out⟩
  case round =>
    obtain ⟨j, hj, rfl, hLj⟩ := hrel
    clear HL1
    have hsj := hLj.bel.size
    by_cases hlt : j < n
    · have hlt' : (j : Int) < (n : Int) := by omega
      obtain ⟨bb, o, hp, hSb, hbl, hat⟩ := HAt.out (by omega)
      subst hp
      obtain ⟨d0, d1, d2, d3⟩ := (hat j hlt).kept (hLj.bel.block bb hSb)
      have hle := itB_le f (show j + 1 ≤ n by omega)
      have hls : (itB f (j + 1)).length = (itB f j).length + ((if 0 < j then [(44 : Int), 32] else []).length + (prB (f j)).length) := by rw [itB_succ, List.length_append, List.length_append]
      obtain ⟨M, hM⟩ : ∃ M, M = (zs ++ [91]) ++ itB f j := ⟨_, rfl⟩
      rw [← hM] at hLj
      have hMl : M.length = zs.length + 1 + (itB f j).length := by rw [hM]; simp; omega
      have HM := hid hM
      have ha : Below wr.heap.size wr (wr.alloc (.cells #[.int .i64 (f j).kind, .int .i64 (f j).int, .string (f j).text, .slice (f j).p (f j).n (f j).c] 24)) := (Below.refl _ _).alloc (Nat.le_refl _) _
      have hLa := hLj.later (by omega) ha
      have hbx := Box.new wr #[.int .i64 (f j).kind, .int .i64 (f j).int, .string (f j).text, .slice (f j).p (f j).n (f j).c] 24
      have HLa := hid hLa
      have HBx := hid hbx
      have hrow2 : (wr.alloc (.cells #[.int .i64 (f j).kind, .int .i64 (f j).int, .string (f j).text, .slice (f j).p (f j).n (f j).c] 24)).ownsRow base 5 1 u0 M.length (M.map (Value.int .u8)) := hLa.own
      have HLe := hid (show M.length + ((if 0 < j then [(44 : Int), 32] else []).length + (prB (f j)).length) ≤ 70000 by omega)
      have hM7 : M.length ≤ 70000 := by omega
      have HC : Hid (∀ W u M2, LayB base w M2 u W → M2.length + (prB (f j)).length ≤ 70000 → Calls Tryz.prog 31 #[u, .agg #[.int .i64 (f j).kind, .int .i64 (f j).int, .string (f j).text, .slice (f j).p (f j).n (f j).c]] W fun e w' => EPost base w (M2 ++ prB (f j)) e w') := by
        intro W u M2 hL2 hl2
        have h := HIh.out j base W u M2 (Nat.le_trans hB hL2.bel.size) hL2.own ((HIn.out j hlt).kept hL2.bel.size fun b hb _ => hL2.bel.block b hb) (HVal.out j hlt) (HT.out.on hL2.bel) hl2
        refine h.mono fun e w' hP => ?_
        obtain ⟨v3, rfl, h3⟩ := hP
        exact ⟨v3, rfl, h3.lift hL2.bel hL2.keep⟩
      clear hLj hLa hbx ha hM hat hle hls hMl
      by_cases hj0 : 0 < j
      · have hj0' : (0 : Int) < (j : Int) := by omega
        have hz2 : (⟨#[44, 32]⟩ : ByteArray).size = 2 := rfl
        go_wp2_with (at_builtin; go_loud (refine Go.Lib.wpList_append_own_string _ rfl (.tmp 19) (.const (.string ⟨#[44, 32]⟩)) 25 9 rfl base 5 i0 Kd.ht Tryz.underlying9 Kd.hi Kd.hz Kd.hsize Kd.hby u0 M.length _ rfl hrow2 ⟨#[44, 32]⟩ rfl (by unfold maxLen; omega) (by omega) (by simp; omega) ?_))
        intro v3 w3 ho3 hg3 _
        have hL3 := HLa.out.text (by simp; omega) ho3 hg3
        have hB3 := (KeepN.grown HLa.out.own hg3).box (by decide) HBx.out
        have y0 := hB3.cell 0
        have y1 := hB3.cell 1
        have y2 := hB3.cell 2
        have y3 := hB3.cell 3
        simp at y0 y1 y2 y3
        have hk := HLe.out
        rw [if_pos hj0] at hk
        simp only [List.length_cons, List.length_nil] at hk
        have HC3 := hid (HC.out w3 v3 _ hL3 (by rw [List.length_append, txtB_len]; omega))
        clear ho3 hg3 hrow2 hL3 hB3 hk
        go_wp2_with (go_at_call 31; refine HC3.out.mono ?_)
        intro e w4 hP
        obtain ⟨v4, rfl, h4⟩ := hP
        have e1 : M ++ txtB ⟨#[44, 32]⟩ ++ prB (f j) = (zs ++ [91]) ++ itB f (j + 1) := by
          rw [itB_succ, if_pos hj0, HM.out]
          simp [txtB]
        rw [e1] at h4
        have HF := hid h4
        clear h4 HC3 e1 y0 y1 y2 y3
        go_wp2
        go_roundw
        case rel => exact ⟨j + 1, by omega, by go_num, HF.out⟩
        case measure => simp [intOf]; omega
      · have hj0' : ¬ (0 : Int) < (j : Int) := by omega
        have hk := HLe.out
        rw [if_neg hj0] at hk
        simp only [List.length_nil] at hk
        have HC3 := hid (HC.out _ u0 _ HLa.out (by omega))
        clear hrow2 hk
        go_wp2_with (go_at_call 31; refine HC3.out.mono ?_)
        intro e w4 hP
        obtain ⟨v4, rfl, h4⟩ := hP
        have e1 : M ++ prB (f j) = (zs ++ [91]) ++ itB f (j + 1) := by
          rw [itB_succ, if_neg hj0, HM.out]
          simp
        rw [e1] at h4
        have HF := hid h4
        clear h4 HC3 e1
        go_wp2
        go_roundw
        case rel => exact ⟨j + 1, by omega, by go_num, HF.out⟩
        case measure => simp [intOf]; omega
    · have hje : j = n := by omega
      have hlt' : ¬ (j : Int) < (n : Int) := by omega
      rw [hje] at hLj
      obtain ⟨M, hM⟩ : ∃ M, M = (zs ++ [91]) ++ itB f n := ⟨_, rfl⟩
      rw [← hM] at hLj
      have hMl : M.length ≤ 70000 := by rw [hM]; simp; omega
      have HM := hid hM
      have HL := hid hLj
      have hrow2 : wr.ownsRow base 5 1 u0 M.length (M.map (Value.int .u8)) := hLj.own
      clear hLj hM
      go_wp2_with (at_builtin; refine wpList_app rfl (.tmp 25) (.tmp 26) 25 5 i0 _ 1 1 Kd rfl base u0 M.length _ rfl (hrow2.alloc _) ⟨wr.heap.size, 0, none⟩ 1 1 [.int .u8 93] rfl rfl (cell_one_new _ _ _) (one8 _) (by omega) (by omega) (by simp; omega) ?_)
      intro v3 w3 ho3 hg3 hn3
      have h := HL.out.one (by omega) ho3 hg3
      have e1 : M ++ [93] = zs ++ ([91] ++ itB f n ++ [93]) := by rw [HM.out]; simp
      rw [e1] at h
      have HF := hid h
      clear ho3 hg3 hn3 hrow2 h e1
      go_wp2
      go_ret
      exact ⟨_, rfl, by simpa using HF.out⟩
end Go.Proofs.YtdmhemofhmfkoabGreatDoor

namespace Go.Proofs.YtdmhemofhmfkoabGreatDoor
open Go.RowKit
set_option maxRecDepth 8000

set_option maxHeartbeats 1000000 in
theorem check_any (t : VT) (w : World) (S : Nat → Prop) (hin : VT.In w S t) (hS : ∀ b, S b → b < w.heap.size) :
    Calls Tryz.prog 14 #[t.val] w fun e w' => e = .returned (.int .i64 (chk t 0 0).1) ∧ Below w.heap.size w w' := by
  have HC : Hid (∀ W b, Below w.heap.size w W → w.heap.size ≤ b → Box W b #[.int .i64 ((0 : Nat) : Int)] 3 → Calls Tryz.prog 40 #[t.val, .int .i64 ((0 : Nat) : Int), .pointer (some ⟨b, 0, none⟩)] W fun e w' => e = .returned (.int .i64 (chk t 0 0).1) ∧ Box w' b #[.int .i64 (chk t 0 0).2] 3 ∧ But (fun k => k = b) W w') :=
    fun W b hW hb hB => checkPart_any t W S b 0 0 (hin.below hW) (fun h => by have := hS b h; omega) hB (by omega) (by omega)
  obtain ⟨k, i, s, n, p, c, f, rfl⟩ := hin.mk_
  clear hin hS
  generalize chk (.mk k i s n p c f) 0 0 = r at *
  simp only [VT.val, VT.kind_mk, VT.int_mk, VT.text_mk, VT.p_mk, VT.n_mk, VT.c_mk] at HC ⊢
  go_enter Tryz.func14, Tryz.ntmps14
  go_wp2_with fail
  refine (HC.out _ (w.heap.size + 1) ?_ ?_ ?_).mono ?_
  · exact ((Below.refl _ _).alloc (Nat.le_refl _) _).alloc (by simp) _
  · omega
  · have h := Box.new (w.alloc (.cells #[.int .i64 k, .int .i64 i, .string s, .slice p n c] 24)) #[.int .i64 0] 3
    simpa using h
  · rintro e w1 ⟨rfl, _, hK⟩
    have hb1 : Below w.heap.size w w1 := (((Below.refl w.heap.size w).alloc (Nat.le_refl _) _).alloc (by simp) _).trans (hK.below (by simp; omega) (fun x hx => by omega))
    clear hK HC
    go_wp2
    go_ret
    exact ⟨rfl, hb1⟩
end Go.Proofs.YtdmhemofhmfkoabGreatDoor

namespace Go.Proofs.YtdmhemofhmfkoabGreatDoor
open Go.RowKit
set_option maxRecDepth 8000

set_option maxHeartbeats 1000000 in
theorem orNone_any (t : VT) (w : World) (S : Nat → Prop) (hin : VT.In w S t) :
    Calls Tryz.prog 32 #[t.val] w fun e w' => e = .returned (cleanT t).val ∧ Below w.heap.size w w' := by
  have HC : Hid (∀ W, Below w.heap.size w W → Calls Tryz.prog 14 #[t.val] W fun e w' => e = .returned (.int .i64 (chk t 0 0).1) ∧ Below W.heap.size W w') :=
    fun W hW => check_any t W (fun b => b < W.heap.size) ((hin.below hW).mono fun b _ hl => hl) (fun b hb => hb)
  obtain ⟨k, i, s, n, p, c, f, ht⟩ := hin.mk_
  clear hin
  unfold cleanT
  by_cases h : (chk t 0 0).1 = 0
  · rw [if_pos h]
    rw [h] at HC
    simp only [VT.val, ht, VT.kind_mk, VT.int_mk, VT.text_mk, VT.p_mk, VT.n_mk, VT.c_mk] at HC ⊢
    go_enter Tryz.func32, Tryz.ntmps32
    go_wp2_with fail
    refine (HC.out _ ?_).mono ?_
    · exact ((Below.refl _ _).alloc (Nat.le_refl _) _).alloc (by simp) _
    rintro e w1 ⟨rfl, hb1⟩
    have hv1 : Box w1 w.heap.size #[.int .i64 k, .int .i64 i, .string s, .slice p n c] 24 := ((Box.new w _ 24).below ((Below.refl _ _).alloc (Nat.le_refl _) _)).below hb1
    have hv2 : Box w1 (w.heap.size + 1) #[.int .i64 0, .int .i64 0, .string ⟨#[]⟩, .slice none 0 0] 24 := by
      have h := Box.new (w.alloc (.cells #[.int .i64 k, .int .i64 i, .string s, .slice p n c] 24)) #[.int .i64 0, .int .i64 0, .string ⟨#[]⟩, .slice none 0 0] 24
      rw [show (w.alloc (.cells #[.int .i64 k, .int .i64 i, .string s, .slice p n c] 24)).heap.size = w.heap.size + 1 by simp] at h
      exact h.below hb1
    have hbw : Below w.heap.size w w1 := (((Below.refl w.heap.size w).alloc (Nat.le_refl _) _).alloc (by simp) _).trans (hb1.mono (by simp; omega))
    have x0 := hv1.cell 0
    have x1 := hv1.cell 1
    have x2 := hv1.cell 2
    have x3 := hv1.cell 3
    have d0 := hv2.cell 0
    have d1 := hv2.cell 1
    have d2 := hv2.cell 2
    have d3 := hv2.cell 3
    have e0 := hv2.frozen 0
    have e1 := hv2.frozen 1
    have e2 := hv2.frozen 2
    have e3 := hv2.frozen 3
    have z2 := hv2.lt
    simp at x0 x1 x2 x3 d0 d1 d2 d3
    clear hb1 hv1 hv2 HC
    go_wp2
    refine bodyPost_ret (v := .agg #[.int .i64 k, .int .i64 i, .string s, .slice p n c]) (by simp [results, Tryz.results32, go_sem, d0, d1, d2, d3]) rfl ⟨rfl, ?_⟩
    exact (((hbw.setCell (Nat.le_succ _) _).setCell (Nat.le_succ _) _).setCell (Nat.le_succ _) _).setCell (Nat.le_succ _) _
  · rw [if_neg h]
    have h' : ¬ (((chk t 0 0).1 : Int) = 0) := by omega
    generalize (chk t 0 0).1 = r at *
    simp only [VT.val, zeroT, ht, VT.kind_mk, VT.int_mk, VT.text_mk, VT.p_mk, VT.n_mk, VT.c_mk] at HC ⊢
    go_enter Tryz.func32, Tryz.ntmps32
    go_wp2_with fail
    refine (HC.out _ ?_).mono ?_
    · exact ((Below.refl _ _).alloc (Nat.le_refl _) _).alloc (by simp) _
    rintro e w1 ⟨rfl, hb1⟩
    have hv1 : Box w1 w.heap.size #[.int .i64 k, .int .i64 i, .string s, .slice p n c] 24 := ((Box.new w _ 24).below ((Below.refl _ _).alloc (Nat.le_refl _) _)).below hb1
    have hv2 : Box w1 (w.heap.size + 1) #[.int .i64 0, .int .i64 0, .string ⟨#[]⟩, .slice none 0 0] 24 := by
      have h := Box.new (w.alloc (.cells #[.int .i64 k, .int .i64 i, .string s, .slice p n c] 24)) #[.int .i64 0, .int .i64 0, .string ⟨#[]⟩, .slice none 0 0] 24
      rw [show (w.alloc (.cells #[.int .i64 k, .int .i64 i, .string s, .slice p n c] 24)).heap.size = w.heap.size + 1 by simp] at h
      exact h.below hb1
    have hbw : Below w.heap.size w w1 := (((Below.refl w.heap.size w).alloc (Nat.le_refl _) _).alloc (by simp) _).trans (hb1.mono (by simp; omega))
    have x0 := hv1.cell 0
    have x1 := hv1.cell 1
    have x2 := hv1.cell 2
    have x3 := hv1.cell 3
    have d0 := hv2.cell 0
    have d1 := hv2.cell 1
    have d2 := hv2.cell 2
    have d3 := hv2.cell 3
    have e0 := hv2.frozen 0
    have e1 := hv2.frozen 1
    have e2 := hv2.frozen 2
    have e3 := hv2.frozen 3
    have z2 := hv2.lt
    simp at x0 x1 x2 x3 d0 d1 d2 d3
    clear hb1 hv1 hv2 HC
    go_wp2
    refine bodyPost_ret (v := .agg #[.int .i64 0, .int .i64 0, .string ⟨#[]⟩, .slice none 0 0]) (by simp [results, Tryz.results32, go_sem, d0, d1, d2, d3]) rfl ⟨rfl, ?_⟩
    exact (((hbw.setCell (Nat.le_succ _) _).setCell (Nat.le_succ _) _).setCell (Nat.le_succ _) _).setCell (Nat.le_succ _) _
end Go.Proofs.YtdmhemofhmfkoabGreatDoor

namespace Go.Proofs.YtdmhemofhmfkoabGreatDoor
open Go.RowKit
set_option maxRecDepth 8000

theorem itoa_cells (i : Int) : Go.Lib.byteCells (Go.Lib.itoa i) = (itoaB i).map (Value.int .u8) := by
  simp [Go.Lib.byteCells, itoaB, List.map_map, Function.comp_def]
theorem itoaB_len (i : Int) : (itoaB i).length = (Go.Lib.itoa i).length := by simp [itoaB]
/-- a number's digits more -/
theorem LayB.num {base : Nat} {a w w' : World} {v v' : Value} {zs : List Int} {i : Int} (h : LayB base a zs v w) (ho : w'.ownsRow base 5 1 v' (zs.length + (Go.Lib.itoa i).length) (zs.map (Value.int .u8) ++ Go.Lib.byteCells (Go.Lib.itoa i))) (hb : Below base w w') (hk : Go.Lib.OthersKept 5 none w w') : LayB base a (zs ++ itoaB i) v' w' :=
  ⟨h.own.app (by rw [itoaB_len, ← itoa_cells]; exact ho), h.bel.trans hb, h.keep.trans fun B o he hB => hk B o hB (by simp) he⟩
theorem prB_three (i : Int) (s : ByteArray) (n : Nat) (p : Option Addr) (c : Nat) (f : Nat → VT) : prB (.mk 3 i s n p c f) = [91] ++ itB f n ++ [93] := by
  rw [prB_eq, if_neg (by decide), if_neg (by decide), if_pos rfl]
  rfl
theorem itB_len {f : Nat → VT} {m : Nat} (h : ∀ j, j < m → (prB (f j)).length ≤ 400 * (flatP (f j)).length) : ∀ n, n ≤ m → (itB f n).length ≤ 2 * n + 400 * (flatN f n).length := by
  intro n
  induction n with
  | zero => intro _; simp [itB]
  | succ n ih =>
    intro hn
    have h1 := ih (by omega)
    have h2 := h n (by omega)
    rw [itB_succ, flatN_succ, List.length_append, List.length_append, List.length_append]
    have h3 : (if 0 < n then [(44 : Int), 32] else []).length ≤ 2 := by split <;> simp
    omega
theorem prB_len {t : VT} (h : Val t) : (prB t).length ≤ 400 * (flatP t).length := by
  induction t with
  | nil => exact h.elim
  | mk k i s n p c f ih =>
    obtain ⟨⟨h1, h2, h3, h4, h5⟩, h6⟩ := h
    by_cases hk : k = 3
    · subst hk
      have h7 := itB_len (m := n) (fun j hj => ih j (h6 j hj)) n (Nat.le_refl _)
      rw [prB_three, flatP_eq]
      simp only [List.length_append, List.length_cons, List.length_nil, flatN] at h7 ⊢
      omega
    · rw [prB_eq, flatP_eq]
      simp only [List.length_cons]
      split
      · rw [itoaB_len]
        have := Go.Lib.itoa_length_le i h4 h5
        omega
      · split
        · have := quoF_len s s.size 0
          rw [quoB]
          simp only [List.length_append, List.length_cons, List.length_nil]
          omega
        · simp only [List.length_cons, List.length_nil]
          omega
set_option maxHeartbeats 2000000 in
set_option maxRecDepth 100000 in
theorem appendPrinted_any (t : VT) : PrintC t := by
  obtain ⟨i0, Kd⟩ := kindB
  induction t with
  | nil => intro base w v zs _ _ hin; exact hin.elim
  | mk k i s n p c f ih =>
    intro base w v zs hB hv hin hval hT hlen
    have HIn := hid hin
    obtain ⟨⟨hf, hs24, hn6, hi1, hi2⟩, hvi⟩ := hval
    have hk : 0 ≤ k ∧ k ≤ 3 := by
      simp only [fitB, Bool.and_eq_true, Bool.or_eq_true, decide_eq_true_eq] at hf
      exact ⟨hf.1.1.1.1, hf.1.1.1.2⟩
    obtain ⟨hk0, hk3⟩ := hk
    simp only [VT.val, VT.kind_mk, VT.int_mk, VT.text_mk, VT.p_mk, VT.n_mk, VT.c_mk]
    have ha : Below w.heap.size w (w.alloc (.cells #[.int .i64 k, .int .i64 i, .string s, .slice p n c] 24)) := (Below.refl _ _).alloc (Nat.le_refl _) _
    have hL := (LayB.refl hv).later hB ha
    have HL := hid hL
    have HT := hid (hT.on hL.bel)
    have HInA := hid (hin.below ha)
    have hzl : zs.length ≤ 70000 := by omega
    have hrow : (w.alloc (.cells #[.int .i64 k, .int .i64 i, .string s, .slice p n c] 24)).ownsRow base 5 1 v zs.length (zs.map (Value.int .u8)) := hL.own
    have HLen := hid hlen
    have HVi := hid hvi
    have hBa : base ≤ (w.alloc (.cells #[.int .i64 k, .int .i64 i, .string s, .slice p n c] 24)).heap.size := by simp; omega
    clear hin hf hv ha hL hT hvi hlen
    rcases (by omega : k = 0 ∨ k = 1 ∨ k = 2 ∨ k = 3) with rfl | rfl | rfl | rfl
    · have hz2 : (⟨#[110, 111, 110, 101]⟩ : ByteArray).size = 4 := rfl
      go_enter Tryz.func31, Tryz.ntmps31
      go_wp2_with (at_builtin; go_loud (refine Go.Lib.wpList_append_own_string _ rfl (.tmp 25) (.const (.string ⟨#[110, 111, 110, 101]⟩)) 25 9 rfl base 5 i0 Kd.ht Tryz.underlying9 Kd.hi Kd.hz Kd.hsize Kd.hby v zs.length _ rfl hrow ⟨#[110, 111, 110, 101]⟩ rfl (by unfold maxLen; omega) (by omega) hBa ?_))
      intro v3 w3 ho3 hg3 _
      have HF := hid (HL.out.text hBa ho3 hg3)
      clear ho3 hg3 hrow
      go_wp2
      go_ret
      exact ⟨_, rfl, HF.out⟩
    · have hil := Go.Lib.itoa_length_le i hi1 hi2
      have HC := hid (Tryz.strconv_AppendInt_10 base zs.length i hi1 hi2 v (zs.map (Value.int .u8)) _ hrow hBa (by omega) HT.out.pow)
      clear hrow
      go_enter Tryz.func31, Tryz.ntmps31
      go_wp2_with (go_at_call 59; refine HC.out.mono ?_)
      rintro e w3 ⟨v3, rfl, ho3, hb3, hk3⟩
      have HF := hid (HL.out.num ho3 hb3 hk3)
      clear ho3 hb3 hk3 HC
      go_wp2
      go_ret
      exact ⟨_, rfl, HF.out⟩
    · have HC := hid (appendQuoted_any s hs24 base _ v zs HL.out.own hBa (by omega) HT.out)
      clear hrow
      go_enter Tryz.func31, Tryz.ntmps31
      go_wp2_with (go_at_call 60; refine HC.out.mono ?_)
      intro e w3 hP
      obtain ⟨v3, rfl, h3⟩ := hP
      have HF := hid (h3.lift HL.out.bel HL.out.keep)
      clear h3 HC
      go_wp2
      go_ret
      exact ⟨_, rfl, HF.out⟩
    · have HC := hid (bracketed_of f ih n p c base _ v zs hBa HL.out.own hn6 (fun hp => by
          obtain ⟨b, o, e, hb, hl, ha⟩ := HInA.out.at_ (show 0 < (VT.mk 3 i s n p c f).n from hp)
          exact ⟨b, o, e, hb, hl, fun j hj => ha j hj⟩) (fun j hj => HInA.out.sub (show j < (VT.mk 3 i s n p c f).n from hj)) HVi.out HT.out (by
          have h := HLen.out
          rw [prB_three] at h
          simp only [List.length_append, List.length_cons, List.length_nil] at h
          omega))
      clear hrow
      go_enter Tryz.func31, Tryz.ntmps31
      go_wp2_with (go_at_call 61; refine HC.out.mono ?_)
      intro e w3 hP
      obtain ⟨v3, rfl, h3⟩ := hP
      have HF := hid (h3.lift HL.out.bel HL.out.keep)
      clear h3 HC
      go_wp2
      go_ret
      exact ⟨_, rfl, by rw [prB_three]; exact HF.out⟩
set_option maxHeartbeats 1000000 in
theorem print_any (t : VT) (w : World) (S : Nat → Prop) (hin : VT.In w S t) (hS : ∀ b, S b → b < w.heap.size) (hT : Tabs w.heap.size w) :
    Calls Tryz.prog 8 #[t.val] w fun e w' => e = .returned (.string (strOf (prB (cleanT t)))) ∧ Below w.heap.size w w' := by
  have HC : Hid (∀ W, Below w.heap.size w W → Calls Tryz.prog 32 #[t.val] W fun e w' => e = .returned (cleanT t).val ∧ Below W.heap.size W w') := fun W hW => orNone_any t W S (hin.below hW)
  have hcv := clean_val hin
  have hcl : (prB (cleanT t)).length ≤ 4800 := by
    have h1 := prB_len hcv
    have h2 := clean_len (t := t)
    omega
  have HA : Hid (∀ W, Below w.heap.size w W → Calls Tryz.prog 31 #[.slice none 0 0, (cleanT t).val] W fun e w' => EPost w.heap.size W ([] ++ prB (cleanT t)) e w') := fun W hW => by
    have h1 : VT.In W (fun b => b < w.heap.size) (cleanT t) := ((cleanT_in hin).mono fun b hb _ => hS b hb).kept hW.size fun b hb _ => hW.block b hb
    exact appendPrinted_any (cleanT t) w.heap.size W (.slice none 0 0) [] hW.size (World.ownsRow_nil _ _ _ _) h1 hcv (hT.on hW) (by simp; omega)
  clear hin hS hcv hT
  unfold VT.val at HC HA ⊢
  have hpos : 0 < (prB (cleanT t)).length := by
    cases cleanT t with
    | nil => simp [prB]
    | mk k i s n p c f =>
      rw [prB_eq]
      split
      · rw [itoaB_len]; unfold Go.Lib.itoa; split
        · simp
        · unfold Go.Lib.decDigits; split <;> simp
      · split
        · simp [quoB]
        · split <;> simp
  simp only [List.nil_append] at HA
  generalize prB (cleanT t) = Z at *
  go_enter Tryz.func8, Tryz.ntmps8
  go_wp2_with fail
  refine (HC.out _ ?_).mono ?_
  · exact (Below.refl _ _).alloc (Nat.le_refl _) _
  rintro e w1 ⟨rfl, hb1⟩
  have hbw : Below w.heap.size w w1 := ((Below.refl w.heap.size w).alloc (Nat.le_refl _) _).trans (hb1.mono (by simp))
  have HBw := hid hbw
  clear hb1 hbw
  go_wp2_with fail
  refine (HA.out _ HBw.out).mono ?_
  intro e w2 hP
  obtain ⟨v2, rfl, h2⟩ := hP
  obtain ⟨b, c, hv2, _⟩ := OwnBy.slice h2.own hpos
  subst hv2
  have hcv := conv_any h2.own
  have HF := hid (HBw.out.trans h2.bel)
  clear h2 HA HC
  go_wp2
  go_ret
  exact ⟨rfl, HF.out⟩
end Go.Proofs.YtdmhemofhmfkoabGreatDoor

namespace Go.Proofs.YtdmhemofhmfkoabGreatDoor
open Go.RowKit
set_option maxRecDepth 8000
def prsN (f : Nat → VT) (j : Nat) : List Int := (List.range j).flatMap fun j => (if 0 < j then [44, 32] else []) ++ prB (f j)
theorem prsN_succ (f : Nat → VT) (j : Nat) : prsN f (j + 1) = prsN f j ++ ((if 0 < j then [44, 32] else []) ++ prB (f j)) := by simp [prsN, List.range_succ, List.flatMap_append]
theorem prs_len {f : Nat → VT} : ∀ j, (∀ q, q < j → Val (f q)) → (prsN f j).length ≤ 402 * (flatN f j).length
  | 0, _ => by simp [prsN]
  | j + 1, h => by
    have h1 := prs_len j (fun q hq => h q (by omega))
    have h2 := prB_len (h j (by omega))
    have h3 := flatP_pos (f j)
    rw [prsN_succ, flatN_succ, List.length_append, List.length_append, List.length_append]
    have h4 : (if 0 < j then ([44, 32] : List Int) else []).length ≤ 2 := by split <;> simp
    omega
set_option maxHeartbeats 4000000 in
theorem show_list (s : ByteArray) (n : Nat) (g c i : Nat) (j0 : Int) (p : Option Addr) (cc : Nat) (f : Nat → VT) (w : World) (base : Nat) (L rest : List PT) (ih : ∀ j, ShowC (f j)) (hL : w.ownsRow base 122 4 (.slice (some ⟨g, 0, none⟩) L.length c) L.length (ptCells L)) (hd : L.drop i = flatP (.mk 3 j0 s n p cc f) ++ rest) (hlen : L.length ≤ 12) (hv : Val (.mk 3 j0 s n p cc f))
    (hi : i < L.length)
    (c0 : w.cell? ⟨g, i * 4, none⟩ = some (.int .i64 3)) (c1 : w.cell? ⟨g, i * 4 + 1, none⟩ = some (.int .i64 j0)) (c2 : w.cell? ⟨g, i * 4 + 2, none⟩ = some (.string s)) (c3 : w.cell? ⟨g, i * 4 + 3, none⟩ = some (.int .i64 n)) :
    Calls Tryz.prog 47 #[.slice (some ⟨g, 0, none⟩) L.length c, .int .i64 i] w fun r w' => ShowPost w (.mk 3 j0 s n p cc f) i r w' := by
  have hi' : (i : Int) < (L.length : Int) := by omega
  have hW : Below w.heap.size w (w.alloc (.cells #[.int .i64 3, .int .i64 j0, .string s, .int .i64 n] 122)) := (Below.refl _ _).alloc (Nat.le_refl _) _
  have hP : Box (w.alloc (.cells #[.int .i64 3, .int .i64 j0, .string s, .int .i64 n] 122)) w.heap.size #[.int .i64 3, .int .i64 j0, .string s, .int .i64 n] 122 := Box.new w _ 122
  have HL : Hid (w.ownsRow base 122 4 (.slice (some ⟨g, 0, none⟩) L.length c) L.length (ptCells L)) := hL
  have HV : Hid (∀ j, j < n → Val (f j)) := hv.2
  have hd1 : L.drop (i + 1) = flatN f n ++ rest := by
    rw [← List.drop_drop, hd, flatP_eq]; rfl
  have HD : Hid (∀ j, j < n → ∃ rest', L.drop (i + 1 + (flatN f j).length) = flatP (f j) ++ rest') := by
    intro j hj
    obtain ⟨X, hX⟩ := flatN_pre f (show j + 1 ≤ n from hj)
    refine ⟨X ++ rest, ?_⟩
    rw [← List.drop_drop, hd1, hX, flatN_succ, List.append_assoc, List.append_assoc, List.drop_left]
  have HLe : Hid (∀ j, j ≤ n → i + 1 + (flatN f j).length ≤ 12) := by
    intro j hj
    obtain ⟨X, hX⟩ := flatN_pre f hj
    have h1 := congrArg List.length hd1
    rw [hX] at h1
    simp only [List.length_drop, List.length_append] at h1
    omega
  have HRl : Hid (∀ j, j ≤ n → (prsN f j).length ≤ 402 * (flatN f j).length) := fun j hj => prs_len j fun q hq => hv.2 q (by omega)
  have hn6 : n ≤ 6 := hv.1.2.2.1
  have HPr : Hid (prB (.mk 3 j0 s n p cc f) = 91 :: (prsN f n ++ [93])) := by unfold Hid; rw [prB_eq, if_neg (by omega), if_neg (by omega), if_pos rfl]; rfl
  have HFl : Hid (i + (flatP (.mk 3 j0 s n p cc f)).length = i + 1 + (flatN f n).length) := by unfold Hid; rw [flatP_eq]; simp only [List.length_cons, flatN]; omega
  unfold ShowPost
  rw [HPr.out, HFl.out]
  clear hL hv hd hd1 HPr HFl
  go_enter Tryz.func47, Tryz.ntmps47
  go_wp2_with fail
  go_loopw [7, 8, 9] (fun v a x wr => ∃ k : Nat, k ≤ n ∧ x = .int .i64 k ∧ a = .int .i64 ((i + 1 + (flatN f k).length : Nat) : Int) ∧ v = .string (strOf (91 :: prsN f k)) ∧ Box wr w.heap.size #[.int .i64 3, .int .i64 j0, .string s, .int .i64 n] 122 ∧ Below w.heap.size w wr) (fun _ _ x _ => n - (intOf x).toNat)
  case atStart => exact ⟨0, by omega, rfl, by simp [flatN], rfl, hP, hW⟩
  case round =>
    obtain ⟨k, hk, rfl, rfl, rfl, hPk, hbk⟩ := hrel
    clear hP hW c0 c1 c2 c3
    have x3 := hPk.cell 3
    simp at x3
    have hLk := HLe.out k hk
    have hRk := HRl.out k hk
    obtain ⟨P, hPe⟩ : ∃ P, strOf (91 :: prsN f k) = P := ⟨_, rfl⟩
    have hPs : P.size ≤ 6000 := by rw [← hPe, strOf_size]; simp only [List.length_cons]; omega
    rw [hPe]
    have HPe := hid hPe
    have HPk := hid hPk
    have HBk := hid hbk
    clear hPe
    by_cases hlt : k < n
    · have hlt' : (k : Int) < (n : Int) := by omega
      obtain ⟨rest', hr'⟩ := HD.out k hlt
      have HC : Hid (Calls Tryz.prog 47 #[.slice (some ⟨g, 0, none⟩) L.length c, .int .i64 ((i + 1 + (flatN f k).length : Nat) : Int)] wr fun r w' => ShowPost wr (f k) (i + 1 + (flatN f k).length) r w') :=
        ih k wr base L g c (i + 1 + (flatN f k).length) rest' (ownsRow_keep HL.out fun y _ hl => hbk.block y hl) hr' hlen (HV.out k hlt)
      have hpb := prB_len (HV.out k hlt)
      have hL1 := HLe.out (k + 1) (by omega)
      rw [flatN_succ, List.length_append] at hL1
      have HS : Hid (i + 1 + (flatN f k).length + (flatP (f k)).length = i + 1 + (flatN f (k + 1)).length) := by unfold Hid; rw [flatN_succ, List.length_append]; omega
      obtain ⟨X, hX⟩ : ∃ X, strOf (prB (f k)) = X := ⟨_, rfl⟩
      have hXs : X.size ≤ 6000 := by rw [← hX, strOf_size]; omega
      have HX := hid hX
      have HE : Hid ((if 0 < k then P ++ ⟨#[44, 32]⟩ else P) ++ X = strOf (91 :: prsN f (k + 1))) := by
        unfold Hid
        rw [← hX, ← HPe.out, prsN_succ]
        by_cases h0 : 0 < k
        · rw [if_pos h0, if_pos h0, show (⟨#[44, 32]⟩ : ByteArray) = strOf [44, 32] from rfl, str_appR, str_appR]; simp
        · rw [if_neg h0, if_neg h0, str_appR]; simp
      clear hr' hX HD HL hPk hbk
      go_wp2_with fail
      refine HC.out.mono ?_
      intro ex w1 hQ
      obtain ⟨hx, hb1⟩ := hQ
      rw [HX.out, HS.out] at hx
      subst hx
      have HP1 := hid (HPk.out.below hb1)
      have HB1 := hid (HBk.out.trans (hb1.mono HBk.out.size))
      clear hb1 HC x3
      by_cases h0 : 0 < k
      · have h0' : (0 : Int) < (k : Int) := by omega
        rw [if_pos h0] at HE
        go_wp2
        first
          | exact ⟨⟨k + 1, by omega, by go_num, rfl, by rw [HE.out], HP1.out, HB1.out⟩, by simp [intOf]; omega⟩
          | (go_roundw
             case rel => exact ⟨k + 1, by omega, by go_num, rfl, by rw [HE.out], HP1.out, HB1.out⟩
             case measure => simp [intOf]; omega)
      · have h0' : ¬ (0 : Int) < (k : Int) := by omega
        rw [if_neg h0] at HE
        go_wp2
        first
          | exact ⟨⟨k + 1, by omega, by go_num, rfl, by rw [HE.out], HP1.out, HB1.out⟩, by simp [intOf]; omega⟩
          | (go_roundw
             case rel => exact ⟨k + 1, by omega, by go_num, rfl, by rw [HE.out], HP1.out, HB1.out⟩
             case measure => simp [intOf]; omega)
    · obtain rfl : k = n := by omega
      have hx : ¬ (k : Int) < (k : Int) := by omega
      have HE : Hid (P ++ ⟨#[93]⟩ = strOf (91 :: (prsN f k ++ [93]))) := by unfold Hid; rw [← HPe.out, show (⟨#[93]⟩ : ByteArray) = strOf [93] from rfl, str_appR]; rfl
      clear HPe hPk hbk
      go_wp2
      exact bodyPost_ret (v := .tuple #[.string (P ++ ⟨#[93]⟩), .int .i64 ((i + 1 + (flatN f k).length : Nat) : Int)]) (by simp [results, Tryz.results47, go_sem]) rfl ⟨by rw [← HE.out]; rfl, HBk.out⟩
theorem show_any (t : VT) : ShowC t := by
  induction t with
  | nil => intro w base L g c i rest _ _ _ hv; exact hv.elim
  | mk k j0 s n p cc f ih =>
    intro w base L g c i rest hL hd hlen hv
    have hq : L[i]? = some ⟨k, j0, s, n⟩ := by
      have h := congrArg (fun l => l[0]?) hd
      rw [flatP_eq] at h
      simpa using h
    obtain ⟨hi, c0, c1, c2, c3⟩ := part_at hL hq
    have hf := hv.1.1
    have hsh := shp_of hf
    cases hsh with
    | none s hs => exact show_none s 0 L.length g c i 0 p cc f w hi hlen c0 c1 c2 c3 rfl
    | zero s hs => exact show_int s 0 L.length g c i 0 p cc f w hi hlen c0 c1 c2 c3 rfl hv.1.2.2.2.1 hv.1.2.2.2.2
    | int i1 s hi1 hs => exact show_int s 0 L.length g c i j0 p cc f w hi hlen c0 c1 c2 c3 rfl hv.1.2.2.2.1 hv.1.2.2.2.2
    | empty s hs => exact show_text s 0 L.length g c i 0 p cc f w hi hlen c0 c1 c2 c3 rfl hv.1.2.1
    | text s hs => exact show_text s 0 L.length g c i 0 p cc f w hi hlen c0 c1 c2 c3 rfl hv.1.2.1
    | bare s hs => exact show_list s 0 g c i 0 p cc f w base L rest ih hL hd hlen hv hi c0 c1 c2 c3
    | list s n hs hn => exact show_list s n g c i 0 p cc f w base L rest ih hL hd hlen hv hi c0 c1 c2 c3
set_option maxHeartbeats 2000000 in
theorem refPrint_any (t : VT) (w : World) (S : Nat → Prop) (hin : VT.In w S t) :
    Calls Tryz.prog 23 #[t.val] w fun e w' => e = .returned (.string (strOf (prB (cleanT t)))) ∧ Below w.heap.size w w' := by
  have H1 : Hid (∀ W, Below w.heap.size w W → Calls Tryz.prog 48 #[t.val] W fun e w' => PartsPost W t e w') := fun W hW => parts_any t W S (hin.below hW)
  have hv1 := clean_val hin
  clear hin
  unfold VT.val at H1 ⊢
  go_enter Tryz.func23, Tryz.ntmps23
  go_wp2_with fail
  refine (H1.out _ ?_).mono ?_
  · exact (Below.refl _ _).alloc (Nat.le_refl _) _
  intro e w1 hP
  obtain ⟨g1, c1, rfl, ho1, hb1⟩ := hP
  have HB1 := hid (((Below.refl w.heap.size w).alloc (Nat.le_refl _) (.cells #[.int .i64 t.kind, .int .i64 t.int, .string t.text, .slice t.p t.n t.c] 24)).trans (hb1.mono (by simp)))
  have HR1 := hid (show_any (cleanT t) w1 0 (flatP (cleanT t)) g1 c1 0 [] ho1 (by simp) clean_len hv1)
  clear hb1 ho1 H1
  go_wp2_with fail
  refine HR1.out.mono ?_
  intro e w2 hP
  obtain ⟨rfl, hb2⟩ := hP
  have HB2 := hid (HB1.out.trans (hb2.mono HB1.out.size))
  clear hb2 HR1
  go_wp2
  go_ret
  exact ⟨rfl, HB2.out⟩
end Go.Proofs.YtdmhemofhmfkoabGreatDoor
