import Derived.Test.YtoifpdnaeogdgabDoorPack37
namespace Go.Proofs.YtoifpdnaeogdgabDoor
open Go.RowKit
set_option maxRecDepth 8000
set_option maxHeartbeats 4000000 in
theorem loose_walk (t : VT) (cp : Option Addr) (cn cc : Nat) (cf : Nat → Int) (w : World) (S : Nat → Prop) (hin : VT.In w S t) (hS : ∀ b, S b → b < w.heap.size) (hI : Ints w S cp cn cc cf) (hT : Tabs w.heap.size w) (hEr : Errs w.heap.size w) :
    Calls Tryd.prog 3 #[t.val, .slice cp cn cc] w fun e w' => e = .returned (.bool true) ∧ Below w.heap.size w w' := by
  have HI : Hid (VT.In w S t ∧ ∀ b, S b → b < w.heap.size) := ⟨hin, hS⟩
  have HT := hid (And.intro hT hEr)
  have HC := hid hI
  obtain ⟨k, i, s, n, p, c, f, ht⟩ := hin.mk_
  have hVal := clean_val hin
  obtain ⟨qc, hchk⟩ := clean_chk t
  have HTin : Hid (∀ W, Below w.heap.size w W → VT.In W S (cleanT t)) := fun W hW => cleanT_in (HI.out.1.kept hW.size fun b hb hl => hW.block b hl)
  have HCl0 := hid (fun W (hW : VT.In W S t) (h : t.total ≤ 10000) => clean_any t W S hW h)
  simp only [VT.val, ht, VT.kind_mk, VT.int_mk, VT.text_mk, VT.p_mk, VT.n_mk, VT.c_mk] at HCl0
  rw [← ht] at HCl0
  have HTt := hid ht
  have hcost : costL (cleanT t) ≤ 7200 := by
    have h1 := cost_flat (cleanT t)
    have h2 := clean_len (t := t)
    omega
  obtain ⟨T, hTe⟩ : ∃ T, cleanT t = T := ⟨_, rfl⟩
  rw [hTe] at HCl0 HTin hchk hVal hcost
  have HM := hid (And.intro hVal hchk)
  clear hin hS hI hT hEr hVal hchk hTe
  simp only [VT.val, ht, VT.kind_mk, VT.int_mk, VT.text_mk, VT.p_mk, VT.n_mk, VT.c_mk]
  clear ht
  go_enter Tryd.func3, Tryd.ntmps3
  go_wp2_with fail
  have hW0 : Below w.heap.size w ((w.alloc (.cells #[.int .i64 k, .int .i64 i, .string s, .slice p n c] 24)).alloc (.cells #[.int .i64 k, .int .i64 i, .string s, .slice p n c] 24)) := ((Below.refl _ _).alloc (Nat.le_refl _) _).alloc (by simp) _
  have hV0 : Box ((w.alloc (.cells #[.int .i64 k, .int .i64 i, .string s, .slice p n c] 24)).alloc (.cells #[.int .i64 k, .int .i64 i, .string s, .slice p n c] 24)) w.heap.size #[.int .i64 k, .int .i64 i, .string s, .slice p n c] 24 := (Box.new w _ 24).below ((Below.refl _ _).alloc (Nat.le_refl _) _)
  have hV1 : Box ((w.alloc (.cells #[.int .i64 k, .int .i64 i, .string s, .slice p n c] 24)).alloc (.cells #[.int .i64 k, .int .i64 i, .string s, .slice p n c] 24)) (w.heap.size + 1) #[.int .i64 k, .int .i64 i, .string s, .slice p n c] 24 := by
    have h := Box.new (w.alloc (.cells #[.int .i64 k, .int .i64 i, .string s, .slice p n c] 24)) #[.int .i64 k, .int .i64 i, .string s, .slice p n c] 24
    rw [show (w.alloc (.cells #[.int .i64 k, .int .i64 i, .string s, .slice p n c] 24)).heap.size = w.heap.size + 1 by simp] at h
    exact h
  have HSz := sizes_any (oneC (w.heap.size + 1) t) ((w.alloc (.cells #[.int .i64 k, .int .i64 i, .string s, .slice p n c] 24)).alloc (.cells #[.int .i64 k, .int .i64 i, .string s, .slice p n c] 24)) (fun b => b < w.heap.size + 2)
    (oneC_in ((HI.out.1.below hW0).mono fun b hb _ => by have := HI.out.2 b hb; omega) (by rw [HTt.out]; exact ⟨hV1.cell 0, hV1.cell 1, hV1.cell 2, hV1.cell 3⟩) (by omega) (by have := hV1.lt; exact this)) (fun b hb => by simpa using hb)
  rw [oneC_total] at HSz
  refine HSz.mono ?_
  rintro e w1 ⟨r, rfl, hr, hb1⟩
  have hbw1 : Below w.heap.size w w1 := hW0.trans (hb1.mono hW0.size)
  have hV := hV0.below hb1
  have hl1 := hV.lt
  clear HSz hV0 hV1 hb1 hW0
  cases r with
  | false =>
    go_wp2
    go_ret
    exact ⟨rfl, hbw1⟩
  | true =>
    have htot : t.total ≤ 9999 := by have := hr rfl; omega
    clear hr
    have hin1 : VT.In w1 S t := HI.out.1.kept hbw1.size fun b hb hl => hbw1.block b hl
    have HCl := hid (HCl0.out w1 hin1 (by omega))
    have x0 := hV.cell 0
    have x1 := hV.cell 1
    have x2 := hV.cell 2
    have x3 := hV.cell 3
    simp only [List.getElem?_toArray, List.getElem?_cons_zero, List.getElem?_cons_succ] at x0 x1 x2 x3
    have HB1 := hid hbw1
    clear hbw1 hV hin1 HCl0
    go_wp2_with fail
    refine HCl.out.mono ?_
    rintro e w2 ⟨rfl, hb2⟩
    have hbw2 := HB1.out.trans (hb2.mono HB1.out.size)
    have ha3 : Below w2.heap.size w2 (w2.alloc (.cells #[.int .i64 T.kind, .int .i64 T.int, .string T.text, .slice T.p T.n T.c] 24)) := (Below.refl _ _).alloc (Nat.le_refl _) _
    have hs3 : (w2.alloc (.cells #[.int .i64 T.kind, .int .i64 T.int, .string T.text, .slice T.p T.n T.c] 24)).heap.size = w2.heap.size + 1 := by simp
    have ha4 := (Below.refl _ (w2.alloc (.cells #[.int .i64 T.kind, .int .i64 T.int, .string T.text, .slice T.p T.n T.c] 24))).alloc (Nat.le_refl _) (.cells #[.slice cp cn cc, .int .i64 0] 30)
    have hC4 := (Box.new w2 #[.int .i64 T.kind, .int .i64 T.int, .string T.text, .slice T.p T.n T.c] 24).below ha4
    have hL4 := Box.new (w2.alloc (.cells #[.int .i64 T.kind, .int .i64 T.int, .string T.text, .slice T.p T.n T.c] 24)) #[.slice cp cn cc, .int .i64 0] 30
    rw [hs3] at hL4
    have hb24 := ha3.trans (ha4.mono ha3.size)
    have hbw4 := hbw2.trans (hb24.mono hbw2.size)
    have hws := hbw2.size
    have HTx := hid (text_anyL T w.heap.size (w2.heap.size + 1) cp cn cc 0 cf S S _ hL4 (HC.out.kept hbw4.size fun b hb hl => hbw4.block b hl) (fun h => by have := HI.out.2 _ h; omega) (fun h => by have := HI.out.2 _ h; omega) (HTin.out _ hbw4) (fun b hb => Nat.lt_of_lt_of_le (HI.out.2 b hb) hbw4.size) HM.out.1 (by omega) (HT.out.1.on hbw4) (by omega))
    unfold VT.val at HTx
    have c0 := hC4.cell 0
    have c1 := hC4.cell 1
    have c2 := hC4.cell 2
    have c3 := hC4.cell 3
    simp only [List.getElem?_toArray, List.getElem?_cons_zero, List.getElem?_cons_succ] at c0 c1 c2 c3
    have HB4 := hid (And.intro hbw4 hC4)
    clear x0 x1 x2 x3 hb2 hbw2 ha3 hs3 ha4 hC4 hL4 hb24 hbw4 HB1 HCl
    go_wp2_with fail
    refine HTx.out.mono ?_
    intro x w5 hP5
    obtain ⟨zs, a5, rfl, ⟨hz, hzl⟩, ha5, hL5, hk5⟩ := hP5
    have hbw5 := HB4.out.1.trans (hk5.below (B := w.heap.size) (by have := HB4.out.1.size; omega) (fun j hj => by omega))
    have hC5 := HB4.out.2.but hk5 (show w2.heap.size ≠ w2.heap.size + 1 by omega)
    have hLp := loose_lead HM.out.1 HM.out.2 (r := [32, 120]) hz (fun x hx => by simp at hx; omega) (fun x y hxy => by cases hxy; omega)
    have e1 : strOf zs ++ (⟨#[32, 120]⟩ : ByteArray) = strOf (zs ++ [32, 120]) := by rw [show (⟨#[32, 120]⟩ : ByteArray) = strOf [32, 120] from rfl, str_app]
    have HLe := hid (lead_any w.heap.size (strOf (zs ++ [32, 120])) w5 (by rw [strOf_size, List.length_append]; simp; omega) hbw5.size (HT.out.1.on hbw5) (HT.out.2.on hbw5))
    rw [← e1] at HLe hLp
    have hPz : (strOf zs).size = zs.length := strOf_size zs
    rw [← hPz] at hLp
    have hfz : ¬ 9223372036854775807 < (strOf zs).size + (⟨#[32, 120]⟩ : ByteArray).size := fits_str (by omega) (by decide)
    have HZ := hid (And.intro hz hLp)
    have HPz := hid hPz
    have HB5 := hid (And.intro hbw5 (And.intro hC5 hL5))
    clear c0 c1 c2 c3 hz hLp e1 hPz hbw5 hC5 hL5 hk5 HTx HB4
    obtain ⟨P, hPe⟩ : ∃ P, strOf zs = P := ⟨_, rfl⟩
    rw [hPe] at HZ HPz HLe hfz ⊢
    have HPe := hid hPe
    clear hPe
    go_wp2_with fail
    refine HLe.out.mono ?_
    intro x w6 hP6
    obtain ⟨vp, hvp, halp⟩ := HZ.out.2
    obtain ⟨u6, hx6, hal6, hin6, hb6⟩ := hP6.1 _ _ _ hvp
    simp only [VT.val] at hx6
    subst hx6
    have ha7 : Below w6.heap.size w6 (w6.alloc (.cells #[.int .i64 u6.kind, .int .i64 u6.int, .string u6.text, .slice u6.p u6.n u6.c] 24)) := (Below.refl _ _).alloc (Nat.le_refl _) _
    have hU7 := Box.new w6 #[.int .i64 u6.kind, .int .i64 u6.int, .string u6.text, .slice u6.p u6.n u6.c] 24
    have hb57 := hb6.trans (ha7.mono hb6.size)
    have hbw7 := HB5.out.1.trans (hb57.mono HB5.out.1.size)
    have hC7 := HB5.out.2.1.below hb57
    have hL7 := Box.below HB5.out.2.2 hb57
    have hi7 := hin6.below ha7
    have HS7 := hid (same_any u6 T _ _ S hi7 (HTin.out _ hbw7) ((halp.trans hal6).symm hi7))
    unfold VT.val at HS7
    have a0 := hU7.cell 0
    have a1 := hU7.cell 1
    have a2 := hU7.cell 2
    have a3 := hU7.cell 3
    have c0 := hC7.cell 0
    have c1 := hC7.cell 1
    have c2 := hC7.cell 2
    have c3 := hC7.cell 3
    simp only [List.getElem?_toArray, List.getElem?_cons_zero, List.getElem?_cons_succ] at a0 a1 a2 a3 c0 c1 c2 c3
    have HB7 := hid (And.intro hbw7 (And.intro hC7 hL7))
    clear hP6 hal6 hin6 hb6 ha7 hU7 hb57 hbw7 hC7 hL7 hi7 HB5 HLe hvp halp vp hfz
    go_wp2_with fail
    refine HS7.out.mono ?_
    rintro e w8 ⟨rfl, hb8⟩
    have hbw8 := HB7.out.1.trans (hb8.mono HB7.out.1.size)
    have hC8 := HB7.out.2.1.below hb8
    have hL8 := Box.below HB7.out.2.2 hb8
    have HB8b := hid (blanks_anyL (w2.heap.size + 1) cp cn cc a5 cf S w8 hL8 (HC.out.kept hbw8.size fun b hb hl => hbw8.block b hl) (by omega))
    have HB8 := hid (And.intro hbw8 hC8)
    clear a0 a1 a2 a3 c0 c1 c2 c3 hb8 hbw8 hC8 hL8 HB7 HS7
    go_wp2_with fail
    refine HB8b.out.mono ?_
    intro x w9 hP9
    obtain ⟨b1, a9, rfl, ⟨hb1, hb1l⟩, ha9, hL9, hk9⟩ := hP9
    have hbw9 := HB8.out.1.trans (hk9.below (B := w.heap.size) (by have := HB8.out.1.size; omega) (fun j hj => by omega))
    have hC9 := HB8.out.2.but hk9 (show w2.heap.size ≠ w2.heap.size + 1 by omega)
    have hPs : P.size ≤ 7200 := by rw [HPz.out]; omega
    have hf1 : ¬ 9223372036854775807 < (strOf b1).size + P.size := fits_str (by omega) (by omega)
    have HB9b := hid (blanks_anyL (w2.heap.size + 1) cp cn cc a9 cf S w9 hL9 (HC.out.kept hbw9.size fun b hb hl => hbw9.block b hl) (by omega))
    have HB9 := hid (And.intro hbw9 hC9)
    clear hL9 hk9 hbw9 hC9 HB8 HB8b
    go_wp2_with fail
    refine HB9b.out.mono ?_
    intro x w10 hP10
    obtain ⟨b2, a10, rfl, ⟨hb2, hb2l⟩, ha10, hL10, hk10⟩ := hP10
    have hbw10 := HB9.out.1.trans (hk10.below (B := w.heap.size) (by have := HB9.out.1.size; omega) (fun j hj => by omega))
    have hC10 := HB9.out.2.but hk10 (show w2.heap.size ≠ w2.heap.size + 1 by omega)
    have e2 : strOf b1 ++ P ++ strOf b2 = strOf (b1 ++ (zs ++ b2)) := by rw [← HPe.out, str_app, str_app, List.append_assoc]
    have hPp := loose_parse HM.out.1 HM.out.2 HZ.out.1 hb1 hb2
    have HPa := hid (parse_any w.heap.size (strOf (b1 ++ (zs ++ b2))) w10 (by rw [strOf_size]; simp only [List.length_append]; omega) hbw10.size (HT.out.1.on hbw10) (HT.out.2.on hbw10))
    rw [← e2] at HPa hPp
    have hf2 : ¬ 9223372036854775807 < (strOf b1 ++ P).size + (strOf b2).size := by rw [← HPe.out, str_app]; exact fits_str (by rw [List.length_append]; omega) (by rw [strOf_size]; omega)
    obtain ⟨Q, hQ⟩ : ∃ Q, strOf b1 ++ P ++ strOf b2 = Q := ⟨_, rfl⟩
    rw [hQ] at HPa hPp
    have HPp := hid hPp
    have HB10 := hid (And.intro hbw10 hC10)
    clear hL10 hk10 hbw10 hC10 HB9 HB9b e2 hPp
    go_wp2_with fail
    clear hQ hf1 hf2
    refine HPa.out.mono ?_
    intro x w11 hP11
    obtain ⟨vp, hvp, halp⟩ := HPp.out
    obtain ⟨u11, hx11, hal11, hin11, hb11⟩ := hP11.1 _ _ hvp
    simp only [VT.val] at hx11
    subst hx11
    have ha12 : Below w11.heap.size w11 (w11.alloc (.cells #[.int .i64 u11.kind, .int .i64 u11.int, .string u11.text, .slice u11.p u11.n u11.c] 24)) := (Below.refl _ _).alloc (Nat.le_refl _) _
    have hU12 := Box.new w11 #[.int .i64 u11.kind, .int .i64 u11.int, .string u11.text, .slice u11.p u11.n u11.c] 24
    have hb1012 := hb11.trans (ha12.mono hb11.size)
    have hbw12 := HB10.out.1.trans (hb1012.mono HB10.out.1.size)
    have hC12 := HB10.out.2.below hb1012
    have hi12 := hin11.below ha12
    have HS12 := hid (same_any u11 T _ _ S hi12 (HTin.out _ hbw12) ((halp.trans hal11).symm hi12))
    unfold VT.val at HS12
    have a0 := hU12.cell 0
    have a1 := hU12.cell 1
    have a2 := hU12.cell 2
    have a3 := hU12.cell 3
    have c0 := hC12.cell 0
    have c1 := hC12.cell 1
    have c2 := hC12.cell 2
    have c3 := hC12.cell 3
    simp only [List.getElem?_toArray, List.getElem?_cons_zero, List.getElem?_cons_succ] at a0 a1 a2 a3 c0 c1 c2 c3
    have HB12 := hid hbw12
    clear hP11 hal11 hin11 hb11 ha12 hU12 hb1012 hbw12 hC12 hi12 HB10 HPa hvp halp vp
    go_wp2_with fail
    refine HS12.out.mono ?_
    rintro e w13 ⟨rfl, hb13⟩
    have HBf := hid (HB12.out.trans (hb13.mono HB12.out.size))
    clear hb13 HS12
    go_wp2
    go_ret
    exact ⟨rfl, HBf.out⟩
end Go.Proofs.YtoifpdnaeogdgabDoor
