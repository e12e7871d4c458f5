import Derived.Test.YtoifpdnaeogdgabGreatDoorPack30
import Derived.Test.YtoifpdnaeogdgabGreatDoorPack31
import Derived.Test.YtoifpdnaeogdgabGreatDoorBtS
import Derived.Test.YtoifpdnaeogdgabGreatDoorPack34
import Derived.Test.YtoifpdnaeogdgabGreatDoorPack35
import Derived.Test.YtoifpdnaeogdgabGreatDoorSize
namespace Go.Proofs.YtoifpdnaeogdgabGreatDoor
open Go.RowKit
set_option maxRecDepth 8000
theorem str_comma (zs : List Int) : strOf zs ++ ⟨#[44]⟩ = strOf (zs ++ [44]) := bytes_ext (by
  rw [strOf_datC, List.map_append, ← strOf_datC]
  simp)
set_option maxHeartbeats 4000000 in
theorem whole_walk (t : VT) (bp : Option Addr) (bn bc : Nat) (bf : Nat → Int) (w : World) (S : Nat → Prop) (hin : VT.In w S t) (hS : ∀ b, S b → b < w.heap.size) (hY : Byts w S bp bn bc bf) (hbn : bn ≤ 140737488351232) (hT : Tabs w.heap.size w) (hEr : Errs w.heap.size w) :
    Calls Tryz.prog 3 #[t.val, .slice bp bn bc] w fun e w' => e = .returned (.bool true) ∧ Below w.heap.size w w' := by
  obtain ⟨iB, KdB⟩ := kindB
  have HI : Hid (VT.In w S t ∧ ∀ b, S b → b < w.heap.size) := ⟨hin, hS⟩
  have HT := hid (And.intro hT hEr)
  obtain ⟨k, i, s, n, p, c, f, ht⟩ := hin.mk_
  have HY := hid hY
  -- the mathematics
  have hVal := clean_val hin
  obtain ⟨qc, hchk⟩ := clean_chk t
  have hBt : ∀ x ∈ prB (cleanT t), 0 ≤ x ∧ x < 256 := fun x hx => pr_btW _ x hx
  have hPl : (prB (cleanT t)).length ≤ 4800 := by
    have h1 := prB_len hVal
    have h2 := clean_len (t := t)
    omega
  have hPp := parse_print hVal hchk hBt
  have hLp := lead_print hVal hchk hBt
  have hZl := clean_enc_len hin
  have hZb := enc_bytes _ hVal
  have hZ0 := enc_pos (cleanT t)
  have HRd := hid (fun (F : Nat → Int) (N : Nat) (h1 : (encB (cleanT t)).length ≤ N) (hF : ∀ j x, (encB (cleanT t))[j]? = some x → F j = x) => (dec_read (f := F) (n := N) (cleanT t) 0 hVal (by omega) 0 0 qc hchk (fun j x hj => by rw [Nat.zero_add]; exact hF j x hj)).1 (by omega))
  have HTin : Hid (∀ W, Below w.heap.size w W → VT.In W S (cleanT t)) := fun W hW => cleanT_in (HI.out.1.kept hW.size fun b hb hl => hW.block b hl)
  have HCl0 := hid (fun W (hW : VT.In W S t) (h : t.total ≤ 10000) => clean_any t W S hW h)
  have HPr0 := hid (fun W (hW : VT.In W S t) (hS : ∀ b, S b → b < W.heap.size) (hT : Tabs W.heap.size W) => print_any t W S hW hS hT)
  have HEn0 := hid (fun W (hW : VT.In W S t) (hS : ∀ b, S b → b < W.heap.size) => encode_any t W S hW hS)
  have HCo0 := hid (fun u W R (hW : VT.In W S t) (hu : VT.In W R u) => compare_any t u W S R hW hu)
  simp only [VT.val, ht, VT.kind_mk, VT.int_mk, VT.text_mk, VT.p_mk, VT.n_mk, VT.c_mk] at HCl0 HPr0 HEn0 HCo0
  rw [← ht] at HCl0 HPr0 HEn0 HCo0
  have HTt := hid ht
  obtain ⟨T, hTe⟩ : ∃ T, cleanT t = T := ⟨_, rfl⟩
  rw [hTe] at HCl0 HPr0 HEn0 HCo0 HTin HRd hPl hPp hLp hZl hZb hZ0 hchk
  obtain ⟨P, hPe⟩ : ∃ P, strOf (prB T) = P := ⟨_, rfl⟩
  have hcm := str_comma (prB T)
  have hPz : P.size = (prB T).length := by rw [← hPe]; exact strOf_size _
  rw [← hcm, ← hPz] at hLp
  rw [hPe] at HPr0 hPp hLp
  rw [← hPz] at hPl
  obtain ⟨Z, hZe⟩ : ∃ Z, encB T = Z := ⟨_, rfl⟩
  rw [hZe] at HEn0 HRd hZl hZb hZ0
  have HM := hid (And.intro hPp (And.intro hLp hchk))
  have HZb := hid hZb
  have hcz : (P ++ (⟨#[44]⟩ : ByteArray)).size ≤ 140737488355328 := by rw [ByteArray.size_append]; show P.size + 1 ≤ _; omega
  have HLe0 := hid (fun W (hW : Below w.heap.size w W) => lead_any w.heap.size (P ++ (⟨#[44]⟩ : ByteArray)) W hcz hW.size (hT.on hW) (hEr.on hW))
  have HPa0 := hid (fun W (hW : Below w.heap.size w W) => parse_any w.heap.size P W (by omega) hW.size (hT.on hW) (hEr.on hW))
  clear hin hS hY hT hEr hVal hBt hPp hLp hZb hchk hTe hPe hcm hPz hZe hcz
  simp only [VT.val, ht, VT.kind_mk, VT.int_mk, VT.text_mk, VT.p_mk, VT.n_mk, VT.c_mk]
  clear ht
  go_enter Tryz.func3, Tryz.ntmps3
  go_wp2_with fail
  have hW0 : Below w.heap.size w ((w.alloc (.cells #[.int .i64 k, .int .i64 i, .string s, .slice p n c] 24)).alloc (.cells #[.int .i64 k, .int .i64 i, .string s, .slice p n c] 24)) := ((Below.refl _ _).alloc (Nat.le_refl _) _).alloc (by simp) _
  have hV0 : Box ((w.alloc (.cells #[.int .i64 k, .int .i64 i, .string s, .slice p n c] 24)).alloc (.cells #[.int .i64 k, .int .i64 i, .string s, .slice p n c] 24)) w.heap.size #[.int .i64 k, .int .i64 i, .string s, .slice p n c] 24 := (Box.new w _ 24).below ((Below.refl _ _).alloc (Nat.le_refl _) _)
  have hV1 : Box ((w.alloc (.cells #[.int .i64 k, .int .i64 i, .string s, .slice p n c] 24)).alloc (.cells #[.int .i64 k, .int .i64 i, .string s, .slice p n c] 24)) (w.heap.size + 1) #[.int .i64 k, .int .i64 i, .string s, .slice p n c] 24 := by
    have h := Box.new (w.alloc (.cells #[.int .i64 k, .int .i64 i, .string s, .slice p n c] 24)) #[.int .i64 k, .int .i64 i, .string s, .slice p n c] 24
    rw [show (w.alloc (.cells #[.int .i64 k, .int .i64 i, .string s, .slice p n c] 24)).heap.size = w.heap.size + 1 by simp] at h
    exact h
  have HSz := sizes_any (oneC (w.heap.size + 1) t) ((w.alloc (.cells #[.int .i64 k, .int .i64 i, .string s, .slice p n c] 24)).alloc (.cells #[.int .i64 k, .int .i64 i, .string s, .slice p n c] 24)) (fun b => b < w.heap.size + 2)
    (oneC_in ((HI.out.1.below hW0).mono fun b hb _ => by have := HI.out.2 b hb; omega) (by rw [HTt.out]; exact ⟨hV1.cell 0, hV1.cell 1, hV1.cell 2, hV1.cell 3⟩) (by omega) (by have := hV1.lt; exact this)) (fun b hb => by simpa using hb)
  rw [oneC_total] at HSz
  refine HSz.mono ?_
  rintro e w1 ⟨r, rfl, hr, hb1⟩
  have hbw1 : Below w.heap.size w w1 := hW0.trans (hb1.mono hW0.size)
  have hV := hV0.below hb1
  have hl1 := hV.lt
  clear HSz hV0 hV1 hb1 hW0
  cases r with
  | false =>
    go_wp2
    go_ret
    exact ⟨rfl, hbw1⟩
  | true =>
    have htot : t.total ≤ 9999 := by have := hr rfl; omega
    clear hr
    -- clean
    have hin1 : VT.In w1 S t := HI.out.1.kept hbw1.size fun b hb hl => hbw1.block b hl
    have HCl := hid (HCl0.out w1 hin1 (by omega))
    have x0 := hV.cell 0
    have x1 := hV.cell 1
    have x2 := hV.cell 2
    have x3 := hV.cell 3
    simp only [List.getElem?_toArray, List.getElem?_cons_zero, List.getElem?_cons_succ] at x0 x1 x2 x3
    have HB1 := hid (And.intro hbw1 hV)
    clear hbw1 hV hin1 HCl0
    go_wp2_with fail
    refine HCl.out.mono ?_
    rintro e w2 ⟨rfl, hb2⟩
    have ha3 : Below w2.heap.size w2 (w2.alloc (.cells #[.int .i64 T.kind, .int .i64 T.int, .string T.text, .slice T.p T.n T.c] 24)) := (Below.refl _ _).alloc (Nat.le_refl _) _
    have hC3 := Box.new w2 #[.int .i64 T.kind, .int .i64 T.int, .string T.text, .slice T.p T.n T.c] 24
    have hb13 := hb2.trans (ha3.mono hb2.size)
    have hbw3 := HB1.out.1.trans (hb13.mono HB1.out.1.size)
    have hV3 := HB1.out.2.below hb13
    have hin3 : VT.In (w2.alloc (.cells #[.int .i64 T.kind, .int .i64 T.int, .string T.text, .slice T.p T.n T.c] 24)) S t := HI.out.1.kept hbw3.size fun b hb hl => hbw3.block b hl
    have HPr := hid (HPr0.out _ hin3 (fun b hb => Nat.lt_of_lt_of_le (HI.out.2 b hb) hbw3.size) ((HT.out.1.on hbw3).mono hbw3.size))
    clear x0 x1 x2 x3 hb2 ha3 hb13 HB1 HCl hin3 HPr0
    have x0 := hV3.cell 0
    have x1 := hV3.cell 1
    have x2 := hV3.cell 2
    have x3 := hV3.cell 3
    simp only [List.getElem?_toArray, List.getElem?_cons_zero, List.getElem?_cons_succ] at x0 x1 x2 x3
    have HB3 := hid (And.intro hbw3 (And.intro hV3 hC3))
    clear hbw3 hV3 hC3
    go_wp2_with fail
    refine HPr.out.mono ?_
    rintro e w4 ⟨rfl, hb4⟩
    have hbw4 := HB3.out.1.trans (hb4.mono HB3.out.1.size)
    have HPa := hid (HPa0.out w4 hbw4)
    have HB4 := hid (And.intro hbw4 (And.intro (HB3.out.2.1.below hb4) (HB3.out.2.2.below hb4)))
    clear x0 x1 x2 x3 hbw4 hb4 HB3 HPr HPa0
    go_wp2_with fail
    refine HPa.out.mono ?_
    intro e w5 hP5
    obtain ⟨vp, hvp, halp⟩ := HM.out.1
    obtain ⟨u5, hx5, hal5, hin5, hb5⟩ := hP5.1 _ _ hvp
    simp only [VT.val] at hx5
    subst hx5
    have ha6 : Below w5.heap.size w5 (w5.alloc (.cells #[.int .i64 u5.kind, .int .i64 u5.int, .string u5.text, .slice u5.p u5.n u5.c] 24)) := (Below.refl _ _).alloc (Nat.le_refl _) _
    have hU6 := Box.new w5 #[.int .i64 u5.kind, .int .i64 u5.int, .string u5.text, .slice u5.p u5.n u5.c] 24
    have hb46 := hb5.trans (ha6.mono hb5.size)
    have hbw6 := HB4.out.1.trans (hb46.mono HB4.out.1.size)
    have hV6 := HB4.out.2.1.below hb46
    have hC6 := HB4.out.2.2.below hb46
    have hi6 := hin5.below ha6
    have HS6 := hid (same_any u5 T _ _ S hi6 (HTin.out _ hbw6) ((halp.trans hal5).symm hi6))
    unfold VT.val at HS6
    have a0 := hU6.cell 0
    have a1 := hU6.cell 1
    have a2 := hU6.cell 2
    have a3 := hU6.cell 3
    have c0 := hC6.cell 0
    have c1 := hC6.cell 1
    have c2 := hC6.cell 2
    have c3 := hC6.cell 3
    simp only [List.getElem?_toArray, List.getElem?_cons_zero, List.getElem?_cons_succ] at a0 a1 a2 a3 c0 c1 c2 c3
    have HB6 := hid (And.intro hbw6 (And.intro hV6 hC6))
    clear hP5 hal5 hin5 hb5 ha6 hU6 hb46 hbw6 hV6 hC6 hi6 HB4 HPa hvp halp vp
    go_wp2_with fail
    refine HS6.out.mono ?_
    rintro e w7 ⟨rfl, hb7⟩
    have hbw7 := HB6.out.1.trans (hb7.mono HB6.out.1.size)
    have HLe := hid (HLe0.out w7 hbw7)
    have HB7 := hid (And.intro hbw7 (And.intro (HB6.out.2.1.below hb7) (HB6.out.2.2.below hb7)))
    clear a0 a1 a2 a3 c0 c1 c2 c3 hbw7 hb7 HB6 HS6 HLe0
    go_wp2_with fail
    refine HLe.out.mono ?_
    intro e w8 hP8
    obtain ⟨vp, hvp, halp⟩ := HM.out.2.1
    obtain ⟨u8, hx8, hal8, hin8, hb8⟩ := hP8.1 _ _ _ hvp
    simp only [VT.val] at hx8
    subst hx8
    have ha9 : Below w8.heap.size w8 (w8.alloc (.cells #[.int .i64 u8.kind, .int .i64 u8.int, .string u8.text, .slice u8.p u8.n u8.c] 24)) := (Below.refl _ _).alloc (Nat.le_refl _) _
    have hU9 := Box.new w8 #[.int .i64 u8.kind, .int .i64 u8.int, .string u8.text, .slice u8.p u8.n u8.c] 24
    have hb79 := hb8.trans (ha9.mono hb8.size)
    have hbw9 := HB7.out.1.trans (hb79.mono HB7.out.1.size)
    have hV9 := HB7.out.2.1.below hb79
    have hC9 := HB7.out.2.2.below hb79
    have hi9 := hin8.below ha9
    have HS9 := hid (same_any u8 T _ _ S hi9 (HTin.out _ hbw9) ((halp.trans hal8).symm hi9))
    unfold VT.val at HS9
    have a0 := hU9.cell 0
    have a1 := hU9.cell 1
    have a2 := hU9.cell 2
    have a3 := hU9.cell 3
    have c0 := hC9.cell 0
    have c1 := hC9.cell 1
    have c2 := hC9.cell 2
    have c3 := hC9.cell 3
    simp only [List.getElem?_toArray, List.getElem?_cons_zero, List.getElem?_cons_succ] at a0 a1 a2 a3 c0 c1 c2 c3
    have HB9 := hid (And.intro hbw9 (And.intro hV9 hC9))
    clear hP8 hal8 hin8 hb8 ha9 hU9 hb79 hbw9 hV9 hC9 hi9 HB7 HLe hvp halp vp
    go_wp2_with fail
    refine HS9.out.mono ?_
    rintro e w10 ⟨rfl, hb10⟩
    have hbw10 := HB9.out.1.trans (hb10.mono HB9.out.1.size)
    have hin10 : VT.In w10 S t := HI.out.1.kept hbw10.size fun b hb hl => hbw10.block b hl
    have HEn := hid (HEn0.out w10 hin10 (fun b hb => Nat.lt_of_lt_of_le (HI.out.2 b hb) hbw10.size))
    have hV10 := HB9.out.2.1.below hb10
    have HB10 := hid (And.intro hbw10 (And.intro hV10 (HB9.out.2.2.below hb10)))
    clear a0 a1 a2 a3 c0 c1 c2 c3
    have x0 := hV10.cell 0
    have x1 := hV10.cell 1
    have x2 := hV10.cell 2
    have x3 := hV10.cell 3
    simp only [List.getElem?_toArray, List.getElem?_cons_zero, List.getElem?_cons_succ] at x0 x1 x2 x3
    clear hbw10 hin10 hV10 hb10 HB9 HS9 HEn0
    go_wp2_with fail
    refine HEn.out.mono ?_
    intro e w11 hP11
    obtain ⟨v11, rfl, hL11⟩ := hP11
    obtain ⟨g11, c11, rfl, hg1, hg2, hcell⟩ := OwnBy.slice hL11.own hZ0
    have hb1011 := hL11.bel
    have hbw11 := HB10.out.1.trans (hb1011.mono HB10.out.1.size)
    have HB11 := hid (And.intro hbw11 (And.intro (HB10.out.2.1.below hb1011) (HB10.out.2.2.below hb1011)))
    have HCell := hid hcell
    have hs11 := hbw11.size
    have hlV := HB11.out.2.1.lt
    have hlC := HB11.out.2.2.lt
    clear x0 x1 x2 x3 hL11 hb1011 hbw11 hcell HB10 HEn
    go_wp2_with (at_builtin; refine wpList_app rfl (.tmp 70) (.tmp 71) 25 5 iB _ 1 1 KdB rfl w11.heap.size (.slice none 0 0) 0 [] rfl (World.ownsRow_nil _ _ _ _) ⟨g11, 0, none⟩ Z.length c11 (Z.map (Value.int .u8)) rfl (by simp) HCell.out (fun u hu => by obtain ⟨z, _, rfl⟩ := List.mem_map.1 hu; rfl) (by omega) (by omega) (Nat.le_refl _) ?_)
    intro v12 w12 ho12 hg12 hn12
    have hbel12 : Below w11.heap.size w11 w12 := ⟨hg12.os, hg12.tape, hg12.output, hg12.size, fun k hk => hg12.block k hk (by simp [Value.ownBlock])⟩
    have hO12 : w12.ownsRow w11.heap.size 5 1 v12 Z.length (Z.map (Value.int .u8)) := by simpa using ho12
    have hbw12 := HB11.out.1.trans (hbel12.mono HB11.out.1.size)
    have hY12 : Byts w12 S bp bn bc bf := HY.out.kept hbw12.size fun b hb hl => hbw12.block b hl
    have HSrc := hid hY12.src
    have HB12 := hid (And.intro hbw12 (And.intro (HB11.out.2.1.below hbel12) (HB11.out.2.2.below hbel12)))
    have hs12 := hbel12.size
    clear ho12 hg12 hn12 hbw12 hY12 HB11 hbel12 HCell hg1 hg2
    go_wp2_with (at_builtin; refine wpList_appS rfl (.tmp 73) (.tmp 74) 25 5 iB _ 1 1 KdB rfl w11.heap.size v12 Z.length _ rfl hO12 bp bn bc ((List.range bn).map fun j => .int .u8 (bf j)) rfl HSrc.out (oneCell_byts bn bf) (by omega) (by omega) hs12 ?_)
    intro v13 w13 ho13 hg13 hn13
    have hO13 : OwnBy w11.heap.size w13 v13 (Z ++ bytesAt bf 0 bn) := by
      unfold OwnBy
      rw [List.length_append, bytesAt_len, List.map_append]
      have e : (bytesAt bf 0 bn).map (Value.int .u8) = (List.range bn).map fun j => .int .u8 (bf j) := by simp [bytesAt]
      rw [e]
      exact ho13
    have hb13 : Below w11.heap.size w12 w13 := ⟨hg13.os, hg13.tape, hg13.output, hg13.size, fun k hk => hg13.block k (by omega) (fun e => by have := (World.ownsRow.lt hO12 k e.symm).1; omega)⟩
    have hbw13 := HB12.out.1.trans (hb13.mono hs11)
    have hV13 := HB12.out.2.1.kept (hb13.block _ (by omega))
    have hC13 := HB12.out.2.2.kept (hb13.block _ (by omega))
    have hzl : (Z ++ bytesAt bf 0 bn).length = Z.length + bn := by rw [List.length_append, bytesAt_len]
    obtain ⟨p13, c13, hv13, hY13⟩ := byts_own hO13 (by omega) (fun x hx => by
      rcases List.mem_append.1 hx with h | h
      · exact HZb.out x h
      · simp only [bytesAt, List.mem_map, List.mem_range] at h
        obtain ⟨j, hj, rfl⟩ := h
        exact HY.out.fit _ (by omega)) (by omega)
    obtain ⟨ud, hud, hald⟩ := HRd.out (fun j => (Z ++ bytesAt bf 0 bn).getD j 0) (Z ++ bytesAt bf 0 bn).length (by omega) (fun j x hj => by
      have hl : j < Z.length := (List.getElem?_eq_some_iff.1 hj).1
      exact getD_at j x (by rw [List.getElem?_append_left hl]; exact hj))
    rw [Nat.zero_add] at hud
    have HD13 := hid (decode_any p13 _ c13 _ _ w13 hY13 (fun b hb => hb))
    have HUd := hid (And.intro hud hald)
    have HB13 := hid (And.intro hbw13 (And.intro hV13 hC13))
    subst hv13
    generalize (Z ++ bytesAt bf 0 bn).length = NN at *
    clear ho13 hg13 hn13 hO13 hb13 hbw13 hV13 hC13 hzl hY13 hud hald HB12 hO12 HSrc
    go_wp2_with fail
    refine HD13.out.mono ?_
    intro e w14 hP14
    obtain ⟨u14, hx14, hal14, hin14, hb14⟩ := hP14.1 _ _ _ HUd.out.1
    simp only [VT.val] at hx14
    subst hx14
    have ha15 : Below w14.heap.size w14 (w14.alloc (.cells #[.int .i64 u14.kind, .int .i64 u14.int, .string u14.text, .slice u14.p u14.n u14.c] 24)) := (Below.refl _ _).alloc (Nat.le_refl _) _
    have hU15 := Box.new w14 #[.int .i64 u14.kind, .int .i64 u14.int, .string u14.text, .slice u14.p u14.n u14.c] 24
    have hb1315 := hb14.trans (ha15.mono hb14.size)
    have hbw15 := HB13.out.1.trans (hb1315.mono HB13.out.1.size)
    have hV15 := HB13.out.2.1.below hb1315
    have hC15 := HB13.out.2.2.below hb1315
    have hi15 := hin14.below ha15
    have hTu := HUd.out.2.trans hal14
    have HS15 := hid (same_any u14 T _ _ S hi15 (HTin.out _ hbw15) (hTu.symm hi15))
    unfold VT.val at HS15
    have a0 := hU15.cell 0
    have a1 := hU15.cell 1
    have a2 := hU15.cell 2
    have a3 := hU15.cell 3
    have c0 := hC15.cell 0
    have c1 := hC15.cell 1
    have c2 := hC15.cell 2
    have c3 := hC15.cell 3
    simp only [List.getElem?_toArray, List.getElem?_cons_zero, List.getElem?_cons_succ] at a0 a1 a2 a3 c0 c1 c2 c3
    have HB15 := hid (And.intro hbw15 (And.intro hV15 (And.intro hC15 (And.intro hU15 (And.intro hi15 hTu)))))
    clear hP14 hal14 hin14 hb14 ha15 hU15 hb1315 hbw15 hV15 hC15 hi15 HB13 HD13 hTu
    go_wp2_with fail
    refine HS15.out.mono ?_
    rintro e w16 ⟨rfl, hb16⟩
    have hbw16 := HB15.out.1.trans (hb16.mono HB15.out.1.size)
    have HCk := hid (check_any T w16 S (HTin.out _ hbw16) (fun b hb => Nat.lt_of_lt_of_le (HI.out.2 b hb) hbw16.size))
    rw [HM.out.2.2] at HCk
    unfold VT.val at HCk
    have hV16 := HB15.out.2.1.below hb16
    have hC16 := HB15.out.2.2.1.below hb16
    have hU16 := HB15.out.2.2.2.1.below hb16
    have hi16 := HB15.out.2.2.2.2.1.below hb16
    clear a0 a1 a2 a3 c0 c1 c2 c3
    have c0 := hC16.cell 0
    have c1 := hC16.cell 1
    have c2 := hC16.cell 2
    have c3 := hC16.cell 3
    simp only [List.getElem?_toArray, List.getElem?_cons_zero, List.getElem?_cons_succ] at c0 c1 c2 c3
    have HB16 := hid (And.intro hbw16 (And.intro hV16 (And.intro hU16 (And.intro hi16 HB15.out.2.2.2.2.2))))
    clear hbw16 hb16 hV16 hC16 hU16 hi16 HB15 HS15
    go_wp2_with fail
    refine HCk.out.mono ?_
    rintro e w17 ⟨rfl, hb17⟩
    have hbw17 := HB16.out.1.trans (hb17.mono HB16.out.1.size)
    have hV17 := HB16.out.2.1.below hb17
    have hU17 := HB16.out.2.2.1.below hb17
    have hi17 := HB16.out.2.2.2.1.below hb17
    have hin17 : VT.In w17 S t := HI.out.1.kept hbw17.size fun b hb hl => hbw17.block b hl
    have hcu : chk u14 0 0 = (0, qc) := by rw [← chk_alike T u14 0 0 HB16.out.2.2.2.2]; exact HM.out.2.2
    have HCo := hid (HCo0.out u14 w17 _ hin17 hi17)
    rw [clean_self hcu, ord_alike T u14 HB16.out.2.2.2.2] at HCo
    clear c0 c1 c2 c3
    have x0 := hV17.cell 0
    have x1 := hV17.cell 1
    have x2 := hV17.cell 2
    have x3 := hV17.cell 3
    have a0 := hU17.cell 0
    have a1 := hU17.cell 1
    have a2 := hU17.cell 2
    have a3 := hU17.cell 3
    simp only [List.getElem?_toArray, List.getElem?_cons_zero, List.getElem?_cons_succ] at x0 x1 x2 x3 a0 a1 a2 a3
    have HB17 := hid hbw17
    clear hbw17 hb17 hV17 hU17 hi17 hin17 hcu HB16 HCk HCo0
    go_wp2_with fail
    refine HCo.out.mono ?_
    rintro e w18 ⟨rfl, hb18⟩
    have HBf := hid (HB17.out.trans (hb18.mono HB17.out.size))
    clear hb18 HCo
    go_wp2
    go_ret
    exact ⟨rfl, HBf.out⟩
end Go.Proofs.YtoifpdnaeogdgabGreatDoor
