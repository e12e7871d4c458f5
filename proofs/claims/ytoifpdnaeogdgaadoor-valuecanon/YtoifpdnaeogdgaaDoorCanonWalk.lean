import Derived.Test.YtoifpdnaeogdgaaDoorPack30
import Derived.Deep.DeepCutAuto
import Derived.Deep.RegionHeld
namespace Go.Proofs.YtoifpdnaeogdgaaDoor
open Go.RowKit
set_option maxRecDepth 8000
theorem mkI_in (w : World) (S : Nat → Prop) (i : Int) (h1 : -9223372036854775808 ≤ i) (h2 : i ≤ 9223372036854775807) : VT.In w S (mkI i) := small_in _ _ 1 i ⟨#[]⟩ (by omega) (by omega) h1 h2 (by decide)
set_option maxHeartbeats 4000000 in
theorem canon_walk (t : VT) (bp : Option Addr) (bn bc : Nat) (bf : Nat → Int) (str : ByteArray) (w : World) (S : Nat → Prop) (hin : VT.In w S t) (hS : ∀ b, S b → b < w.heap.size) (hY : Byts w S bp bn bc bf) (hstr : str.size ≤ 140737488355328) (hT : Tabs w.heap.size w) (hEr : Errs w.heap.size w) :
    Calls Tryd.prog 4 #[t.val, .slice bp bn bc, .string str] w fun e w' => e = .returned (.bool true) ∧ Below w.heap.size w w' := by
  have HI : Hid (VT.In w S t ∧ ∀ b, S b → b < w.heap.size) := ⟨hin, hS⟩
  have HT := hid (And.intro hT hEr)
  obtain ⟨k, i, s, n, p, c, f, ht⟩ := hin.mk_
  have HY := hid hY
  clear hin hS hY hT hEr
  simp only [VT.val, ht, VT.kind_mk, VT.int_mk, VT.text_mk, VT.p_mk, VT.n_mk, VT.c_mk]
  go_enter Tryd.func4, Tryd.ntmps4
  go_wp2_with fail
  have hW0 : Below w.heap.size w ((w.alloc (.cells #[.int .i64 k, .int .i64 i, .string s, .slice p n c] 24)).alloc (.cells #[.int .i64 k, .int .i64 i, .string s, .slice p n c] 24)) := ((Below.refl _ _).alloc (Nat.le_refl _) _).alloc (by simp) _
  have hV0 : Box ((w.alloc (.cells #[.int .i64 k, .int .i64 i, .string s, .slice p n c] 24)).alloc (.cells #[.int .i64 k, .int .i64 i, .string s, .slice p n c] 24)) w.heap.size #[.int .i64 k, .int .i64 i, .string s, .slice p n c] 24 := (Box.new w _ 24).below ((Below.refl _ _).alloc (Nat.le_refl _) _)
  have hV1 : Box ((w.alloc (.cells #[.int .i64 k, .int .i64 i, .string s, .slice p n c] 24)).alloc (.cells #[.int .i64 k, .int .i64 i, .string s, .slice p n c] 24)) (w.heap.size + 1) #[.int .i64 k, .int .i64 i, .string s, .slice p n c] 24 := by
    have h := Box.new (w.alloc (.cells #[.int .i64 k, .int .i64 i, .string s, .slice p n c] 24)) #[.int .i64 k, .int .i64 i, .string s, .slice p n c] 24
    rw [show (w.alloc (.cells #[.int .i64 k, .int .i64 i, .string s, .slice p n c] 24)).heap.size = w.heap.size + 1 by simp] at h
    exact h
  have HSz := sizes_any (oneC (w.heap.size + 1) t) ((w.alloc (.cells #[.int .i64 k, .int .i64 i, .string s, .slice p n c] 24)).alloc (.cells #[.int .i64 k, .int .i64 i, .string s, .slice p n c] 24)) (fun b => b < w.heap.size + 2)
    (oneC_in ((HI.out.1.below hW0).mono fun b hb _ => by have := HI.out.2 b hb; omega) (by rw [ht]; exact ⟨hV1.cell 0, hV1.cell 1, hV1.cell 2, hV1.cell 3⟩) (by omega) (by have := hV1.lt; exact this)) (fun b hb => by simpa using hb)
  rw [oneC_total] at HSz
  refine HSz.mono ?_
  rintro e w1 ⟨r, rfl, hr, hb1⟩
  have hbw1 : Below w.heap.size w w1 := hW0.trans (hb1.mono hW0.size)
  have hV := hV0.below hb1
  have hl1 := hV.lt
  clear HSz hV0 hV1 hb1 hW0
  cases r with
  | false =>
    go_wp2
    go_ret
    exact ⟨rfl, hbw1⟩
  | true =>
    have htot : t.total ≤ 9999 := by have := hr rfl; omega
    clear hr
    have HP7 := hid (parse_any w.heap.size ⟨#[55]⟩ w1 (by decide) hbw1.size (HT.out.1.on hbw1) (HT.out.2.on hbw1))
    have HB1 := hid (And.intro hbw1 hV)
    clear hbw1 hV
    go_wp2_with fail
    refine HP7.out.mono ?_
    intro x2 w2 hP
    obtain ⟨u7, hx, hal7, hin7, hb2⟩ := hP.1 _ _ parse7
    have hbw2 := HB1.out.1.trans (hb2.mono HB1.out.1.size)
    have hV2 := HB1.out.2.below hb2
    simp only [VT.val] at hx
    subst hx
    have ha3 : Below w2.heap.size w2 (w2.alloc (.cells #[.int .i64 u7.kind, .int .i64 u7.int, .string u7.text, .slice u7.p u7.n u7.c] 24)) := (Below.refl _ _).alloc (Nat.le_refl _) _
    have hU3 := Box.new w2 #[.int .i64 u7.kind, .int .i64 u7.int, .string u7.text, .slice u7.p u7.n u7.c] 24
    have hs3 : (w2.alloc (.cells #[.int .i64 u7.kind, .int .i64 u7.int, .string u7.text, .slice u7.p u7.n u7.c] 24)).heap.size = w2.heap.size + 1 := by simp
    have hY4 := byts_two (w2.alloc (.cells #[.int .i64 u7.kind, .int .i64 u7.int, .string u7.text, .slice u7.p u7.n u7.c] 24))
    have ha4 : Below w2.heap.size w2 ((w2.alloc (.cells #[.int .i64 u7.kind, .int .i64 u7.int, .string u7.text, .slice u7.p u7.n u7.c] 24)).alloc (.cells #[.int .u8 1, .int .u8 2] 5)) := ha3.alloc (by omega) _
    have hU4 := hU3.below ((Below.refl _ _).alloc (Nat.le_refl _) (.cells #[.int .u8 1, .int .u8 2] 5))
    rw [hs3] at hY4
    have HD2 := hid (decode_any _ _ _ _ _ _ hY4 (fun b hb => by subst hb; simp))
    have hs4 : ((w2.alloc (.cells #[.int .i64 u7.kind, .int .i64 u7.int, .string u7.text, .slice u7.p u7.n u7.c] 24)).alloc (.cells #[.int .u8 1, .int .u8 2] 5)).heap.size = w2.heap.size + 2 := by simp
    have HB4 := hid (And.intro (hbw2.trans (ha4.mono hbw2.size)) (And.intro (hV2.below ha4) (And.intro hU4 (And.intro (hin7.below ha4) hal7))))
    clear hP hbw2 hV2 hb2 hin7 hal7 ha3 hU3 hs3 hY4 ha4 hU4 HP7 HB1
    go_wp2_with fail
    refine HD2.out.mono ?_
    intro x5 w5 hP5
    obtain ⟨u1, hx5, hal1, hin1, hb5⟩ := hP5.1 _ _ _ dec12
    have ha6 : Below w5.heap.size w5 (w5.alloc (.cells #[.int .i64 u1.kind, .int .i64 u1.int, .string u1.text, .slice u1.p u1.n u1.c] 24)) := (Below.refl _ _).alloc (Nat.le_refl _) _
    have hU6 := Box.new w5 #[.int .i64 u1.kind, .int .i64 u1.int, .string u1.text, .slice u1.p u1.n u1.c] 24
    have hb46 := hb5.trans (ha6.mono hb5.size)
    have hs5 := hb5.size
    rw [hs4] at hs5
    simp only [VT.val] at hx5
    subst hx5
    have hbw6 := HB4.out.1.trans (hb46.mono HB4.out.1.size)
    have hV6 := HB4.out.2.1.below hb46
    have hS6 := HB4.out.2.2.1.below hb46
    have hi7 := HB4.out.2.2.2.1.below hb46
    have hi1 := hin1.below ha6
    have HS7 := hid (fun W (hW : Below (w5.alloc (.cells #[.int .i64 u1.kind, .int .i64 u1.int, .string u1.text, .slice u1.p u1.n u1.c] 24)).heap.size (w5.alloc (.cells #[.int .i64 u1.kind, .int .i64 u1.int, .string u1.text, .slice u1.p u1.n u1.c] 24)) W) => same_any u7 (mkI 7) W _ (fun _ => True) (hi7.below hW) (mkI_in W _ 7 (by omega) (by omega)) (HB4.out.2.2.2.2.symm hi7))
    have HS1 := hid (fun W (hW : Below (w5.alloc (.cells #[.int .i64 u1.kind, .int .i64 u1.int, .string u1.text, .slice u1.p u1.n u1.c] 24)).heap.size (w5.alloc (.cells #[.int .i64 u1.kind, .int .i64 u1.int, .string u1.text, .slice u1.p u1.n u1.c] 24)) W) => same_any u1 (mkI 1) W _ (fun _ => True) (hi1.below hW) (mkI_in W _ 1 (by omega) (by omega)) (hal1.symm hi1))
    unfold VT.val at HS7 HS1
    have a0 := hS6.cell 0
    have a1 := hS6.cell 1
    have a2 := hS6.cell 2
    have a3 := hS6.cell 3
    have b0 := hU6.cell 0
    have b1 := hU6.cell 1
    have b2 := hU6.cell 2
    have b3 := hU6.cell 3
    simp only [List.getElem?_toArray, List.getElem?_cons_zero, List.getElem?_cons_succ] at a0 a1 a2 a3 b0 b1 b2 b3
    have HB6 := hid (And.intro hbw6 (And.intro hV6 (And.intro hS6 hU6)))
    clear hP5 hal1 hin1 hb5 ha6 hb46 hbw6 hV6 hi7 hi1 HB4 HD2
    clear hS6 hU6
    go_upto_region 5 with fail
    generalize hW6 : (w5.alloc (.cells #[.int .i64 u1.kind, .int .i64 u1.int, .string u1.text, .slice u1.p u1.n u1.c] 24)) = W6 at *
    clear hW6
    go_cut [6, 64] (fun s6 s64 wx => s6 = .bool false ∧ s64 = .bool false ∧ Below W6.heap.size W6 wx)
    case first =>
      go_wp2_with fail
      refine (HS7.out _ (Below.refl _ _)).mono ?_
      rintro x7 w7 ⟨rfl, hb7⟩
      have b0 := (HB6.out.2.2.2.below hb7).cell 0
      have b1 := (HB6.out.2.2.2.below hb7).cell 1
      have b2 := (HB6.out.2.2.2.below hb7).cell 2
      have b3 := (HB6.out.2.2.2.below hb7).cell 3
      simp only [List.getElem?_toArray, List.getElem?_cons_zero, List.getElem?_cons_succ] at b0 b1 b2 b3
      go_wp2_with fail
      refine (HS1.out _ hb7).mono ?_
      rintro x8 w8 ⟨rfl, hb8⟩
      have hb68 := hb7.trans (hb8.mono hb7.size)
      go_wp2_with fail
      go_meet
      exact ⟨rfl, rfl, hb68⟩
    case rest =>
    obtain ⟨h6, h64, hb68⟩ := hcut
    subst h6 h64
    have hbw8 := HB6.out.1.trans (hb68.mono HB6.out.1.size)
    have hV8 := HB6.out.2.1.below hb68
    generalize hw8 : wc = w8 at *
    clear hw8
    have hY8 : Byts w8 S bp bn bc bf := HY.out.kept hbw8.size fun b hb hl => hbw8.block b hl
    have HD8 := hid (decode_any bp bn bc bf (fun b => b < w8.heap.size) w8 (hY8.mono fun b _ hl => hl) (fun b hb => hb))
    have HB8 := hid (And.intro hbw8 (And.intro hV8 hY8))
    have hs68 := hb68.size
    clear a0 a1 a2 a3 b0 b1 b2 b3 hb68 hbw8 hV8 hY8 HB6 HS7 HS1
    go_wp2_with fail
    refine HD8.out.mono ?_
    intro x9 w9 hP9
    clear HD8
    have hf255 : ∀ j, j < bn → 0 ≤ bf j ∧ bf j ≤ 255 := fun j hj => by have := HY.out.fit j hj; omega
    have hKn := dec_known (f := bf) (n := bn) 3 0 0 0
    have hSd := dec_sound hf255 3 0 0 0
    have HMid : Hid (∃ u : VT, ∃ kk gg : Nat, x9 = .returned (.tuple #[.agg #[.int .i64 u.kind, .int .i64 u.int, .string u.text, .slice u.p u.n u.c], .int .i64 (kk : Int), .int .i64 (gg : Int)]) ∧ VT.In w9 (fun b => b < w9.heap.size) u ∧ Below w8.heap.size w8 w9 ∧
        ((gg = 0 ∧ 0 < kk ∧ kk ≤ bn ∧ (∃ q', chk u 0 0 = (0, q')) ∧ encB u = bytesAt bf 0 kk) ∨ (Known gg ∧ kk = 0 ∧ u = mkN))) := by
      cases hr : decS bf bn 3 0 0 0 with
      | error e =>
        obtain ⟨hx, hb⟩ := hP9.2 e hr
        exact ⟨mkN, 0, e, hx, small_in _ _ 0 0 ⟨#[]⟩ (by omega) (by omega) (by omega) (by omega) (by decide), hb, .inr ⟨hKn e hr, rfl, rfl⟩⟩
      | ok vaq =>
        obtain ⟨v, a', q'⟩ := vaq
        obtain ⟨u, hx, hal, hin, hb⟩ := hP9.1 v a' q' hr
        obtain ⟨h1, h2, h3, h4⟩ := hSd v a' q' hr
        exact ⟨u, a', 0, hx, hin.mono fun b _ hl => hl, hb, .inl ⟨rfl, h2, h3, ⟨q', by rw [← chk_alike v u 0 0 hal]; exact h1⟩, by rw [← encA v u hal, h4]; rfl⟩⟩
    obtain ⟨u9, kk, gg, hx9, hin9, hb9, hcase⟩ := HMid.out
    subst hx9
    have hbw9 := HB8.out.1.trans (hb9.mono HB8.out.1.size)
    have ha10 : Below w9.heap.size w9 (w9.alloc (.cells #[.int .i64 u9.kind, .int .i64 u9.int, .string u9.text, .slice u9.p u9.n u9.c] 24)) := (Below.refl _ _).alloc (Nat.le_refl _) _
    have hU10 := Box.new w9 #[.int .i64 u9.kind, .int .i64 u9.int, .string u9.text, .slice u9.p u9.n u9.c] 24
    have hbw10 := hbw9.trans (ha10.mono hbw9.size)
    have hV10 := (HB8.out.2.1.below hb9).below ha10
    have hY10 : Byts (w9.alloc (.cells #[.int .i64 u9.kind, .int .i64 u9.int, .string u9.text, .slice u9.p u9.n u9.c] 24)) S bp bn bc bf := HY.out.kept hbw10.size fun b hb hl => hbw10.block b hl
    have hin10 := hin9.below ha10
    have hS10 : ∀ b, b < w9.heap.size → b < (w9.alloc (.cells #[.int .i64 u9.kind, .int .i64 u9.int, .string u9.text, .slice u9.p u9.n u9.c] 24)).heap.size := fun b hb => by simp; omega
    have HB10 := hid (And.intro hbw10 (And.intro hV10 (And.intro hU10 (And.intro hY10 hin10))))
    have HCase := hid hcase
    clear hP9 hKn hSd HMid hcase hin9 hb9 hbw9 ha10 hU10 hbw10 hV10 hY10 hin10 HB8
    go_upto_if 72 with fail
    generalize hW10 : (w9.alloc (.cells #[.int .i64 u9.kind, .int .i64 u9.int, .string u9.text, .slice u9.p u9.n u9.c] 24)) = W10 at *
    go_cut [6] (fun s6 wx => s6 = .bool false ∧ Below W10.heap.size W10 wx)
    case first =>
      rcases HCase.out with ⟨rfl, hk1, hk2, ⟨q', hck⟩, henc⟩ | ⟨hkn, rfl, hu⟩
      · have hcl := clean_self hck
        have HCk : Hid (∀ W, Below W10.heap.size W10 W → Calls Tryd.prog 11 #[.agg #[.int .i64 u9.kind, .int .i64 u9.int, .string u9.text, .slice u9.p u9.n u9.c]] W fun e w' => e = .returned (.int .i64 0) ∧ Below W.heap.size W w') := fun W hW => by
          have h := check_any u9 W (fun b => b < W.heap.size) ((HB10.out.2.2.2.2.below hW).mono fun b _ hl => hl) (fun b hb => hb)
          rw [hck] at h
          exact h
        have HEn : Hid (∀ W, Below W10.heap.size W10 W → Calls Tryd.prog 12 #[.agg #[.int .i64 u9.kind, .int .i64 u9.int, .string u9.text, .slice u9.p u9.n u9.c]] W fun e w' => EPost W.heap.size W (bytesAt bf 0 kk) e w') := fun W hW => by
          have h := encode_any u9 W (fun b => b < W.heap.size) ((HB10.out.2.2.2.2.below hW).mono fun b _ hl => hl) (fun b hb => hb)
          rw [hcl, henc] at h
          exact h
        have HCb : Hid (∀ W, Below W10.heap.size W10 W → (convert 29 9 (.slice bp kk bc)).run Tryd.prog W = .ok (.string (strOf (bytesAt bf 0 kk))) W) := fun W hW => byts_conv2 ((HB10.out.2.2.2.1.kept hW.size fun b hb hl => hW.block b hl).pre hk2)
        have hZl : 0 < (bytesAt bf 0 kk).length := by rw [bytesAt_len]; exact hk1
        have hnc := HY.out.nc
        have hk1' : ¬ (kk : Int) < 1 := by omega
        have hk2' : ¬ (bn : Int) < (kk : Int) := by omega
        have hk3' : (kk : Int) ≤ (bc : Int) := by omega
        have hd1 : decide ((kk : Int) < 1) = false := by simp; omega
        have hd2 : decide ((bn : Int) < (kk : Int)) = false := by simp; omega
        have hd3 : decide (bn < kk) = false := by simp; omega
        have hcv0 := HCb.out W10.drew (Below.refl _ _).drew
        have d0 := HB10.out.2.2.1.cell 0
        have d1 := HB10.out.2.2.1.cell 1
        have d2 := HB10.out.2.2.1.cell 2
        have d3 := HB10.out.2.2.1.cell 3
        simp only [List.getElem?_toArray, List.getElem?_cons_zero, List.getElem?_cons_succ] at d0 d1 d2 d3
        generalize bytesAt bf 0 kk = Z at *
        clear HCase hck hcl henc hW10
        go_wp2_with fail
        first | go_region_held (fun W => W.cell? ⟨w9.heap.size, 0, none⟩ = some (.int .i64 u9.kind) ∧ W.cell? ⟨w9.heap.size, 1, none⟩ = some (.int .i64 u9.int) ∧ W.cell? ⟨w9.heap.size, 2, none⟩ = some (.string u9.text) ∧ W.cell? ⟨w9.heap.size, 3, none⟩ = some (.slice u9.p u9.n u9.c) ∧ (convert 29 9 (.slice bp kk bc)).run Tryd.prog W = .ok (.string (strOf Z)) W) (go_keep) (first
          | (go_at_call 11; refine (HCk.out _ (Below.refl _ _).drew).mono ?_; rintro e w11 ⟨rfl, hb11'⟩
             have hb11 : Below W10.heap.size W10 w11 := (Below.refl W10.heap.size W10).drew.trans hb11'
             have hcv1 := HCb.out w11 hb11
             have e0 := (HB10.out.2.2.1.below hb11).cell 0
             have e1 := (HB10.out.2.2.1.below hb11).cell 1
             have e2 := (HB10.out.2.2.1.below hb11).cell 2
             have e3 := (HB10.out.2.2.1.below hb11).cell 3
             simp only [List.getElem?_toArray, List.getElem?_cons_zero, List.getElem?_cons_succ] at e0 e1 e2 e3)
          | (go_at_call 12; refine (HEn.out _ hb11).mono ?_; intro e w12 hP12; obtain ⟨v12, rfl, hL12⟩ := hP12; obtain ⟨g12, c12, rfl, _⟩ := OwnBy.slice hL12.own hZl
             have hb12 : Below W10.heap.size W10 w12 := hb11.trans (hL12.bel.mono hb11.size)
             have hcv2 := HCb.out w12 hb12
             have e0 := (HB10.out.2.2.1.below hb12).cell 0
             have e1 := (HB10.out.2.2.1.below hb12).cell 1
             have e2 := (HB10.out.2.2.1.below hb12).cell 2
             have e3 := (HB10.out.2.2.1.below hb12).cell 3
             simp only [List.getElem?_toArray, List.getElem?_cons_zero, List.getElem?_cons_succ] at e0 e1 e2 e3
             have hcv3 := conv_any hL12.own)) | fail
        all_goals go_wp2_with fail
        all_goals go_meet
        all_goals exact ⟨rfl, hb12⟩
      · subst hu
        have HRf := hid (refused_any gg (.inl hkn))
        have hg0 : ((gg : Int) == 0) = false := by have := known_ne (.inl hkn); simp; omega
        have d0 := HB10.out.2.2.1.cell 0
        have d1 := HB10.out.2.2.1.cell 1
        have d2 := HB10.out.2.2.1.cell 2
        have d3 := HB10.out.2.2.1.cell 3
        simp only [List.getElem?_toArray, List.getElem?_cons_zero, List.getElem?_cons_succ] at d0 d1 d2 d3
        simp only [mkN, VT.kind_mk, VT.int_mk, VT.text_mk, VT.p_mk, VT.n_mk, VT.c_mk] at d0 d1 d2 d3
        clear HCase hW10
        go_wp2_with fail
        refine (HRf.out _).mono ?_
        rintro x11 w11 ⟨rfl, hb11⟩
        go_wp2_with fail
        go_meet
        exact ⟨rfl, hb11⟩
    case rest =>
    obtain ⟨h6, hb11⟩ := hcut
    subst h6
    have hbw11 := HB10.out.1.trans (hb11.mono HB10.out.1.size)
    have hV11 := HB10.out.2.1.below hb11
    generalize hw11 : wc = w11 at *
    have HP11 := hid (parse_any w.heap.size str w11 hstr hbw11.size (HT.out.1.on hbw11) (HT.out.2.on hbw11))
    have HB11 := hid (And.intro hbw11 hV11)
    clear hw11 hb11 hbw11 hV11 HB10 HCase hf255 hS10
    go_wp2_with fail
    refine HP11.out.mono ?_
    intro x12 w12 hP12
    clear HP11
    obtain ⟨hpo, hpe⟩ := parse_read str
    have HMid : Hid (∃ u : VT, ∃ ll hh : Nat, x12 = .returned (.tuple #[.agg #[.int .i64 u.kind, .int .i64 u.int, .string u.text, .slice u.p u.n u.c], .int .i64 (ll : Int), .int .i64 (hh : Int)]) ∧ VT.In w12 (fun b => b < w12.heap.size) u ∧ Below w11.heap.size w11 w12 ∧
        ((hh = 0 ∧ ll = str.size ∧ (∃ q', chk u 0 0 = (0, q'))) ∨ ((Known hh ∨ hh = 29) ∧ ll ≤ str.size ∧ u = mkN))) := by
      cases hr : parseS str with
      | error pe =>
        obtain ⟨pp, e⟩ := pe
        obtain ⟨hx, hb⟩ := hP12.2 pp e hr
        obtain ⟨h1, h2⟩ := hpe pp e hr
        exact ⟨mkN, pp, e, hx, small_in _ _ 0 0 ⟨#[]⟩ (by omega) (by omega) (by omega) (by omega) (by decide), hb, .inr ⟨h2, h1, rfl⟩⟩
      | ok va =>
        obtain ⟨v, a'⟩ := va
        obtain ⟨u, hx, hal, hin, hb⟩ := hP12.1 v a' hr
        obtain ⟨⟨q', h1⟩, h2⟩ := hpo v a' hr
        exact ⟨u, a', 0, hx, hin.mono fun b _ hl => hl, hb, .inl ⟨rfl, h2, q', by rw [← chk_alike v u 0 0 hal]; exact h1⟩⟩
    obtain ⟨u12, ll, hh, hx12, hin12, hb12, hcase⟩ := HMid.out
    subst hx12
    have hbw12 := HB11.out.1.trans (hb12.mono HB11.out.1.size)
    have ha13 : Below w12.heap.size w12 (w12.alloc (.cells #[.int .i64 u12.kind, .int .i64 u12.int, .string u12.text, .slice u12.p u12.n u12.c] 24)) := (Below.refl _ _).alloc (Nat.le_refl _) _
    have hU13 := Box.new w12 #[.int .i64 u12.kind, .int .i64 u12.int, .string u12.text, .slice u12.p u12.n u12.c] 24
    have HB13 := hid (And.intro (hbw12.trans (ha13.mono hbw12.size)) (And.intro ((HB11.out.2.below hb12).below ha13) (And.intro hU13 (hin12.below ha13))))
    have HCase := hid hcase
    clear hP12 hpo hpe HMid hcase hin12 hb12 hbw12 ha13 hU13 HB11
    go_upto_if 111 with fail
    generalize hW13 : (w12.alloc (.cells #[.int .i64 u12.kind, .int .i64 u12.int, .string u12.text, .slice u12.p u12.n u12.c] 24)) = W13 at *
    go_cut [6] (fun s6 wx => s6 = .bool false ∧ Below W13.heap.size W13 wx)
    case first =>
      have d0 := HB13.out.2.2.1.cell 0
      have d1 := HB13.out.2.2.1.cell 1
      have d2 := HB13.out.2.2.1.cell 2
      have d3 := HB13.out.2.2.1.cell 3
      simp only [List.getElem?_toArray, List.getElem?_cons_zero, List.getElem?_cons_succ] at d0 d1 d2 d3
      rcases HCase.out with ⟨rfl, rfl, q', hck⟩ | ⟨hkn, hll, hu⟩
      · have HCk : Hid (∀ W, Below W13.heap.size W13 W → Calls Tryd.prog 11 #[.agg #[.int .i64 u12.kind, .int .i64 u12.int, .string u12.text, .slice u12.p u12.n u12.c]] W fun e w' => e = .returned (.int .i64 0) ∧ Below W.heap.size W w') := fun W hW => by
          have h := check_any u12 W (fun b => b < W.heap.size) ((HB13.out.2.2.2.below hW).mono fun b _ hl => hl) (fun b hb => hb)
          rw [hck] at h
          exact h
        have htl := chk_total hck
        have HCn : Hid (∀ W, Below W13.heap.size W13 W → Calls Tryd.prog 14 #[.agg #[.int .i64 u12.kind, .int .i64 u12.int, .string u12.text, .slice u12.p u12.n u12.c], .int .i64 0] W fun e w' => e = .returned (.int .i64 (cnt u12 0 : Int)) ∧ Below W.heap.size W w') := fun W hW => lawCount_any u12 0 W _ (HB13.out.2.2.2.below hW) (by omega) (by omega)
        have hcl : ¬ 12 < cnt u12 0 := fun h => (cnt_clean u12).1 h (by rw [hck])
        generalize cnt u12 0 = N at *
        have hd1 : decide ((12 : Int) < (N : Int)) = false := by simp; omega
        have hd2 : decide (12 < N) = false := by simp; omega
        clear HCase hck hW13
        go_wp2_with fail
        refine (HCk.out _ (Below.refl _ _)).mono ?_
        rintro x14 w14 ⟨rfl, hb14⟩
        have e0 := (HB13.out.2.2.1.below hb14).cell 0
        have e1 := (HB13.out.2.2.1.below hb14).cell 1
        have e2 := (HB13.out.2.2.1.below hb14).cell 2
        have e3 := (HB13.out.2.2.1.below hb14).cell 3
        simp only [List.getElem?_toArray, List.getElem?_cons_zero, List.getElem?_cons_succ] at e0 e1 e2 e3
        go_wp2_with fail
        refine (HCn.out _ hb14).mono ?_
        rintro x15 w15 ⟨rfl, hb15⟩
        have hb135 := hb14.trans (hb15.mono hb14.size)
        go_wp2_with fail
        go_meet
        exact ⟨rfl, hb135⟩
      · subst hu
        have HRf := hid (refused_any hh hkn)
        have hg0 : ((hh : Int) == 0) = false := by have := known_ne hkn; simp; omega
        have hd1 : decide ((ll : Int) < 0) = false := by simp
        have hd2 : decide ((str.size : Int) < (ll : Int)) = false := by simp; omega
        have hd3 : decide (str.size < ll) = false := by simp; omega
        simp only [mkN, VT.kind_mk, VT.int_mk, VT.text_mk, VT.p_mk, VT.n_mk, VT.c_mk] at d0 d1 d2 d3
        clear HCase hW13
        go_wp2_with fail
        refine (HRf.out _).mono ?_
        rintro x14 w14 ⟨rfl, hb14⟩
        go_wp2_with fail
        go_meet
        exact ⟨rfl, hb14⟩
    case rest =>
    obtain ⟨h6, hb14⟩ := hcut
    subst h6
    have hbw14 := HB13.out.1.trans (hb14.mono HB13.out.1.size)
    have hV14 := HB13.out.2.1.below hb14
    generalize hw14 : wc = w14 at *
    have hin14 : VT.In w14 S t := HI.out.1.kept hbw14.size fun b hb hl => hbw14.block b hl
    have HEn := hid (encode_any t w14 S hin14 (fun b hb => Nat.lt_of_lt_of_le (HI.out.2 b hb) hbw14.size))
    simp only [VT.val, ht, VT.kind_mk, VT.int_mk, VT.text_mk, VT.p_mk, VT.n_mk, VT.c_mk] at HEn
    rw [← ht] at HEn
    have x0 := hV14.cell 0
    have x1 := hV14.cell 1
    have x2 := hV14.cell 2
    have x3 := hV14.cell 3
    simp only [List.getElem?_toArray, List.getElem?_cons_zero, List.getElem?_cons_succ] at x0 x1 x2 x3
    have HB14 := hid hbw14
    have hZl := clean_enc_len HI.out.1
    have HZb := hid (enc_bytes _ (clean_val HI.out.1))
    have HRef := hid (fun i (hi : i < (encB (cleanT t)).length) => cut_refused HI.out.1 hi (fun j => (encB (cleanT t)).getD j 0) getD_at)
    have hZ0 := enc_pos (cleanT t)
    generalize encB (cleanT t) = Z at *
    clear hw14 hb14 hbw14 hV14 hin14 HB13 HCase hW13
    go_wp2_with fail
    refine HEn.out.mono ?_
    intro x15 w15 hP15
    obtain ⟨v15, rfl, hL15⟩ := hP15
    obtain ⟨p15, c15, rfl, hY15⟩ := byts_own hL15.own hZ0 HZb.out (by omega)
    have hbw15 : Below w.heap.size w w15 := HB14.out.trans (hL15.bel.mono HB14.out.size)
    have HX15 := hid (And.intro hbw15 hY15)
    have hcc : Z.length ≤ c15 := hY15.nc
    clear HEn hL15 hbw15 hY15 x0 x1 x2 x3 HB14
    go_wp2_with fail
    go_loopw [20] (fun x wr => ∃ j : Nat, j ≤ Z.length ∧ x = .int .i64 (j : Int) ∧ Below w15.heap.size w15 wr) (fun x _ => Z.length - (intOf x).toNat)
    case atStart => exact ⟨0, Nat.zero_le _, rfl, Below.refl _ _⟩
    case round =>
      obtain ⟨j, hj, rfl, hbr⟩ := hrel
      by_cases hlt : j < Z.length
      · have hlt' : (j : Int) < (Z.length : Int) := by omega
        have hjc : (j : Int) ≤ (c15 : Int) := by omega
        have hjw : IntKind.i64.wrap ((j : Int) + 1) = (j : Int) + 1 := by rw [IntKind.wrap_i64]; omega
        have hYr : Byts wr (fun b => b < w15.heap.size) p15 j c15 (fun j => Z.getD j 0) := (HX15.out.2.kept hbr.size fun b hb hl => hbr.block b hl).pre (by omega)
        have HD := hid (decode_any p15 j c15 _ _ wr hYr (fun b hb => Nat.lt_of_lt_of_le hb hbr.size))
        have HRj := hid (HRef.out j hlt)
        have HBr := hid hbr
        clear hYr hbr
        go_wp2_with fail
        refine HD.out.mono ?_
        intro x16 w16 hP16
        obtain ⟨hx16, hb16⟩ := hP16.2 28 HRj.out
        subst hx16
        have hbr2 := HBr.out.trans (hb16.mono HBr.out.size)
        have HBf := hid (hbr2.alloc (by have := hb16.size; have := HBr.out.size; omega) (.cells #[.int .i64 0, .int .i64 0, .string ⟨#[]⟩, .slice none 0 0] 24))
        clear HD hP16 hb16 hbr2
        go_wp2
        go_roundw
        case rel => exact ⟨j + 1, by omega, by go_num, HBf.out⟩
        case measure => simp [intOf]; omega
      · have hje : j = Z.length := by omega
        have hlt' : ¬ (j : Int) < (Z.length : Int) := by omega
        have hz1 : (0 : Int) < (Z.length : Int) := by omega
        have hz2 : decide ((0 : Int) < (Z.length : Int)) = true := by simp; omega
        have HBf := hid (HX15.out.1.trans (hbr.mono HX15.out.1.size))
        clear hbr
        go_wp2
        go_ret
        exact ⟨by first | rfl | (congr 3; simp; omega), HBf.out⟩
end Go.Proofs.YtoifpdnaeogdgaaDoor
