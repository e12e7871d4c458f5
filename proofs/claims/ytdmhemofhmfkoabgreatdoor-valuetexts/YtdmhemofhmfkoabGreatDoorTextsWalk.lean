import Derived.Test.YtdmhemofhmfkoabGreatDoorPack14
import Derived.Test.YtdmhemofhmfkoabGreatDoorPack15
import Derived.Test.YtdmhemofhmfkoabGreatDoorPack16
import Derived.Test.YtdmhemofhmfkoabGreatDoorTextsPre
namespace Go.Proofs.YtdmhemofhmfkoabGreatDoor
open Go.RowKit
set_option maxRecDepth 8000

set_option maxHeartbeats 2000000 in
theorem texts_walk (t : VT) (q : ByteArray) (w : World) (S : Nat → Prop) (hin : VT.In w S t) (hS : ∀ b, S b → b < w.heap.size) (hq : q.size ≤ 140737488355328) (hT : Tabs w.heap.size w) (hEr : Errs w.heap.size w) :
    Calls Tryz.prog 5 #[t.val, .string q] w fun e w' => e = .returned (.bool true) ∧ Below w.heap.size w w' := by
  have HI : Hid (VT.In w S t ∧ ∀ b, S b → b < w.heap.size) := ⟨hin, hS⟩
  obtain ⟨k, i, s, n, p, c, f, ht⟩ := hin.mk_
  have HT := hid (And.intro hT hEr)
  obtain ⟨T1, n1, e1, hU1⟩ := parse_uni q
  obtain ⟨T2, n2, e2, hU2⟩ := lead_uni q
  have HPa := hid (fun W (hW : Below w.heap.size w W) => (parse_any w.heap.size q W hq hW.size (hT.on hW) (hEr.on hW)).mono (fun x w' h => hU1 W x w' h))
  have HPb := hid (fun W => (refParse_any q W hq).mono (fun x w' h => hU1 W x w' h))
  have HLa := hid (fun W (hW : Below w.heap.size w W) => (lead_any w.heap.size q W hq hW.size (hT.on hW) (hEr.on hW)).mono (fun x w' h => hU2 W x w' h))
  have HLb := hid (fun W => (refLead_any q W hq).mono (fun x w' h => hU2 W x w' h))
  clear hin hS hT hEr hU1 hU2
  simp only [VT.val, ht, VT.kind_mk, VT.int_mk, VT.text_mk, VT.p_mk, VT.n_mk, VT.c_mk]
  go_enter Tryz.func5, Tryz.ntmps5
  go_wp2_with fail
  have hW0 : Below w.heap.size w ((w.alloc (.cells #[.int .i64 k, .int .i64 i, .string s, .slice p n c] 24)).alloc (.cells #[.int .i64 k, .int .i64 i, .string s, .slice p n c] 24)) := ((Below.refl _ _).alloc (Nat.le_refl _) _).alloc (by simp) _
  have hV0 : Box ((w.alloc (.cells #[.int .i64 k, .int .i64 i, .string s, .slice p n c] 24)).alloc (.cells #[.int .i64 k, .int .i64 i, .string s, .slice p n c] 24)) w.heap.size #[.int .i64 k, .int .i64 i, .string s, .slice p n c] 24 := (Box.new w _ 24).below ((Below.refl _ _).alloc (Nat.le_refl _) _)
  have hV1 : Box ((w.alloc (.cells #[.int .i64 k, .int .i64 i, .string s, .slice p n c] 24)).alloc (.cells #[.int .i64 k, .int .i64 i, .string s, .slice p n c] 24)) (w.heap.size + 1) #[.int .i64 k, .int .i64 i, .string s, .slice p n c] 24 := by
    have h := Box.new (w.alloc (.cells #[.int .i64 k, .int .i64 i, .string s, .slice p n c] 24)) #[.int .i64 k, .int .i64 i, .string s, .slice p n c] 24
    rw [show (w.alloc (.cells #[.int .i64 k, .int .i64 i, .string s, .slice p n c] 24)).heap.size = w.heap.size + 1 by simp] at h
    exact h
  have HSz := sizes_any (one (w.heap.size + 1) t) ((w.alloc (.cells #[.int .i64 k, .int .i64 i, .string s, .slice p n c] 24)).alloc (.cells #[.int .i64 k, .int .i64 i, .string s, .slice p n c] 24)) (fun b => b < w.heap.size + 2)
    (one_in ((HI.out.1.below hW0).mono fun b hb _ => by have := HI.out.2 b hb; omega) (by rw [ht]; exact ⟨hV1.cell 0, hV1.cell 1, hV1.cell 2, hV1.cell 3⟩) (by omega) (by have := hV1.lt; exact this)) (fun b hb => by simpa using hb)
  rw [one_total] at HSz
  refine HSz.mono ?_
  rintro e w1 ⟨r, rfl, hr, hb1⟩
  have hbw1 : Below w.heap.size w w1 := hW0.trans (hb1.mono hW0.size)
  have hV := hV0.below hb1
  have hl1 := hV.lt
  clear HSz hV0 hV1 hb1 hW0
  cases r with
  | false =>
    go_wp2
    go_ret
    exact ⟨rfl, hbw1⟩
  | true =>
    have htot : t.total ≤ 9999 := by have := hr rfl; omega
    clear hr
    have x0 := hV.cell 0
    have x1 := hV.cell 1
    have x2 := hV.cell 2
    have x3 := hV.cell 3
    simp at x0 x1 x2 x3
    have HIn1 : Hid (VT.In w1 S t) := HI.out.1.kept hbw1.size fun b hb hl => hbw1.block b hl
    have HD := deep_any t w1 S HIn1.out (by omega)
    simp only [VT.val, ht, VT.kind_mk, VT.int_mk, VT.text_mk, VT.p_mk, VT.n_mk, VT.c_mk] at HD
    rw [← ht] at HD
    go_wp2_with fail
    refine HD.mono ?_
    rintro e w2 ⟨u, rfl, hal, hiu, hb2⟩
    have hbw2 : Below w.heap.size w w2 := hbw1.trans (hb2.mono hbw1.size)
    have hV2 := hV.below hb2
    clear x0 x1 x2 x3 HD hV
    have x0 := hV2.cell 0
    have x1 := hV2.cell 1
    have x2 := hV2.cell 2
    have x3 := hV2.cell 3
    simp at x0 x1 x2 x3
    have hl2 := hV2.lt
    go_wp2_with fail
    have hbk : Below w2.heap.size w2 ((w2.alloc (.cells #[.int .i64 u.kind, .int .i64 u.int, .string u.text, .slice u.p u.n u.c] 24)).alloc (.cells #[.slice none 0 0, .slice none 0 0, .slice none 0 0, .slice none 0 0, .slice none 0 0, .slice none 0 0, .slice none 0 0, .slice none 0 0, .slice none 0 0, .slice none 0 0] 52)) := ((Below.refl _ _).alloc (Nat.le_refl _) _).alloc (by simp) _
    have hRm : Rm w.heap.size ((w2.alloc (.cells #[.int .i64 u.kind, .int .i64 u.int, .string u.text, .slice u.p u.n u.c] 24)).alloc (.cells #[.slice none 0 0, .slice none 0 0, .slice none 0 0, .slice none 0 0, .slice none 0 0, .slice none 0 0, .slice none 0 0, .slice none 0 0, .slice none 0 0, .slice none 0 0] 52)) (newRoom (w2.heap.size + 1)) := by
      have h := newRoom_rm (w2.alloc (.cells #[.int .i64 u.kind, .int .i64 u.int, .string u.text, .slice u.p u.n u.c] 24)) w.heap.size (by simp; omega)
      rw [show (w2.alloc (.cells #[.int .i64 u.kind, .int .i64 u.int, .string u.text, .slice u.p u.n u.c] 24)).heap.size = w2.heap.size + 1 by simp] at h
      exact h
    have hKp : Box ((w2.alloc (.cells #[.int .i64 u.kind, .int .i64 u.int, .string u.text, .slice u.p u.n u.c] 24)).alloc (.cells #[.slice none 0 0, .slice none 0 0, .slice none 0 0, .slice none 0 0, .slice none 0 0, .slice none 0 0, .slice none 0 0, .slice none 0 0, .slice none 0 0, .slice none 0 0] 52)) w2.heap.size #[.int .i64 u.kind, .int .i64 u.int, .string u.text, .slice u.p u.n u.c] 24 := (Box.new w2 _ 24).below ((Below.refl _ _).alloc (Nat.le_refl _) _)
    have hbW := hbw2.trans (hbk.mono hbw2.size)
    have hVW := hV2.below hbk
    have hiW := (hiu.mono fun b hb hl => (show w1.heap.size ≤ b ∧ b < w2.heap.size from ⟨hb, hl⟩)).below hbk
    have htW : VT.In ((w2.alloc (.cells #[.int .i64 u.kind, .int .i64 u.int, .string u.text, .slice u.p u.n u.c] 24)).alloc (.cells #[.slice none 0 0, .slice none 0 0, .slice none 0 0, .slice none 0 0, .slice none 0 0, .slice none 0 0, .slice none 0 0, .slice none 0 0, .slice none 0 0, .slice none 0 0] 52)) S t := HI.out.1.kept hbW.size fun b _ hl => hbW.block b hl
    generalize hW3 : (w2.alloc (.cells #[.int .i64 u.kind, .int .i64 u.int, .string u.text, .slice u.p u.n u.c] 24)).alloc (.cells #[.slice none 0 0, .slice none 0 0, .slice none 0 0, .slice none 0 0, .slice none 0 0, .slice none 0 0, .slice none 0 0, .slice none 0 0, .slice none 0 0, .slice none 0 0] 52) = W3 at *
    have hs3 : w2.heap.size + 2 ≤ W3.heap.size := by rw [← hW3]; simp
    have HV := value_any t w.heap.size W3 (newRoom (w2.heap.size + 1)) S hRm (by omega) htW (fun b hb hh => by
      have := HI.out.2 b hb
      rcases hh with h | ⟨_, _, h⟩
      · have h2 : b = w2.heap.size + 1 := h
        omega
      · cases h) (fun q _ => by show 0 + 1 + t.total ≤ 100000; omega)
    simp only [VT.val, ht, VT.kind_mk, VT.int_mk, VT.text_mk, VT.p_mk, VT.n_mk, VT.c_mk] at HV
    rw [← ht] at HV
    refine HV.mono ?_
    intro e w4 hP
    obtain ⟨x, R1, rfl, hx⟩ := hP
    have hnot : ∀ b, b ≤ w2.heap.size → ¬ (newRoom (w2.heap.size + 1)).hot b := fun b hb hh => by
      rcases hh with h | ⟨_, _, h⟩
      · have h2 : b = w2.heap.size + 1 := h
        omega
      · cases h
    have hV4 := hVW.but hx.but (hnot _ (by omega))
    have hK4 := hKp.but hx.but (hnot _ (Nat.le_refl _))
    have hi4 := hiW.but hx.but (fun b hb _ => hnot b (by omega))
    have hb4 : Below w.heap.size w w4 := hbW.trans (hx.but.below (by omega) (fun b hb => hnot b (by omega)))
    have x0 := hV4.cell 0
    have x1 := hV4.cell 1
    have x2 := hV4.cell 2
    have x3 := hV4.cell 3
    have g0 := hV4.frozen 0
    have g1 := hV4.frozen 1
    have g2 := hV4.frozen 2
    have g3 := hV4.frozen 3
    have z4 := hV4.lt
    simp at x0 x1 x2 x3
    have HX : Hid (Roomed w.heap.size W3 (newRoom (w2.heap.size + 1)) t x w4 R1) := hx
    clear HV hV2 hVW hKp hiW htW hRm hbk hW3 hx
    simp only [VT.val]
    go_wp2_with fail
    have hk5 : But (fun b => b = w.heap.size) w4 ((((w4.setCell ⟨w.heap.size, 0, none⟩ (.int .i64 x.kind)).setCell ⟨w.heap.size, 1, none⟩ (.int .i64 x.int)).setCell ⟨w.heap.size, 2, none⟩ (.string x.text)).setCell ⟨w.heap.size, 3, none⟩ (.slice x.p x.n x.c)) := ((((But.refl (fun b => b = w.heap.size) w4).setCell (p := ⟨w.heap.size, 0, none⟩) (fun _ => rfl) _).setCell (p := ⟨w.heap.size, 1, none⟩) (fun _ => rfl) _).setCell (p := ⟨w.heap.size, 2, none⟩) (fun _ => rfl) _).setCell (p := ⟨w.heap.size, 3, none⟩) (fun _ => rfl) _
    have hV5 : Box ((((w4.setCell ⟨w.heap.size, 0, none⟩ (.int .i64 x.kind)).setCell ⟨w.heap.size, 1, none⟩ (.int .i64 x.int)).setCell ⟨w.heap.size, 2, none⟩ (.string x.text)).setCell ⟨w.heap.size, 3, none⟩ (.slice x.p x.n x.c)) w.heap.size #[.int .i64 x.kind, .int .i64 x.int, .string x.text, .slice x.p x.n x.c] 24 := by
      have h := (((hV4.set 0 (.int .i64 x.kind)).set 1 (.int .i64 x.int)).set 2 (.string x.text)).set 3 (.slice x.p x.n x.c)
      simpa using h
    generalize (((w4.setCell ⟨w.heap.size, 0, none⟩ (.int .i64 x.kind)).setCell ⟨w.heap.size, 1, none⟩ (.int .i64 x.int)).setCell ⟨w.heap.size, 2, none⟩ (.string x.text)).setCell ⟨w.heap.size, 3, none⟩ (.slice x.p x.n x.c) = W5 at *
    have hx := HX.out
    have hK5 := hK4.but hk5 (by omega)
    have hi5 := hi4.but hk5 (fun b hb _ => by have := hb.1; omega)
    have hx5 : VT.In W5 (fun b => W3.heap.size ≤ b ∧ ¬ R1.hot b) x := hx.in_.but hk5 (fun b hb _ => by have := hb.1; omega)
    have hR5 : Rm w.heap.size W5 R1 := hx.rm.keep hk5.size fun b hf => hk5.block b (hx.rm.footlt hf) fun e => by
      rcases hx.next.foot b hf with h | h
      · rcases h with h | ⟨_, _, y, hy, _⟩
        · exact hnot b (by omega) h
        · cases hy
      · omega
    have hb5 : Below w.heap.size w W5 := hb4.trans (hk5.below (by omega) (fun b hb => by omega))
    have hpl : R1.plainV := fun q _ h2 h3 => (hx.next.same q h2 h3).1
    have hax : VT.Alike t x := hx.alike
    have hrb1 : R1.rb = w2.heap.size + 1 := hx.next.rb
    clear hV4 hK4 hi4 HX hx x0 x1 x2 x3 g0 g1 g2 g3
    have hpx : prB (cleanT x) = prB (cleanT t) := (prB_alikeX _ _ (cleanT_alikeX hax)).symm
    have hpu : prB (cleanT u) = prB (cleanT t) := (prB_alikeX _ _ (cleanT_alikeX hal)).symm
    have HC := print_any x W5 (fun b => b < W5.heap.size) (hx5.mono fun b _ hl => hl) (fun b hb => hb) ((HT.out.1.on hb5).mono hb5.size)
    rw [hpx] at HC
    obtain ⟨Z, hZ⟩ : ∃ Z, strOf (prB (cleanT t)) = Z := ⟨_, rfl⟩
    rw [hZ] at HC
    unfold VT.val at HC
    refine HC.mono ?_
    rintro e w6 ⟨rfl, hb6⟩
    have hV6 := hV5.below hb6
    have hK6 := hK5.below hb6
    have hi6 := hi5.below hb6
    have hx6 := hx5.below hb6
    have hR6 := hR5.below hb6
    have hbw6 : Below w.heap.size w w6 := hb5.trans (hb6.mono hb5.size)
    clear HC hV5 hK5 hi5 hx5 hR5 hb5 hb6 hk5
    have k0 := hK6.cell 0
    have k1 := hK6.cell 1
    have k2 := hK6.cell 2
    have k3 := hK6.cell 3
    simp at k0 k1 k2 k3
    have HC := refPrint_any u w6 _ hi6
    rw [hpu, hZ] at HC
    unfold VT.val at HC
    clear hpx hpu hZ
    go_wp2_with fail
    refine HC.mono ?_
    rintro e w7 ⟨rfl, hb7⟩
    have hV7 := hV6.below hb7
    have hK7 := hK6.below hb7
    have hi7 := hi6.below hb7
    have hx7 := hx6.below hb7
    have hR7 := hR6.below hb7
    have hbw7 : Below w.heap.size w w7 := hbw6.trans (hb7.mono hbw6.size)
    clear HC hV6 hK6 hi6 hx6 hR6 hbw6 hb7 k0 k1 k2 k3
    have k0 := hK7.cell 0
    have k1 := hK7.cell 1
    have k2 := hK7.cell 2
    have k3 := hK7.cell 3
    have x0 := hV7.cell 0
    have x1 := hV7.cell 1
    have x2 := hV7.cell 2
    have x3 := hV7.cell 3
    simp at k0 k1 k2 k3 x0 x1 x2 x3
    have HC := same_any x u w7 _ _ hx7 hi7 ((hax.symm hx7).trans hal)
    unfold VT.val at HC
    go_wp2_with fail
    refine HC.mono ?_
    rintro e w8 ⟨rfl, hb8⟩
    have hR8 := hR7.below hb8
    have hbw8 : Below w.heap.size w w8 := hbw7.trans (hb8.mono hbw7.size)
    clear HC hV7 hK7 hi7 hx7 hR7 hbw7 hb8 k0 k1 k2 k3 x0 x1 x2 x3
    have HC := hold_any w.heap.size w8 R1 hR8 hpl
    rw [hrb1] at HC
    go_wp2_with fail
    refine HC.mono ?_
    rintro e w9 ⟨rfl, hb9⟩
    have hbw9 : Below w.heap.size w w9 := hbw8.trans (hb9.mono hbw8.size)
    clear HC hR8 hbw8 hb9 hax hal hpl hrb1 hnot
    have HP1 := hid (HPa.out w9 hbw9)
    go_wp2_with fail
    refine HP1.out.mono ?_
    intro ex w10 hP
    obtain ⟨u1, rfl, ha1, hi1, hb10⟩ := hP
    simp only [VT.val]
    have hbw10 := hbw9.trans (hb10.mono hbw9.size)
    have hal1 := (Below.refl w10.heap.size w10).alloc (Nat.le_refl _) (.cells #[.int .i64 u1.kind, .int .i64 u1.int, .string u1.text, .slice u1.p u1.n u1.c] 24)
    have hbw11 := hbw10.trans (hal1.mono hbw10.size)
    have hN1 := Box.new w10 #[.int .i64 u1.kind, .int .i64 u1.int, .string u1.text, .slice u1.p u1.n u1.c] 24
    have hj1 := hi1.below hal1
    have HQ1 := hid (HPb.out (w10.alloc (.cells #[.int .i64 u1.kind, .int .i64 u1.int, .string u1.text, .slice u1.p u1.n u1.c] 24)))
    clear hb10 hbw9 hi1 HP1 hbw10 hal1
    go_wp2_with fail
    refine HQ1.out.mono ?_
    intro ex w12 hP
    obtain ⟨u2, rfl, ha2, hi2, hb12⟩ := hP
    simp only [VT.val]
    have hal2 := (Below.refl w12.heap.size w12).alloc (Nat.le_refl _) (.cells #[.int .i64 u2.kind, .int .i64 u2.int, .string u2.text, .slice u2.p u2.n u2.c] 24)
    have hb13 := hb12.trans (hal2.mono hb12.size)
    have hbw13 := hbw11.trans (hb13.mono hbw11.size)
    have hA := hN1.below hb13
    have hB := Box.new w12 #[.int .i64 u2.kind, .int .i64 u2.int, .string u2.text, .slice u2.p u2.n u2.c] 24
    have HS := hid (same_any u1 u2 _ _ _ (hj1.below hb13) (hi2.below hal2) ((ha1.symm (hj1.below hb13)).trans ha2))
    unfold VT.val at HS
    have a0 := hA.cell 0
    have a1 := hA.cell 1
    have a2 := hA.cell 2
    have a3 := hA.cell 3
    have b0 := hB.cell 0
    have b1 := hB.cell 1
    have b2 := hB.cell 2
    have b3 := hB.cell 3
    simp only [List.getElem?_toArray, List.getElem?_cons_zero, List.getElem?_cons_succ] at a0 a1 a2 a3 b0 b1 b2 b3
    clear hb12 hal2 hb13 hA hB hN1 hj1 hi2 ha1 ha2 HQ1 hbw11
    go_wp2_with fail
    refine HS.out.mono ?_
    rintro ex w14 ⟨rfl, hb14⟩
    have hbw14 := hbw13.trans (hb14.mono hbw13.size)
    have HP2 := hid (HLa.out w14 hbw14)
    clear HS a0 a1 a2 a3 b0 b1 b2 b3 hb14 hbw13
    go_wp2_with fail
    refine HP2.out.mono ?_
    intro ex w15 hP
    obtain ⟨u3, rfl, ha1, hi1, hb10⟩ := hP
    simp only [VT.val]
    have hbw10 := hbw14.trans (hb10.mono hbw14.size)
    have hal1 := (Below.refl w15.heap.size w15).alloc (Nat.le_refl _) (.cells #[.int .i64 u3.kind, .int .i64 u3.int, .string u3.text, .slice u3.p u3.n u3.c] 24)
    have hbw11 := hbw10.trans (hal1.mono hbw10.size)
    have hN1 := Box.new w15 #[.int .i64 u3.kind, .int .i64 u3.int, .string u3.text, .slice u3.p u3.n u3.c] 24
    have hj1 := hi1.below hal1
    have HQ1 := hid (HLb.out (w15.alloc (.cells #[.int .i64 u3.kind, .int .i64 u3.int, .string u3.text, .slice u3.p u3.n u3.c] 24)))
    clear hb10 hbw14 hi1 HP2 hbw10 hal1
    go_wp2_with fail
    refine HQ1.out.mono ?_
    intro ex w16 hP
    obtain ⟨u4, rfl, ha2, hi2, hb12⟩ := hP
    simp only [VT.val]
    have hal2 := (Below.refl w16.heap.size w16).alloc (Nat.le_refl _) (.cells #[.int .i64 u4.kind, .int .i64 u4.int, .string u4.text, .slice u4.p u4.n u4.c] 24)
    have hb13 := hb12.trans (hal2.mono hb12.size)
    have hbw13 := hbw11.trans (hb13.mono hbw11.size)
    have hA := hN1.below hb13
    have hB := Box.new w16 #[.int .i64 u4.kind, .int .i64 u4.int, .string u4.text, .slice u4.p u4.n u4.c] 24
    have HS := hid (same_any u3 u4 _ _ _ (hj1.below hb13) (hi2.below hal2) ((ha1.symm (hj1.below hb13)).trans ha2))
    unfold VT.val at HS
    have a0 := hA.cell 0
    have a1 := hA.cell 1
    have a2 := hA.cell 2
    have a3 := hA.cell 3
    have b0 := hB.cell 0
    have b1 := hB.cell 1
    have b2 := hB.cell 2
    have b3 := hB.cell 3
    simp only [List.getElem?_toArray, List.getElem?_cons_zero, List.getElem?_cons_succ] at a0 a1 a2 a3 b0 b1 b2 b3
    clear hb12 hal2 hb13 hA hB hN1 hj1 hi2 ha1 ha2 HQ1 hbw11
    go_wp2_with fail
    refine HS.out.mono ?_
    rintro ex w17 ⟨rfl, hb14⟩
    have hbw17 := hbw13.trans (hb14.mono hbw13.size)
    clear HS a0 a1 a2 a3 b0 b1 b2 b3 hb14 hbw13
    go_wp2
    go_ret
    exact ⟨rfl, hbw17⟩
end Go.Proofs.YtdmhemofhmfkoabGreatDoor
