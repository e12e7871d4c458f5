import Derived.Test.YtehpdhhlggegdaaPack3
import Derived.Test.YtehpdhhlggegdaaSameV
import Derived.Test.YtehpdhhlggegdaaPack14
import Derived.Test.YtehpdhhlggegdaaPack29
import Derived.Deep.DeepCutAuto
import Derived.Deep.RegionHeld
namespace Go.Proofs.Ytehpdhhlggegdaa
open Go.RowKit
set_option maxRecDepth 8000
set_option maxHeartbeats 2000000 in
theorem bytes_walk (t : VT) (bp : Option Addr) (bn bc : Nat) (bf : Nat → Int) (w : World) (S : Nat → Prop) (hin : VT.In w S t) (hS : ∀ b, S b → b < w.heap.size) (hY : Byts w S bp bn bc bf) (hbn : bn ≤ 140737488351232) :
    Calls Try.prog 6 #[t.val, .slice bp bn bc] w fun e w' => e = .returned (.bool true) ∧ Below w.heap.size w w' := by
  have HI : Hid (VT.In w S t ∧ ∀ b, S b → b < w.heap.size) := ⟨hin, hS⟩
  obtain ⟨k, i, s, n, p, c, f, ht⟩ := hin.mk_
  have HY := hid hY
  clear hin hS hY
  simp only [VT.val, ht, VT.kind_mk, VT.int_mk, VT.text_mk, VT.p_mk, VT.n_mk, VT.c_mk]
  go_enter Try.func6, Try.ntmps6
  go_wp2_with fail
  have hW0 : Below w.heap.size w ((w.alloc (.cells #[.int .i64 k, .int .i64 i, .string s, .slice p n c] 24)).alloc (.cells #[.int .i64 k, .int .i64 i, .string s, .slice p n c] 24)) := ((Below.refl _ _).alloc (Nat.le_refl _) _).alloc (by simp) _
  have hV0 : Box ((w.alloc (.cells #[.int .i64 k, .int .i64 i, .string s, .slice p n c] 24)).alloc (.cells #[.int .i64 k, .int .i64 i, .string s, .slice p n c] 24)) w.heap.size #[.int .i64 k, .int .i64 i, .string s, .slice p n c] 24 := (Box.new w _ 24).below ((Below.refl _ _).alloc (Nat.le_refl _) _)
  have hV1 : Box ((w.alloc (.cells #[.int .i64 k, .int .i64 i, .string s, .slice p n c] 24)).alloc (.cells #[.int .i64 k, .int .i64 i, .string s, .slice p n c] 24)) (w.heap.size + 1) #[.int .i64 k, .int .i64 i, .string s, .slice p n c] 24 := by
    have h := Box.new (w.alloc (.cells #[.int .i64 k, .int .i64 i, .string s, .slice p n c] 24)) #[.int .i64 k, .int .i64 i, .string s, .slice p n c] 24
    rw [show (w.alloc (.cells #[.int .i64 k, .int .i64 i, .string s, .slice p n c] 24)).heap.size = w.heap.size + 1 by simp] at h
    exact h
  have HSz := sizes_any (one (w.heap.size + 1) t) ((w.alloc (.cells #[.int .i64 k, .int .i64 i, .string s, .slice p n c] 24)).alloc (.cells #[.int .i64 k, .int .i64 i, .string s, .slice p n c] 24)) (fun b => b < w.heap.size + 2)
    (one_in ((HI.out.1.below hW0).mono fun b hb _ => by have := HI.out.2 b hb; omega) (by rw [ht]; exact ⟨hV1.cell 0, hV1.cell 1, hV1.cell 2, hV1.cell 3⟩) (by omega) (by have := hV1.lt; exact this)) (fun b hb => by simpa using hb)
  rw [one_total] at HSz
  refine HSz.mono ?_
  rintro e w1 ⟨r, rfl, hr, hb1⟩
  have hbw1 : Below w.heap.size w w1 := hW0.trans (hb1.mono hW0.size)
  have hV := hV0.below hb1
  have hl1 := hV.lt
  clear HSz hV0 hV1 hb1 hW0
  cases r with
  | false =>
    go_wp2
    go_ret
    exact ⟨rfl, hbw1⟩
  | true =>
    have htot : t.total ≤ 9999 := by have := hr rfl; omega
    clear hr
    have x0 := hV.cell 0
    have x1 := hV.cell 1
    have x2 := hV.cell 2
    have x3 := hV.cell 3
    simp at x0 x1 x2 x3
    have HIn1 : Hid (VT.In w1 S t) := HI.out.1.kept hbw1.size fun b hb hl => hbw1.block b hl
    have HD := deep_any t w1 S HIn1.out (by omega)
    simp only [VT.val, ht, VT.kind_mk, VT.int_mk, VT.text_mk, VT.p_mk, VT.n_mk, VT.c_mk] at HD
    rw [← ht] at HD
    go_wp2_with fail
    refine HD.mono ?_
    rintro e w2 ⟨u, rfl, hal, hiu, hb2⟩
    have hbw2 : Below w.heap.size w w2 := hbw1.trans (hb2.mono hbw1.size)
    have hV2 := hV.below hb2
    clear x0 x1 x2 x3 HD hV
    have x0 := hV2.cell 0
    have x1 := hV2.cell 1
    have x2 := hV2.cell 2
    have x3 := hV2.cell 3
    simp at x0 x1 x2 x3
    have hl2 := hV2.lt
    go_wp2_with fail
    have hbk : Below w2.heap.size w2 ((w2.alloc (.cells #[.int .i64 u.kind, .int .i64 u.int, .string u.text, .slice u.p u.n u.c] 24)).alloc (.cells #[.slice none 0 0, .slice none 0 0, .slice none 0 0, .slice none 0 0, .slice none 0 0, .slice none 0 0, .slice none 0 0, .slice none 0 0, .slice none 0 0, .slice none 0 0] 37)) := ((Below.refl _ _).alloc (Nat.le_refl _) _).alloc (by simp) _
    have hRm : Rm w.heap.size ((w2.alloc (.cells #[.int .i64 u.kind, .int .i64 u.int, .string u.text, .slice u.p u.n u.c] 24)).alloc (.cells #[.slice none 0 0, .slice none 0 0, .slice none 0 0, .slice none 0 0, .slice none 0 0, .slice none 0 0, .slice none 0 0, .slice none 0 0, .slice none 0 0, .slice none 0 0] 37)) (newRoom (w2.heap.size + 1)) := by
      have h := newRoom_rm (w2.alloc (.cells #[.int .i64 u.kind, .int .i64 u.int, .string u.text, .slice u.p u.n u.c] 24)) w.heap.size (by simp; omega)
      rw [show (w2.alloc (.cells #[.int .i64 u.kind, .int .i64 u.int, .string u.text, .slice u.p u.n u.c] 24)).heap.size = w2.heap.size + 1 by simp] at h
      exact h
    have hKp : Box ((w2.alloc (.cells #[.int .i64 u.kind, .int .i64 u.int, .string u.text, .slice u.p u.n u.c] 24)).alloc (.cells #[.slice none 0 0, .slice none 0 0, .slice none 0 0, .slice none 0 0, .slice none 0 0, .slice none 0 0, .slice none 0 0, .slice none 0 0, .slice none 0 0, .slice none 0 0] 37)) w2.heap.size #[.int .i64 u.kind, .int .i64 u.int, .string u.text, .slice u.p u.n u.c] 24 := (Box.new w2 _ 24).below ((Below.refl _ _).alloc (Nat.le_refl _) _)
    have hbW := hbw2.trans (hbk.mono hbw2.size)
    have hVW := hV2.below hbk
    have hiW := (hiu.mono fun b hb hl => (show w1.heap.size ≤ b ∧ b < w2.heap.size from ⟨hb, hl⟩)).below hbk
    have htW : VT.In ((w2.alloc (.cells #[.int .i64 u.kind, .int .i64 u.int, .string u.text, .slice u.p u.n u.c] 24)).alloc (.cells #[.slice none 0 0, .slice none 0 0, .slice none 0 0, .slice none 0 0, .slice none 0 0, .slice none 0 0, .slice none 0 0, .slice none 0 0, .slice none 0 0, .slice none 0 0] 37)) S t := HI.out.1.kept hbW.size fun b _ hl => hbW.block b hl
    generalize hW3 : (w2.alloc (.cells #[.int .i64 u.kind, .int .i64 u.int, .string u.text, .slice u.p u.n u.c] 24)).alloc (.cells #[.slice none 0 0, .slice none 0 0, .slice none 0 0, .slice none 0 0, .slice none 0 0, .slice none 0 0, .slice none 0 0, .slice none 0 0, .slice none 0 0, .slice none 0 0] 37) = W3 at *
    have hs3 : w2.heap.size + 2 ≤ W3.heap.size := by rw [← hW3]; simp
    have HV := value_any t w.heap.size W3 (newRoom (w2.heap.size + 1)) S hRm (by omega) htW (fun b hb hh => by
      have := HI.out.2 b hb
      rcases hh with h | ⟨_, _, h⟩
      · have h2 : b = w2.heap.size + 1 := h
        omega
      · cases h) (fun q _ => by show 0 + 1 + t.total ≤ 100000; omega)
    simp only [VT.val, ht, VT.kind_mk, VT.int_mk, VT.text_mk, VT.p_mk, VT.n_mk, VT.c_mk] at HV
    rw [← ht] at HV
    refine HV.mono ?_
    intro e w4 hP
    obtain ⟨x, R1, rfl, hx⟩ := hP
    have hnot : ∀ b, b ≤ w2.heap.size → ¬ (newRoom (w2.heap.size + 1)).hot b := fun b hb hh => by
      rcases hh with h | ⟨_, _, h⟩
      · have h2 : b = w2.heap.size + 1 := h
        omega
      · cases h
    have hV4 := hVW.but hx.but (hnot _ (by omega))
    have hK4 := hKp.but hx.but (hnot _ (Nat.le_refl _))
    have hi4 := hiW.but hx.but (fun b hb _ => hnot b (by omega))
    have hb4 : Below w.heap.size w w4 := hbW.trans (hx.but.below (by omega) (fun b hb => hnot b (by omega)))
    have x0 := hV4.cell 0
    have x1 := hV4.cell 1
    have x2 := hV4.cell 2
    have x3 := hV4.cell 3
    have g0 := hV4.frozen 0
    have g1 := hV4.frozen 1
    have g2 := hV4.frozen 2
    have g3 := hV4.frozen 3
    have z4 := hV4.lt
    simp at x0 x1 x2 x3
    have HX : Hid (Roomed w.heap.size W3 (newRoom (w2.heap.size + 1)) t x w4 R1) := hx
    clear HV hV2 hVW hKp hiW htW hRm hbk hW3 hx
    simp only [VT.val]
    go_wp2_with fail
    have hk5 : But (fun b => b = w.heap.size) w4 ((((w4.setCell ⟨w.heap.size, 0, none⟩ (.int .i64 x.kind)).setCell ⟨w.heap.size, 1, none⟩ (.int .i64 x.int)).setCell ⟨w.heap.size, 2, none⟩ (.string x.text)).setCell ⟨w.heap.size, 3, none⟩ (.slice x.p x.n x.c)) := ((((But.refl (fun b => b = w.heap.size) w4).setCell (p := ⟨w.heap.size, 0, none⟩) (fun _ => rfl) _).setCell (p := ⟨w.heap.size, 1, none⟩) (fun _ => rfl) _).setCell (p := ⟨w.heap.size, 2, none⟩) (fun _ => rfl) _).setCell (p := ⟨w.heap.size, 3, none⟩) (fun _ => rfl) _
    have hV5 : Box ((((w4.setCell ⟨w.heap.size, 0, none⟩ (.int .i64 x.kind)).setCell ⟨w.heap.size, 1, none⟩ (.int .i64 x.int)).setCell ⟨w.heap.size, 2, none⟩ (.string x.text)).setCell ⟨w.heap.size, 3, none⟩ (.slice x.p x.n x.c)) w.heap.size #[.int .i64 x.kind, .int .i64 x.int, .string x.text, .slice x.p x.n x.c] 24 := by
      have h := (((hV4.set 0 (.int .i64 x.kind)).set 1 (.int .i64 x.int)).set 2 (.string x.text)).set 3 (.slice x.p x.n x.c)
      simpa using h
    generalize (((w4.setCell ⟨w.heap.size, 0, none⟩ (.int .i64 x.kind)).setCell ⟨w.heap.size, 1, none⟩ (.int .i64 x.int)).setCell ⟨w.heap.size, 2, none⟩ (.string x.text)).setCell ⟨w.heap.size, 3, none⟩ (.slice x.p x.n x.c) = W5 at *
    have hx := HX.out
    have hK5 := hK4.but hk5 (by omega)
    have hi5 := hi4.but hk5 (fun b hb _ => by have := hb.1; omega)
    have hx5 : VT.In W5 (fun b => W3.heap.size ≤ b ∧ ¬ R1.hot b) x := hx.in_.but hk5 (fun b hb _ => by have := hb.1; omega)
    have hR5 : Rm w.heap.size W5 R1 := hx.rm.keep hk5.size fun b hf => hk5.block b (hx.rm.footlt hf) fun e => by
      rcases hx.next.foot b hf with h | h
      · rcases h with h | ⟨_, _, y, hy, _⟩
        · exact hnot b (by omega) h
        · cases hy
      · omega
    have hb5 : Below w.heap.size w W5 := hb4.trans (hk5.below (by omega) (fun b hb => by omega))
    have HPl : Hid (∀ q, q ≠ 2 → q ≠ 3 → R1.F q = .slice none 0 0 ∧ R1.L q = []) := fun q h2 h3 => hx.next.same q h2 h3
    have HNx := hid hx.next
    have HCn := hid hx.cnt
    have hax : VT.Alike t x := hx.alike
    have hrb1 : R1.rb = w2.heap.size + 1 := hx.next.rb
    clear hV4 hK4 hi4 HX hx x0 x1 x2 x3 g0 g1 g2 g3
    have hSlt : ∀ b, S b → b < w.heap.size := HI.out.2
    have HC := encode_any x W5 (fun b => b < W5.heap.size) (hx5.mono fun b _ hl => hl) (fun b hb => hb)
    rw [← encC_alike hax] at HC
    unfold VT.val at HC
    refine HC.mono ?_
    intro e w6 hP6
    obtain ⟨v6, rfl, hL6⟩ := hP6
    obtain ⟨g6, c6, hv6, _⟩ := owns_some hL6.own (encB_pos _)
    subst hv6
    have hb6 : Below W5.heap.size W5 w6 := hL6.bel
    have hV6 := hV5.below hb6
    have hK6 := hK5.below hb6
    have hi6 := hi5.below hb6
    have hx6 := hx5.below hb6
    have hR6 := hR5.below hb6
    have hbw6 : Below w.heap.size w w6 := hb5.trans (hb6.mono hb5.size)
    have hOx := hL6.own
    clear HC hV5 hK5 hi5 hx5 hR5 hb5 hL6 hk5
    have hs56 := hb6.size
    have HE : Hid (∀ W, Below w6.heap.size w6 W → Calls Try.prog 29 #[.agg #[.int .i64 u.kind, .int .i64 u.int, .string u.text, .slice u.p u.n u.c]] W fun e w' => ∃ v', e = .returned v' ∧ OwnBy W.heap.size w' v' (encB (cleanT t)) ∧ Below W.heap.size W w') := fun W hW => by
      have h := refEncode_any u W _ (hi6.below hW)
      rw [← encC_alike hal] at h
      exact h
    have HS : Hid (∀ W, Below w6.heap.size w6 W → Calls Try.prog 12 #[.agg #[.int .i64 x.kind, .int .i64 x.int, .string x.text, .slice x.p x.n x.c], .agg #[.int .i64 u.kind, .int .i64 u.int, .string u.text, .slice u.p u.n u.c]] W fun e w' => e = .returned (.bool true) ∧ Below W.heap.size W w') := fun W hW =>
      same_any x u W _ _ (hx6.below hW) (hi6.below hW) ((hax.symm hx6).trans hal)
    have HX6 := hid (And.intro hV6 (And.intro hK6 (And.intro hi6 (And.intro hx6 (And.intro hR6 (And.intro hbw6 hOx))))))
    have k0 := hK6.cell 0
    have k1 := hK6.cell 1
    have k2 := hK6.cell 2
    have k3 := hK6.cell 3
    have x0 := hV6.cell 0
    have x1 := hV6.cell 1
    have x2 := hV6.cell 2
    have x3 := hV6.cell 3
    simp at k0 k1 k2 k3 x0 x1 x2 x3
    have hcv0 : (convert 62 9 (.slice (some ⟨g6, 0, none⟩) (encB (cleanT t)).length c6)).run Try.prog w6.drew = .ok (.string (strOf (encB (cleanT t)))) w6.drew := conv_any (ownsRow_keep hOx fun k hk hl => rfl)
    clear hV6 hK6 hi6 hx6 hR6 hbw6 hb6
    have hZ := encB_pos (cleanT t)
    generalize encB (cleanT t) = Z at *
    go_wp2_with fail
    go_cut [39] (fun s wx => s = .bool false ∧ Below w6.heap.size w6 wx)
    case first =>
      go_region_with (first
        | (go_at_call 29; refine (HE.out _ (Below.refl _ _).drew).mono ?_; rintro e w7 ⟨v7, rfl, hO7, hb7⟩; obtain ⟨g7, c7, rfl, _⟩ := owns_some hO7 hZ
           have hcv7 := conv_any hO7
           have hb67 : Below w6.heap.size w6 w7 := (Below.refl w6.heap.size w6).drew.trans hb7
           have hcx7 := conv_any (show OwnBy W5.heap.size w7 (.slice (some ⟨g6, 0, none⟩) Z.length c6) Z from ownsRow_keep HX6.out.2.2.2.2.2.2 fun k _ hl => hb67.block k hl)
           have y0 := (HX6.out.1.below hb67).cell 0
           have y1 := (HX6.out.1.below hb67).cell 1
           have y2 := (HX6.out.1.below hb67).cell 2
           have y3 := (HX6.out.1.below hb67).cell 3
           have z0 := (HX6.out.2.1.below hb67).cell 0
           have z1 := (HX6.out.2.1.below hb67).cell 1
           have z2 := (HX6.out.2.1.below hb67).cell 2
           have z3 := (HX6.out.2.1.below hb67).cell 3
           simp at y0 y1 y2 y3 z0 z1 z2 z3)
        | (go_at_call 12; refine (HS.out _ hb67).mono ?_; rintro e w8 ⟨rfl, hb8⟩; have hb68 := hb67.trans (hb8.mono hb67.size)))
      all_goals go_wp2_with fail
      all_goals go_meet
      all_goals exact ⟨rfl, hb68⟩
    case rest =>
      obtain ⟨rfl, hb7⟩ := hcut
      clear hcv0 k0 k1 k2 k3 x0 x1 x2 x3 HE HS
      obtain ⟨_, _, _, _, hR6, hbw6, _⟩ := HX6.out
      have hRc := hR6.below hb7
      have hbwc : Below w.heap.size w wc := hbw6.trans (hb7.mono hbw6.size)
      have hYc : Byts wc S bp bn bc bf := HY.out.kept hbwc.size fun b hb hl => hbwc.block b hl
      have hcv := byts_conv hYc
      have hnn := hYc.nn
      have HF := hid hYc.fit
      have HB := byts_of bp bn bc bf w.heap.size wc R1 S hRc hbwc.size hYc hbn (fun q hq => by
        have h1 := HCn.out q hq
        have h2 : ((newRoom (w2.heap.size + 1)).L q).length = 0 := rfl
        omega)
      rw [hrb1] at HB
      clear HX6 hR6 hbw6 hb7 hRc
      go_wp2_with fail
      refine HB.mono ?_
      intro e w8 hP8
      obtain ⟨p8, c8, R8, rfl, hQ8⟩ := hP8
      have hs78 := hQ8.but.size
      have hbw8 : Below w.heap.size w w8 := hbwc.trans (hQ8.but.below hbwc.size (fun b hb hot => by
        rcases HNx.out.hot b hot with h1 | h1
        · exact hnot b (by omega) h1
        · omega))
      have hY8 := hQ8.ints.mono (S' := fun b => b < w8.heap.size) fun b _ hl => hl
      have hR8 := hQ8.rm
      have hrb8 : R8.rb = w2.heap.size + 1 := hQ8.rb.trans hrb1
      have HPl8 : Hid R8.plainY := fun q _ h2 h3 h9 => (hQ8.same q h9).1.trans (HPl.out q h2 h3).1
      have HC := decode_any p8 bn c8 bf (fun b => b < w8.heap.size) w8 hY8 (fun b hb => hb)
      clear HB hQ8 hYc hcv hbwc
      go_wp2_with fail
      refine HC.mono ?_
      intro e w9 hP9
      obtain ⟨u1, rfl, hau1, hiu1, hb9⟩ := dec_both hP9
      have hbw9 : Below w.heap.size w w9 := hbw8.trans (hb9.mono hbw8.size)
      have hR9 := hR8.below hb9
      have hY9 := hY8.kept hb9.size fun b hb hl => hb9.block b hb
      clear HC hP9
      have hal9 : Below w9.heap.size w9 (w9.alloc (.cells #[.int .i64 u1.kind, .int .i64 u1.int, .string u1.text, .slice u1.p u1.n u1.c] 24)) := (Below.refl _ _).alloc (Nat.le_refl _) _
      have hB9 := Box.new w9 #[.int .i64 u1.kind, .int .i64 u1.int, .string u1.text, .slice u1.p u1.n u1.c] 24
      obtain ⟨c10, w10, hcv10, hY10, hb10⟩ := byts_new (w := w9.alloc (.cells #[.int .i64 u1.kind, .int .i64 u1.int, .string u1.text, .slice u1.p u1.n u1.c] 24)) HF.out hnn
      have hs9 : (w9.alloc (.cells #[.int .i64 u1.kind, .int .i64 u1.int, .string u1.text, .slice u1.p u1.n u1.c] 24)).heap.size = w9.heap.size + 1 := by simp
      have hb910 : Below w9.heap.size w9 w10 := hal9.trans (hb10.mono hal9.size)
      have hbw10 : Below w.heap.size w w10 := hbw9.trans (hb910.mono hbw9.size)
      have hB10 := hB9.below hb10
      have hiu10 := hiu1.below hb910
      have hR10 := hR9.below hb910
      have hY10b := hY9.kept hb910.size fun b hb hl => hb910.block b (Nat.lt_of_lt_of_le hb hb9.size)
      rw [hs9] at hY10
      have HC := refDecode_any (some ⟨w9.heap.size + 1, 0, none⟩) bn c10 bf _ w10 hY10 (fun b hb => hb.2)
      clear hal9 hB9 hR9 hiu1 hb10 hbw9 hs9 hY9 hY8 hb9 hR8 hbw8
      go_wp2_with fail
      refine HC.mono ?_
      intro e w11 hP11
      obtain ⟨u2, rfl, hau2, hiu2, hb11⟩ := dec_both hP11
      have hal11 : Below w11.heap.size w11 (w11.alloc (.cells #[.int .i64 u2.kind, .int .i64 u2.int, .string u2.text, .slice u2.p u2.n u2.c] 24)) := (Below.refl _ _).alloc (Nat.le_refl _) _
      have hB12 := Box.new w11 #[.int .i64 u2.kind, .int .i64 u2.int, .string u2.text, .slice u2.p u2.n u2.c] 24
      have hb112 : Below w10.heap.size w10 (w11.alloc (.cells #[.int .i64 u2.kind, .int .i64 u2.int, .string u2.text, .slice u2.p u2.n u2.c] 24)) := hb11.trans (hal11.mono hb11.size)
      have hB11 := hB10.below hb112
      have hi1 := hiu10.below hb112
      have hi2 := hiu2.below hal11
      have hR12 := hR10.below hb112
      have hY12 := hY10b.kept hb112.size fun b hb hl => hb112.block b hl
      have hbw12 := hbw10.trans (hb112.mono hbw10.size)
      clear HC hP11 hcv10 hY10 hB10 hiu10 hR10 hY10b hbw10 hb112 hal11 hiu2 hb11 hb910
      have k0 := hB11.cell 0
      have k1 := hB11.cell 1
      have k2 := hB11.cell 2
      have k3 := hB11.cell 3
      have y0 := hB12.cell 0
      have y1 := hB12.cell 1
      have y2 := hB12.cell 2
      have y3 := hB12.cell 3
      simp at k0 k1 k2 k3 y0 y1 y2 y3
      have HC := same_any u1 u2 _ _ _ hi1 hi2 ((hau1.symm hi1).trans hau2)
      unfold VT.val at HC
      go_wp2_with fail
      refine HC.mono ?_
      rintro e w13 ⟨rfl, hb13⟩
      have hR13 := hR12.below hb13
      have hY13 := hY12.kept hb13.size fun b hb hl => hb13.block b hl
      have hbw13 := hbw12.trans (hb13.mono hbw12.size)
      have hcv13 := byts_conv hY13
      clear HC hB11 hB12 hi1 hi2 hR12 hY12 hbw12 hb13 k0 k1 k2 k3 y0 y1 y2 y3
      have HC := holdY_any w.heap.size w13 R8 hR13 HPl8.out
      rw [hrb8] at HC
      go_wp2_with fail
      refine HC.mono ?_
      rintro e w14 ⟨rfl, hb14⟩
      have hbw14 : Below w.heap.size w w14 := hbw13.trans (hb14.mono hbw13.size)
      clear HC hR13 hY13 hbw13 hb14 hcv13
      go_wp2
      go_ret
      exact ⟨rfl, hbw14⟩
end Go.Proofs.Ytehpdhhlggegdaa
