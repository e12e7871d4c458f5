import Derived.Test.YtdmhemofhmfkoabGreatDoorRTxL
import Derived.Test.YtdmhemofhmfkoabGreatDoorRTxB2
import Derived.Test.YtdmhemofhmfkoabGreatDoorPack23
import Derived.Test.YtdmhemofhmfkoabGreatDoorPack35
namespace Go.Proofs.YtdmhemofhmfkoabGreatDoor
open Go.RowKit
set_option maxRecDepth 8000
def mL (rb : Nat) (w : World) : Nat := if ((w.cell? ⟨rb, 4, none⟩).map intOf).getD 1 = 0 then 13 - ((w.cell? ⟨rb, 2, none⟩).map sliLen).getD 0 else 0
theorem RM.mea {w0 : World} {rb : Nat} {w : World} {s : ByteArray} {a e : Nat} {v5 v6 : Value} {L : List PT} {O : List Nat} (h : RM w0 rb w s a v5 v6 L O e) : mL rb w = if e = 0 then 13 - L.length else 0 := by
  obtain ⟨p, c, rfl⟩ := ownsRow_slice h.own
  have x2 := h.box.cell 2
  have x4 := h.box.cell 4
  simp at x2 x4
  unfold mL
  rw [x2, x4]
  show (if (e : Int) = 0 then 13 - L.length else 0) = _
  by_cases he : e = 0
  · rw [if_pos he, if_pos (show (e : Int) = 0 by omega)]
  · rw [if_neg he, if_neg (show ¬ (e : Int) = 0 by omega)]
/-- the reader between two rounds -/
def LInv (w0 : World) (rb : Nat) (s : ByteArray) (T : TR) (x : Value) (w : World) : Prop :=
  (x = .bool true ∧ ∃ fr a, FrOk fr ∧ T = openS s fr a (frP fr).length ∧ RR w0 rb w s a (frP fr) (frO fr) 0)
  ∨ (x = .bool true ∧ ∃ p e L O, T = .error (p, e) ∧ e ≠ 0 ∧ RR w0 rb w s p L O e)
  ∨ (x = .bool false ∧ ∃ v a q, T = .ok (v, a, q) ∧ Whole v ∧ (flatP v).length = q ∧ RR w0 rb w s a (flatP v) [] 0)
theorem LInv.beh {w0 : World} {rb : Nat} {s : ByteArray} {T : TR} {q : Nat} {b : Bool} {w : World} (h : BehPost w0 rb s T q (.returned (.bool b)) w) : LInv w0 rb s T (.bool b) w := by
  rcases h with ⟨h1, v, a, h2, h3, h4, h5⟩ | ⟨h1, p, e, L, O, h2, h3, h4⟩ | ⟨h1, fr, a, h2, h3, h4, h5⟩
  · cases h1; exact .inr (.inr ⟨rfl, v, a, q, h2, h3, h4, h5⟩)
  · cases h1; exact .inr (.inl ⟨rfl, p, e, L, O, h2, h3, h4⟩)
  · cases h1; exact .inl ⟨rfl, fr, a, h2, by rw [h4]; exact h3, h5⟩
/-- behind a round fewer parts may come -/
theorem beh_mea {w0 : World} {rb : Nat} {s : ByteArray} {T : TR} {q : Nat} {x : Ending} {w : World} (h : BehPost w0 rb s T q x w) (n : Nat) (hn : n < q) (h12 : n ≤ 12) : mL rb w < 13 - n := by
  rcases h with ⟨h1, v, a, h2, h3, h4, v5, v6, h5⟩ | ⟨h1, p, e, L, O, h2, h3, v5, v6, h4⟩ | ⟨h1, fr, a, h2, h3, h4, v5, v6, h5⟩
  · rw [h5.mea, if_pos rfl]; omega
  · rw [h4.mea, if_neg h3]; omega
  · rw [h5.mea, if_pos rfl]; omega
theorem beh_bool {w0 : World} {rb : Nat} {s : ByteArray} {T : TR} {q : Nat} {x : Ending} {w : World} (h : BehPost w0 rb s T q x w) : ∃ b, x = .returned (.bool b) := by
  rcases h with ⟨h1, _⟩ | ⟨h1, _⟩ | ⟨h1, _⟩
  · exact ⟨_, h1⟩
  · exact ⟨_, h1⟩
  · exact ⟨_, h1⟩
set_option maxHeartbeats 8000000 in
theorem refLead_any (s : ByteArray) (w : World) (hs : s.size ≤ 140737488355328) :
    Calls Tryz.prog 26 #[.string s] w fun x w' => LeadPost w (parS s 3 0 0 0) x w' := by
  have hs' : s.size ≤ 140737488355328 := by omega
  obtain ⟨T, hT⟩ : ∃ T, T = parS s 3 0 0 0 := ⟨_, rfl⟩
  rw [← hT]
  have HT0 : Hid (T = openS s [] 0 0) := by
    unfold Hid openS
    rw [hT]
    show _ = behS s [] (parS s 3 0 0 0)
    cases parS s 3 0 0 0 with
    | error e => rfl
    | ok t => rfl
  clear hT
  obtain ⟨w1, hw1⟩ : ∃ w1, w1 = w.alloc (.cells #[.int .i64 0, .int .i64 0, .string ⟨#[]⟩, .slice none 0 0] 24) := ⟨_, rfl⟩
  have hZ1 : Box w1 w.heap.size #[.int .i64 0, .int .i64 0, .string ⟨#[]⟩, .slice none 0 0] 24 := by rw [hw1]; exact Box.new _ _ _
  have hb01 : Below w.heap.size w w1 := by rw [hw1]; exact (Below.refl _ _).alloc (Nat.le_refl _) _
  have hs1 : w1.heap.size = w.heap.size + 1 := by rw [hw1]; simp
  have HZ1 := hid hZ1
  have HB1 := hid hb01
  have HI0 : Hid (LInv w1 (w.heap.size + 1) s T (.bool true) (w1.alloc (.cells #[.string s, .int .i64 0, .slice none 0 0, .slice none 0 0, .int .i64 0] 89))) := by
    refine .inl ⟨rfl, [], 0, FrOk.nil, HT0.out, .slice none 0 0, .slice none 0 0, World.ownsRow_nil _ _ _ _, World.ownsRow_nil _ _ _ _, fun g h => (by cases h), ?_, ?_, fun q h => (by cases h), by simp [frP], by simp [frO], Nat.zero_le _⟩
    · have := Box.new w1 #[.string s, .int .i64 0, .slice none 0 0, .slice none 0 0, .int .i64 0] 89
      rw [hs1] at this
      exact this
    · exact (Below.refl _ _).alloc (by omega) _
  rw [hw1] at HI0
  clear hZ1 hb01 HT0
  go_enter Tryz.func26, Tryz.ntmps26
  go_wp2_with fail
  rw [← hw1] at HI0 ⊢
  go_loopw [6] (fun x wr => LInv w1 (w.heap.size + 1) s T x wr) (fun _ wr => mL (w.heap.size + 1) wr)
  case atStart => exact HI0.out
  case round =>
    clear HI0 hw1
    rcases hrel with ⟨rfl, fr, a, hf, hT, v5, v6, h⟩ | ⟨rfl, p, e, L, O, hT, he, v5, v6, h⟩ | ⟨rfl, v, a, q, hT, hv, hq, v5, v6, h⟩
    · have x3 := h.box.cell 3
      have x4 := h.box.cell 4
      obtain ⟨p6, c6, rfl⟩ := ownsRow_slice h.stk
      simp at x3 x4
      have hL12 := h.len
      have hmea : mL (w.heap.size + 1) wr = 13 - (frP fr).length := by rw [h.mea, if_pos rfl]
      have HMe := hid hmea
      have HBe := hid (refBegin_any w1 (w.heap.size + 1) s fr a (frP fr).length wr hf rfl ⟨_, _, h⟩ hs)
      have hfl : (frO fr).length = fr.length := frO_len fr
      have HFl := hid hfl
      have HF := hid hf
      have HT := hid hT
      have HL12 := hid hL12
      clear h hmea hf hT hL12 hfl
      go_wp2_with fail
      refine HBe.out.mono ?_
      intro ex w2 hP
      obtain ⟨rfl, hP⟩ := hP
      clear HBe x3 x4
      rcases hP with ⟨p, e, L, O, hE, he, u5, u6, h2⟩ | ⟨v, a', hv, hE, hl1, u5, u6, h2⟩ | ⟨h91, hf3, hq11, u5, u6, h2⟩
      · have y4 := h2.box.cell 4
        simp at y4
        have he' : ¬ (e : Int) = 0 := by omega
        have he2 : ((e : Int) == 0) = false := by simp; omega
        have HI : Hid (LInv w1 (w.heap.size + 1) s T (.bool true) w2) := .inr (.inl ⟨rfl, p, e, L, O, by rw [HT.out]; exact hE, he, _, _, h2⟩)
        have Hm2 : Hid (mL (w.heap.size + 1) w2 < mL (w.heap.size + 1) wr) := by unfold Hid; rw [HMe.out, h2.mea, if_neg he]; have := HL12.out; omega
        clear h2 hE
        go_wp2
        first
          | exact ⟨HI.out, Hm2.out⟩
          | (go_roundw
             case rel => exact HI.out
             case measure => exact Hm2.out)
      · obtain ⟨p7, c7, rfl⟩ := ownsRow_slice h2.stk
        have y3 := h2.box.cell 3
        have y4 := h2.box.cell 4
        simp at y3 y4
        have hq2 : (frP fr ++ flatP v).length = (frP fr).length + 1 := by rw [List.length_append, hl1]
        have HBh := hid (refBehind_any w1 (w.heap.size + 1) s fr v a' ((frP fr).length + 1) w2 HF.out hv hq2 ⟨_, _, h2⟩ hs')
        rw [← hE, ← HT.out] at HBh
        clear h2 hE hq2
        go_wp2_with fail
        refine HBh.out.mono ?_
        intro ex w3 hP3
        obtain ⟨b, rfl⟩ := beh_bool hP3
        have HI := hid (LInv.beh hP3)
        have Hm2 : Hid (mL (w.heap.size + 1) w3 < mL (w.heap.size + 1) wr) := by unfold Hid; rw [HMe.out]; exact beh_mea hP3 _ (by omega) HL12.out
        clear hP3 HBh
        go_wp2
        first
          | exact ⟨HI.out, Hm2.out⟩
          | (go_roundw
             case rel => exact HI.out
             case measure => exact Hm2.out)
      · obtain ⟨p7, c7, rfl⟩ := ownsRow_slice h2.stk
        have y3 := h2.box.cell 3
        have y4 := h2.box.cell 4
        simp at y3 y4
        have HIn := hid (refInside_any w1 (w.heap.size + 1) s (a + 1) (frP fr) (frO fr) w2 ⟨_, _, h2⟩ hs')
        have HOp := hid (open_list (fr := fr) h91 hq11 hf3)
        have hgt : ((frO fr).length : Int) < ((frO fr).length : Int) + 1 := by omega
        clear h2
        go_wp2_with fail
        refine HIn.out.mono ?_
        intro ex w3 hP3
        obtain ⟨hP4, hP5⟩ := hP3
        clear HIn
        by_cases h93 : pk s (skS s (a + 1)) = 93
        · obtain ⟨rfl, u7, u8, h3⟩ := hP4 h93
          clear hP4 hP5
          have z4 := h3.box.cell 4
          simp at z4
          have hq2 : (frP fr ++ flatP (mkL [])).length = (frP fr).length + 1 := by rw [List.length_append]; rfl
          have h3' : RM w1 (w.heap.size + 1) w3 s (skS s (a + 1) + 1) u7 u8 (frP fr ++ flatP (mkL [])) (frO fr) 0 := by rw [flatP_mkL]; exact h3
          have HBh := hid (refBehind_any w1 (w.heap.size + 1) s fr (mkL []) (skS s (a + 1) + 1) ((frP fr).length + 1) w3 HF.out (whole_mkL (fun v h => by cases h)) hq2 ⟨_, _, h3'⟩ hs')
          have hE : openS s fr a (frP fr).length = contS s fr (mkL []) (skS s (a + 1) + 1) ((frP fr).length + 1) := by rw [HOp.out, if_pos h93]
          rw [← hE, ← HT.out] at HBh
          clear h3 h3' hE hq2
          go_wp2_with fail
          refine HBh.out.mono ?_
          intro ex w4 hP6
          obtain ⟨b, rfl⟩ := beh_bool hP6
          have HI := hid (LInv.beh hP6)
          have Hm2 : Hid (mL (w.heap.size + 1) w4 < mL (w.heap.size + 1) wr) := by unfold Hid; rw [HMe.out]; exact beh_mea hP6 _ (by omega) HL12.out
          clear hP6 HBh
          go_wp2
          first
            | exact ⟨HI.out, Hm2.out⟩
            | (go_roundw
               case rel => exact HI.out
               case measure => exact Hm2.out)
        · obtain ⟨rfl, u7, u8, h3⟩ := hP5 h93
          clear hP4 hP5
          have z4 := h3.box.cell 4
          simp at z4
          have hpl : (frP ([] :: fr)) = frP fr ++ [hdr 1] := rfl
          have HI : Hid (LInv w1 (w.heap.size + 1) s T (.bool true) w3) := by
            refine .inl ⟨rfl, [] :: fr, skS s (a + 1), HF.out.push hf3, ?_, u7, u8, h3⟩
            rw [HT.out, HOp.out, if_neg h93, hpl]
            simp
          have Hm2 : Hid (mL (w.heap.size + 1) w3 < mL (w.heap.size + 1) wr) := by unfold Hid; rw [HMe.out, h3.mea, if_pos rfl]; simp; omega
          clear h3
          go_wp2
          first
            | exact ⟨HI.out, Hm2.out⟩
            | (go_roundw
               case rel => exact HI.out
               case measure => exact Hm2.out)
    · have hZ : Box wr w.heap.size #[.int .i64 0, .int .i64 0, .string ⟨#[]⟩, .slice none 0 0] 24 := HZ1.out.kept (h.below.block w.heap.size (by omega))
      have hbw : Below w.heap.size w wr := HB1.out.trans (h.below.mono (by omega))
      have x1 := h.box.cell 1
      have x4 := h.box.cell 4
      have b0 := hZ.cell 0
      have b1 := hZ.cell 1
      have b2 := hZ.cell 2
      have b3 := hZ.cell 3
      have g0 := hZ.frozen 0
      have g1 := hZ.frozen 1
      have g2 := hZ.frozen 2
      have g3 := hZ.frozen 3
      simp at x1 x4 b0 b1 b2 b3
      have he' : ¬ (e : Int) = 0 := by omega
      have HZ := hid hZ
      have HBw := hid hbw
      have hrb := h.box.lt
      clear hZ hbw h
      go_wp2_with fail
      go_region
      all_goals
        go_wp2
        have hx5 := setV_box HZ.out (.int .i64 0) (.int .i64 0) (.string ⟨#[]⟩) (.slice none 0 0)
        have hk5 : But (fun x => x = w.heap.size) wr ((((wr.setCell ⟨w.heap.size, 0, none⟩ (.int .i64 0)).setCell ⟨w.heap.size, 1, none⟩ (.int .i64 0)).setCell ⟨w.heap.size, 2, none⟩ (.string ⟨#[]⟩)).setCell ⟨w.heap.size, 3, none⟩ (.slice none 0 0)) :=
          ((((But.one _ w.heap.size).setAt 0 _).setAt 1 _).setAt 2 _).setAt 3 _
        have hb7 := (HBw.out.trans (hk5.below (by omega) (fun x hx => by omega))).drew
        have hx6 := hx5.below (Below.refl _ _).drew
        generalize ((((wr.setCell ⟨w.heap.size, 0, none⟩ (.int .i64 0)).setCell ⟨w.heap.size, 1, none⟩ (.int .i64 0)).setCell ⟨w.heap.size, 2, none⟩ (.string ⟨#[]⟩)).setCell ⟨w.heap.size, 3, none⟩ (.slice none 0 0)).drew = w6 at hx6 hb7 ⊢
        clear b0 b1 b2 b3
        have b0 := hx6.cell 0
        have b1 := hx6.cell 1
        have b2 := hx6.cell 2
        have b3 := hx6.cell 3
        simp at b0 b1 b2 b3
        refine bodyPost_ret (v := .tuple #[.agg #[.int .i64 0, .int .i64 0, .string ⟨#[]⟩, .slice none 0 0], .int .i64 (p : Int), .int .i64 (e : Int)]) (by simp [results, Tryz.results26, go_sem, b0, b1, b2, b3]) rfl ?_
        exact ⟨fun t a q h => (by rw [hT] at h; cases h), fun p2 e2 h => (by rw [hT] at h; cases h; exact ⟨rfl, hb7⟩)⟩
    · have hZ : Box wr w.heap.size #[.int .i64 0, .int .i64 0, .string ⟨#[]⟩, .slice none 0 0] 24 := HZ1.out.kept (h.below.block w.heap.size (by omega))
      have hbw : Below w.heap.size w wr := HB1.out.trans (h.below.mono (by omega))
      subst hq
      obtain ⟨g5, c5, rfl, hpts, hfz, hg5⟩ := h.pts (flatP_some v)
      have HM := hid h
      have HC := hid (build_any v wr g5 0 c5 0 (flatP v) [] hv hpts h.ok h.len (by simp))
      have x2 := h.box.cell 2
      have x4 := h.box.cell 4
      simp at x2 x4
      have HZ := hid hZ
      have HBw := hid hbw
      have hrb := h.box.lt
      clear hZ hbw h hpts hfz
      go_wp2_with fail
      refine HC.out.mono ?_
      rintro e w9 ⟨u, rfl, hau, hin, hb9⟩
      have HU := hid (And.intro hau hin)
      have hZ9 := HZ.out.below hb9
      have hM9 := HM.out.kept hb9
      have hbw9 : Below w.heap.size w w9 := HBw.out.trans (hb9.mono HBw.out.size)
      have hs9 := hb9.size
      simp only [VT.val]
      have hal := (Below.refl w9.heap.size w9).alloc (Nat.le_refl _) (.cells #[.int .i64 u.kind, .int .i64 u.int, .string u.text, .slice u.p u.n u.c] 24)
      have hZ10 := hZ9.below hal
      have hM10 := hM9.kept hal
      have hN10 := Box.new w9 #[.int .i64 u.kind, .int .i64 u.int, .string u.text, .slice u.p u.n u.c] 24
      have hb10 := hbw9.trans (hal.mono hbw9.size)
      have hu10 := HU.out.2.below hal
      have x1 := hM10.box.cell 1
      have b0 := hZ10.cell 0
      have b1 := hZ10.cell 1
      have b2 := hZ10.cell 2
      have b3 := hZ10.cell 3
      have g0 := hZ10.frozen 0
      have g1 := hZ10.frozen 1
      have g2 := hZ10.frozen 2
      have g3 := hZ10.frozen 3
      have n0 : (w9.alloc (.cells #[.int .i64 u.kind, .int .i64 u.int, .string u.text, .slice u.p u.n u.c] 24)).cell? ⟨w9.heap.size, 0, none⟩ = some (.int .i64 u.kind) := hN10.cell 0
      have n1 : (w9.alloc (.cells #[.int .i64 u.kind, .int .i64 u.int, .string u.text, .slice u.p u.n u.c] 24)).cell? ⟨w9.heap.size, 1, none⟩ = some (.int .i64 u.int) := hN10.cell 1
      have n2 : (w9.alloc (.cells #[.int .i64 u.kind, .int .i64 u.int, .string u.text, .slice u.p u.n u.c] 24)).cell? ⟨w9.heap.size, 2, none⟩ = some (.string u.text) := hN10.cell 2
      have n3 : (w9.alloc (.cells #[.int .i64 u.kind, .int .i64 u.int, .string u.text, .slice u.p u.n u.c] 24)).cell? ⟨w9.heap.size, 3, none⟩ = some (.slice u.p u.n u.c) := hN10.cell 3
      simp at x1 b0 b1 b2 b3
      have HNN := hid (And.intro n0 (And.intro n1 (And.intro n2 n3)))
      clear n0 n1 n2 n3
      have hne : w.heap.size ≠ w9.heap.size := by omega
      have H10 := hid (And.intro hZ10 (And.intro hb10 (And.intro hu10 HU.out.1)))
      clear hau hin hb9 HC HM hZ9 hM9 hbw9 hal hZ10 hM10 hN10 hb10 hu10 x2 x4 HU
      go_wp2_with fail
      have hsa : w9.heap.size < (w9.alloc (.cells #[.int .i64 u.kind, .int .i64 u.int, .string u.text, .slice u.p u.n u.c] 24)).heap.size := by simp
      have hrb9 : w.heap.size + 1 ≠ w9.heap.size := by omega
      obtain ⟨n0, n1, n2, n3⟩ := HNN.out
      clear HNN
      generalize w9.alloc (.cells #[.int .i64 u.kind, .int .i64 u.int, .string u.text, .slice u.p u.n u.c] 24) = wa at x1 b0 b1 b2 b3 g0 g1 g2 g3 n0 n1 n2 n3 H10 hsa ⊢
      go_region
      all_goals
        go_wp2
        have hx5 := setV_box H10.out.1 (.int .i64 u.kind) (.int .i64 u.int) (.string u.text) (.slice u.p u.n u.c)
        have hk5 : But (fun x => x = w.heap.size) wa ((((wa.setCell ⟨w.heap.size, 0, none⟩ (.int .i64 u.kind)).setCell ⟨w.heap.size, 1, none⟩ (.int .i64 u.int)).setCell ⟨w.heap.size, 2, none⟩ (.string u.text)).setCell ⟨w.heap.size, 3, none⟩ (.slice u.p u.n u.c)) :=
          ((((But.one _ w.heap.size).setAt 0 _).setAt 1 _).setAt 2 _).setAt 3 _
        have hb7 := (H10.out.2.1.trans (hk5.below (by omega) (fun x hx => by omega))).drew
        have hu7 := (H10.out.2.2.1.but hk5 (fun b hb _ => by omega)).below (Below.refl _ _).drew
        have hx6 := hx5.below (Below.refl _ _).drew
        generalize ((((wa.setCell ⟨w.heap.size, 0, none⟩ (.int .i64 u.kind)).setCell ⟨w.heap.size, 1, none⟩ (.int .i64 u.int)).setCell ⟨w.heap.size, 2, none⟩ (.string u.text)).setCell ⟨w.heap.size, 3, none⟩ (.slice u.p u.n u.c)).drew = w6 at hx6 hb7 hu7 ⊢
        clear b0 b1 b2 b3
        have b0 := hx6.cell 0
        have b1 := hx6.cell 1
        have b2 := hx6.cell 2
        have b3 := hx6.cell 3
        simp at b0 b1 b2 b3
        refine bodyPost_ret (v := .tuple #[.agg #[.int .i64 u.kind, .int .i64 u.int, .string u.text, .slice u.p u.n u.c], .int .i64 (a : Int), .int .i64 0]) (by simp [results, Tryz.results26, go_sem, b0, b1, b2, b3]) rfl ?_
        refine ⟨fun t a q h => ?_, fun p2 e2 h => (by rw [hT] at h; cases h)⟩
        rw [hT] at h
        cases h
        exact ⟨u, rfl, H10.out.2.2.2, hu7.mono fun b hb _ => (by omega), hb7⟩
end Go.Proofs.YtdmhemofhmfkoabGreatDoor
