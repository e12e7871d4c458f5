import Derived.Test.YtdpfgflofjiheaaPack14
namespace Go.Proofs.Ytdpfgflofjiheaa
open Go.RowKit
set_option maxRecDepth 8000

theorem set5 {W : World} {b : Nat} {x0 x1 x2 x3 x4 y0 y1 y2 y3 y4 : Value} {e : TypeId} (h : Box W b #[x0, x1, x2, x3, x4] e) : Box (((((W.setCell ⟨b, 0, none⟩ y0).setCell ⟨b, 1, none⟩ y1).setCell ⟨b, 2, none⟩ y2).setCell ⟨b, 3, none⟩ y3).setCell ⟨b, 4, none⟩ y4) b #[y0, y1, y2, y3, y4] e := by
  have := ((((h.set 0 y0).set 1 y1).set 2 y2).set 3 y3).set 4 y4
  simpa using this
theorem but5 {a W : World} {b : Nat} (h : But (fun x => x = b) a W) (y0 y1 y2 y3 y4 : Value) : But (fun x => x = b) a (((((W.setCell ⟨b, 0, none⟩ y0).setCell ⟨b, 1, none⟩ y1).setCell ⟨b, 2, none⟩ y2).setCell ⟨b, 3, none⟩ y3).setCell ⟨b, 4, none⟩ y4) := ((((h.setAt 0 y0).setAt 1 y1).setAt 2 y2).setAt 3 y3).setAt 4 y4
theorem Cnt.congr {w : World} {g T : Nat} {f f' : Nat → Nat} (h : Cnt w g T f) (he : ∀ k, k < T → f k = f' k) : Cnt w g T f' := by
  obtain ⟨cs, h1, h2, h3⟩ := h
  exact ⟨cs, h1, h2, fun k hk => by rw [← he k hk]; exact h3 k hk⟩
/-- while the entries of a life are read: k of them are done -/
structure RdI (f : Nat → TR) (a : Nat) (i : Int) (g T cb base : Nat) (h0 h1 h2 : Value) (W4 wr : World) (k : Nat) (v1 v2 : Value) : Prop where
  cut : CutI wr cb base h0 h1 h2 v1 v2 (evsF f (befC f a i true) a k) (evsF f (befC f a i false) a k)
  cnt : Cnt wr g T (fun t => cpN f a i t k)
  but : But (fun q => q = g ∨ cb ≤ q) W4 wr
set_option maxHeartbeats 16000000 in
theorem read_any (l : LT TR) (i : Int) (g T c : Nat) (w : World) (S : Nat → Prop) (hl : LT.In elTr w S l) (h47 : l.n * 32 ≤ 140737488355328) (hT : T ≤ 12) (h0T : 0 < T) (hraw : Raw w g T) (hSg : ∀ b, S b → b < w.heap.size → b ≠ g) (hcan : ∀ q, q < l.n → Can (T : Int) (l.item q)) :
    Calls Try.prog 34 #[.agg #[.slice (some ⟨g, 0, none⟩) T c], .slice l.p l.n l.c, .int .i64 i] w fun e w' => ReadQ l S i g T w e w' := by
  have hnn := hl.nn
  have hrd : ∀ q, q < l.n → (l.item q).rd i → l.item q = ⟨6, 0, 0, i⟩ := fun q hq hr => by
    obtain ⟨d1, d2, d3, d4, d5, d6, d7, d8, d9, d10, d11, _⟩ := hcan q hq
    have := hr.1
    exact TR.ext_ hr.1 (show (l.item q).task = 0 by omega) (show (l.item q).port = 0 by omega) hr.2
  obtain ⟨W0, hW0⟩ : ∃ X, X = (w.alloc (.cells #[.slice (some ⟨g, 0, none⟩) T c] 70)).alloc (.cells #[.int .i64 0, .slice none 0 0, .slice none 0 0, .slice none 0 0, .slice none 0 0] 61) := ⟨_, rfl⟩
  have hB0 : Below w.heap.size w W0 := by rw [hW0]; exact below2 _ _ _
  have hs0 : W0.heap.size = w.heap.size + 2 := by rw [hW0]; simp
  have bA : Box W0 w.heap.size #[.slice (some ⟨g, 0, none⟩) T c] 70 := by rw [hW0]; exact (Box.new w _ _).below (below1 _ _)
  have bC : Box W0 (w.heap.size + 1) #[.int .i64 0, .slice none 0 0, .slice none 0 0, .slice none 0 0, .slice none 0 0] 61 := by
    rw [hW0]
    have := Box.new (w.alloc (.cells #[.slice (some ⟨g, 0, none⟩) T c] 70)) #[.int .i64 0, .slice none 0 0, .slice none 0 0, .slice none 0 0, .slice none 0 0] 61
    simpa using this
  have hgl := hraw.lt
  have hLf := lifeOf_any l i W0 (fun b => S b ∧ b < w.heap.size) ((hl.mono fun b hb hlt => (⟨hb, hlt⟩ : S b ∧ b < w.heap.size)).kept hB0.size fun b hb _ => hB0.block b hb.2) hrd
  have HLf := hid hLf
  have HW0 := hid hW0
  have HB0 := hid hB0
  have HS0 := hid hs0
  have HBA := hid bA
  have HBC := hid bC
  have HRaw := hid hraw
  have HCan := hid hcan
  have HSg := hid hSg
  have HL := hid hl
  have H47 := hid h47
  clear hLf hW0 hB0 hs0 bA bC hraw hcan hSg hl hrd h47
  go_enter Try.func34, Try.ntmps34
  go_upto_region 1 with fail
  rw [← HW0.out]
  go_wp2_with fail
  refine HLf.out.mono ?_
  rintro e W1 ⟨hb1, hq⟩
  rcases hq with ⟨hno, rfl⟩ | ⟨a, b, pa, pe, ca, ce, hlf, rfl, hA, hE⟩
  · have HNo := hid hno
    obtain ⟨W2, hW2⟩ : ∃ X, X = W1.alloc (.cells #[.int .i64 0, .slice none 0 0, .slice none 0 0] 59) := ⟨_, rfl⟩
    have hb2 : Below W0.heap.size W0 W2 := hb1.trans (by rw [hW2]; exact (below1 _ _).mono hb1.size)
    have bC2 := HBC.out.below hb2
    have r0 := bC2.cell 0
    have r1 := bC2.cell 1
    have r2 := bC2.cell 2
    have r3 := bC2.cell 3
    have r4 := bC2.cell 4
    have f0 := bC2.frozen 0
    have f1 := bC2.frozen 1
    have f2 := bC2.frozen 2
    have f3 := bC2.frozen 3
    have f4 := bC2.frozen 4
    have rl := bC2.lt
    simp at r0 r1 r2 r3 r4
    have HB2 := hid hb2
    have HC2 := hid bC2
    have HW2 := hid hW2
    clear hno hb1 hb2 bC2 hW2 HLf
    go_upto_region 2 with fail
    rw [← HW2.out]
    go_wp2
    have hbx := set5 (y0 := .int .i64 0) (y1 := .slice none 0 0) (y2 := .slice none 0 0) (y3 := .slice none 0 0) (y4 := .slice none 0 0) HC2.out
    have g0 := hbx.cell 0
    have g1 := hbx.cell 1
    have g2 := hbx.cell 2
    have g3 := hbx.cell 3
    have g4 := hbx.cell 4
    simp at g0 g1 g2 g3 g4
    have hbw : Below w.heap.size w W2 := HB0.out.trans (HB2.out.mono HB0.out.size)
    have hb5 := hbw.trans ((but5 (But.one W2 (w.heap.size + 1)) (.int .i64 0) (.slice none 0 0) (.slice none 0 0) (.slice none 0 0) (.slice none 0 0)).below hbw.size (fun q hq => by omega))
    exact bodyPost_ret (v := .tuple #[.agg #[.int .i64 0, .slice none 0 0, .slice none 0 0, .slice none 0 0, .slice none 0 0], .int .i64 180]) (by simp [results, Try.results34, go_sem, g0, g1, g2, g3, g4]) rfl ⟨But.ofBelow hb5, HRaw.out.below hb5, .inl ⟨HNo.out, rfl⟩⟩
  · obtain ⟨bg, hbg⟩ : ∃ bg, bg = beganOf l.item a := ⟨_, rfl⟩
    rw [← hbg]
    obtain ⟨W2, hW2⟩ : ∃ X, X = W1.alloc (.cells #[.int .i64 bg, .slice pa (a - 1) ca, .slice pe (b - a) ce] 59) := ⟨_, rfl⟩
    obtain ⟨W3, hW3⟩ : ∃ X, X = W2.alloc (.cells #[.int .i64 bg, .slice pa (a - 1) ca, .slice pe (b - a) ce, .slice none 0 0, .slice none 0 0] 61) := ⟨_, rfl⟩
    have hab := hlf.ab
    have hbn := hlf.bn
    have hs1 := hb1.size
    have hb12 : Below W1.heap.size W1 W2 := by rw [hW2]; exact below1 _ _
    have hb23 : Below W2.heap.size W2 W3 := by rw [hW3]; exact below1 _ _
    have bF : Box W2 W1.heap.size #[.int .i64 bg, .slice pa (a - 1) ca, .slice pe (b - a) ce] 59 := by rw [hW2]; exact Box.new _ _ _
    have bD : Box W3 W2.heap.size #[.int .i64 bg, .slice pa (a - 1) ca, .slice pe (b - a) ce, .slice none 0 0, .slice none 0 0] 61 := by rw [hW3]; exact Box.new _ _ _
    have hs2 : W2.heap.size = W1.heap.size + 1 := by rw [hW2]; simp
    have hs3 : W3.heap.size = W2.heap.size + 1 := by rw [hW3]; simp
    have hb02 : Below W0.heap.size W0 W2 := hb1.trans (hb12.mono hb1.size)
    have hb03 : Below W0.heap.size W0 W3 := hb02.trans (hb23.mono hb02.size)
    have hw3 : Below w.heap.size w W3 := HB0.out.trans (hb03.mono HB0.out.size)
    have hraw3 := HRaw.out.below hw3
    have hclr := clear_run (c := c) hraw3 h0T 0
    obtain ⟨W4, hW4⟩ : ∃ X, X = W3.setCells g 0 (List.replicate T (.int .i64 0)) := ⟨_, rfl⟩
    rw [← hW4] at hclr
    have hcnt4 : Cnt W4 g T (fun _ => 0) := by rw [hW4]; exact clear_cnt hraw3
    have hbut4 : But (fun x => x = g) W3 W4 := by rw [hW4]; exact but_sets _ _ _ _ (But.one W3 g)
    have bA4 := (HBA.out.below hb03).but hbut4 (fun e => by omega)
    have bC4 := (HBC.out.below hb03).but hbut4 (fun e => by have := HS0.out; omega)
    have bF4 := (bF.below hb23).but hbut4 (fun e => by have := HS0.out; omega)
    have bD4 := bD.but hbut4 (fun e => by have := HS0.out; omega)
    have hA4 : LT.In elTr W4 (fun b => S b ∧ b < w.heap.size) ⟨pa, a - 1, ca, l.item⟩ := (hA.below (hb12.trans (hb23.mono hb12.size))).but hbut4 (fun b hb _ => HSg.out b hb.1 hb.2)
    have hE4 : LT.In elTr W4 (fun b => S b ∧ b < w.heap.size) ⟨pe, b - a, ce, fun j => l.item (a + j)⟩ := (hE.below (hb12.trans (hb23.mono hb12.size))).but hbut4 (fun b hb _ => HSg.out b hb.1 hb.2)
    have x0 := (bF.below hb23).cell 0
    have x2 := (bF.below hb23).cell 2
    have z0 := (HBA.out.below hb03).cell 0
    have y0 := bF.cell 0
    have y1 := bF.cell 1
    have y2 := bF.cell 2
    have t2 := bF4.cell 2
    simp at x0 x2 z0 y0 y1 y2 t2
    have hRd : RdI l.item a i g T W2.heap.size W3.heap.size (.int .i64 bg) (.slice pa (a - 1) ca) (.slice pe (b - a) ce) W4 W4 0 (.slice none 0 0) (.slice none 0 0) := ⟨⟨bD4, by omega, EvRow.nil _ _, EvRow.nil _ _, fun x hx => by cases hx⟩, hcnt4, But.refl _ _⟩
    have HRd := hid hRd
    have HLf2 := hid hlf
    have HW2 := hid hW2
    have HW3 := hid hW3
    have HA4 := hid hA4
    have HE4 := hid hE4
    have HBA4 := hid bA4
    have HBC4 := hid bC4
    have HBD4 := hid bD4
    have HBF4 := hid bF4
    have HBut4 := hid hbut4
    have HBw3 := hid hw3
    have HBg := hid hbg
    have HS1 := hid hs1
    have HS2 := hid hs2
    have HS3 := hid hs3
    clear HLf hb1 hlf hA hE hb12 hb23 bF bD hb02 hb03 hw3 hraw3 hcnt4 hbut4 bA4 bC4 bF4 bD4 hA4 hE4 hRd hbg hs1 hs2 hs3 hW4
    go_upto_region 2 with fail
    rw [← HW2.out]
    clear hW2
    go_upto_region 5 with fail
    rw [← HW3.out]
    clear hW3
    go_upto_region 6 with fail
    go_wp2_with fail
    go_loopw [30] (fun x wr => ∃ (k : Nat) (v1 v2 : Value), k ≤ b - a ∧ x = .int .i64 (k : Int) ∧ RdI l.item a i g T W2.heap.size W3.heap.size (.int .i64 bg) (.slice pa (a - 1) ca) (.slice pe (b - a) ce) W4 wr k v1 v2) (fun x _ => (b - a) - (intOf x).toNat)
    case atStart => exact ⟨0, _, _, Nat.zero_le _, rfl, HRd.out⟩
    case round =>
      obtain ⟨k, v1, v2, hk, rfl, hR⟩ := hrel
      have HR := hid hR
      have hWl : W4.heap.size ≤ wr.heap.size := hR.but.size
      have hgl4 : g < w.heap.size := hgl
      have hBw3 := HBw3.out.size
      have hS1 := HS1.out
      have hS2 := HS2.out
      have hS3 := HS3.out
      have hS0 := HS0.out
      have hS4 := HBut4.out.size
      have bAr := HBA4.out.but hR.but (fun e => by omega)
      have hEr : LT.In elTr wr (fun b => S b ∧ b < w.heap.size) ⟨pe, b - a, ce, fun j => l.item (a + j)⟩ := HE4.out.but hR.but (fun q hq _ e => by rcases e with e | e; exact HSg.out q hq.1 hq.2 e; have := hq.2; omega)
      have HBAr := hid bAr
      have HEr := hid hEr
      clear hR bAr hEr
      by_cases hlt : k < b - a
      · have hlt' : (k : Int) < ((b - a : Nat) : Int) := by omega
        have hcan := HCan.out (a + k) (by omega)
        obtain ⟨d1, d2, d3, d4, d5, d6, d7, d8, d9, d10, d11, d12⟩ := hcan
        obtain ⟨tt, htt⟩ : ∃ tt : Nat, (l.item (a + k)).task = (tt : Int) := ⟨(l.item (a + k)).task.toNat, by omega⟩
        have httT : tt < T := by omega
        have httT' : (tt : Int) < (T : Int) := by omega
        obtain ⟨b1, o1, hp, _, hl1, ha⟩ := HEr.out.tr (by dsimp only; omega)
        obtain ⟨a0, a1, a2, a3⟩ := ha k hlt
        dsimp only at hp a0 a1 a2 a3
        obtain ⟨V1, hV1⟩ : ∃ X, X = wr.alloc (.cells #[.int .i64 (l.item (a + k)).kind, .int .i64 (l.item (a + k)).task, .int .i64 (l.item (a + k)).port, .int .i64 (l.item (a + k)).id] 37) := ⟨_, rfl⟩
        have bE1 : Box V1 wr.heap.size #[.int .i64 (l.item (a + k)).kind, .int .i64 (l.item (a + k)).task, .int .i64 (l.item (a + k)).port, .int .i64 (l.item (a + k)).id] 37 := by rw [hV1]; exact Box.new _ _ _
        have hb01 : Below wr.heap.size wr V1 := by rw [hV1]; exact below1 _ _
        have q0 := bE1.cell 0
        have q1 := bE1.cell 1
        have q2 := bE1.cell 2
        have q3 := bE1.cell 3
        simp at q0 q1 q2 q3
        have HEv := hid (eventOf_any (l.item (a + k)).kind (l.item (a + k)).task (l.item (a + k)).port (l.item (a + k)).id V1)
        have HV1 := hid hV1
        have HE1 := hid bE1
        have HB01 := hid hb01
        have HD := hid (And.intro d1 (And.intro d2 (And.intro d3 (And.intro d4 (And.intro d5 (And.intro d6 (And.intro d7 (And.intro d8 (And.intro d9 (And.intro d10 d11))))))))))
        have HTt := hid htt
        subst hp
        clear ha hV1 bE1 hb01 d1 d2 d3 d4 d5 d6 d7 d8 d9 d10 d11 d12 htt hBw3 hS1 hS2 hS3 hS0 hS4
        go_upto_region 9 with fail
        rw [← HV1.out]
        go_wp2_with fail
        refine HEv.out.mono ?_
        rintro e V2 ⟨rfl, hb2⟩
        obtain ⟨V3, hV3⟩ : ∃ X, X = V2.alloc (.cells #[.int .i64 (l.item (a + k)).task, .int .i64 (l.item (a + k)).port] 39) := ⟨_, rfl⟩
        have hb23 : Below V2.heap.size V2 V3 := by rw [hV3]; exact below1 _ _
        have bM : Box V3 V2.heap.size #[.int .i64 (l.item (a + k)).task, .int .i64 (l.item (a + k)).port] 39 := by rw [hV3]; exact Box.new _ _ _
        have hb13 : Below V1.heap.size V1 V3 := hb2.trans (hb23.mono hb2.size)
        have bE3 := HE1.out.below hb13
        have hbr3 : Below wr.heap.size wr V3 := HB01.out.trans (hb13.mono HB01.out.size)
        have bA3 := HBAr.out.below hbr3
        have hcnt3 := HR.out.cnt.below hbr3
        have hcut3 := HR.out.cut.below hbr3
        have hbut3 : But (fun q => q = g ∨ W2.heap.size ≤ q) W4 V3 := HR.out.but.trans (But.ofBelow hbr3)
        obtain ⟨cn, hcn⟩ : ∃ cn, cn = cpN l.item a i tt k := ⟨_, rfl⟩
        have hcn1 : cn ≤ 140737488355327 := by have := cpN_le (f := l.item) (a := a) (i := i) (k := tt) (d := k); have := H47.out; have := HLf2.out.bn; omega
        have n0 := bE3.cell 0
        have n1 := bE3.cell 1
        have n2 := bE3.cell 2
        have n3 := bE3.cell 3
        have m0 := bM.cell 0
        have m1 := bM.cell 1
        have z3 := bA3.cell 0
        have cc := hcnt3.cell httT
        have cf := hcnt3.frozen tt
        have cl := hcnt3.lt
        have hwl := bE3.lt
        have hvl := bM.lt
        rw [← hcn] at cc
        simp at n0 n1 n2 n3 m0 m1 z3
        have HV3 := hid hV3
        have HCnt3 := hid hcnt3
        have HCut3 := hid hcut3
        have HBut3 := hid hbut3
        have HCn := hid hcn
        have HBr3 := hid hbr3
        clear hV3 hb23 bM hb13 bE3 hbr3 bA3 hcnt3 hcut3 hbut3 hcn hb2 q0 q1 q2 q3 a0 a1 a2 a3 HEv
        rw [HTt.out] at n1 m0
        go_upto_region 10 with fail
        rw [← HV3.out, HTt.out]
        by_cases hc3 : (l.item (a + k)).kind = 3 ∧ (l.item (a + k)).id = i
        · obtain ⟨h3, hi⟩ := hc3
          have hp0 : (l.item (a + k)).port = 0 := by have := HD.out; omega
          have HRn : Hid (RdI l.item a i g T W2.heap.size W3.heap.size (.int .i64 bg) (.slice pa (a - 1) ca) (.slice (some ⟨b1, o1, none⟩) (b - a) ce) W4 (V3.setCell ⟨g, tt, none⟩ (.int .i64 ((cn : Int) + 1))) (k + 1) v1 v2) := by
            have hbt : But (fun q => q = g) V3 (V3.setCell ⟨g, tt, none⟩ (.int .i64 ((cn : Int) + 1))) := (But.one V3 g).setAt tt _
            have hlg := HBw3.out.size
            have hs1 := HS1.out
            have hs2 := HS2.out
            have hs0 := HS0.out
            refine ⟨?_, ?_, HBut3.out.trans (hbt.mono fun q _ e => .inl e)⟩
            · have hc := HCut3.out.but hbt (fun q hq e => by omega)
              rw [evsF_no (fun h => by have := h.1; omega), evsF_no (fun h => by have := h.1; omega)]
              exact hc
            · have hs := HCnt3.out.set httT (cn + 1)
              have ec : (((cn + 1 : Nat)) : Int) = (cn : Int) + 1 := by omega
              rw [ec] at hs
              refine hs.congr fun q hq => ?_
              by_cases hqt : q = tt
              · subst hqt
                rw [if_pos rfl, cpN_yes ⟨h3, hi, HTt.out⟩, HCn.out]
              · rw [if_neg hqt, cpN_no (fun h => hqt (by have := h.2.2; have := HTt.out; omega))]
          rw [h3] at n0
          rw [hi] at n3
          rw [hp0] at n2 m1
          rw [h3, hi, hp0]
          clear h3 hi hp0
          go_wp2
          go_roundw
          case rel => exact ⟨k + 1, v1, v2, by omega, by go_num, HRn.out⟩
          case measure => simp [intOf]; omega
        · have HC3 := hid hc3
          by_cases hk1 : (l.item (a + k)).kind = 1
          · have hid0 : (l.item (a + k)).id = 0 := by have := HD.out; omega
            have HK1 := hid hk1
            rw [hk1] at n0
            rw [hid0] at n3
            rw [hk1, hid0]
            clear hk1 hid0 hc3
            go_upto_region 12 with fail
            refine wp_region_calmE 30 (fun wx => Below V3.heap.size V3 wx) [(0, false), (1, false)] (.one 2 true [(3, true), (4, true)] .done) (by kernel_rfl) (by kernel_rfl) (Below.refl _ _).drew ?_
            refine wpPre_e rfl rfl (fun K1 hK1 => ?_)
            apply Exists.intro
            refine And.intro (fun wx hx => ?_) ?_
            · have e0 := below_fact hx rfl n0
              have e1 := below_fact hx rfl n1
              have e2 := below_fact hx rfl n2
              have e3 := below_fact hx rfl n3
              have e4 := below_fact hx rfl m0
              have e5 := below_fact hx rfl m1
              go_simp
              try rfl
            go_simp
            refine hK1 _ ?_
            clear hK1 K1
            refine wpPre_e rfl rfl (fun K1 hK1 => ?_)
            apply Exists.intro
            refine And.intro (fun wx hx => ?_) ?_
            · have e0 := below_fact hx rfl n0
              have e1 := below_fact hx rfl n1
              have e2 := below_fact hx rfl n2
              have e3 := below_fact hx rfl n3
              have e4 := below_fact hx rfl m0
              have e5 := below_fact hx rfl m1
              go_simp
              try rfl
            go_simp
            refine hK1 _ ?_
            clear hK1 K1
            refine wpPre_nil ?_
            refine wpTr_e rfl (fun K1 hK1 => ?_)
            refine step_callG (by first | rfl | go_simp) 45 #[.tmp 53] _ rfl Try.f45 Try.func45 (by kernel_rfl) rfl #[.agg #[.int .i64 (tt : Int), .int .i64 (l.item (a + k)).port]] rfl _ (stepOf_any (tt : Int) (l.item (a + k)).port V3.drew) ?_
            rintro e_ V4 ⟨rfl, hb4⟩
            refine ⟨_, rfl, ?_⟩
            have HB4 : Hid (Below V3.heap.size V3 V4) := (Below.refl _ _).drew.trans hb4
            clear hb4
            go_simp
            refine hK1 _ _ (fun _ => HB4.out) ?_
            clear hK1 K1
            refine wpPre_e rfl rfl (fun K1 hK1 => ?_)
            apply Exists.intro
            refine And.intro (fun wx hx => ?_) ?_
            · go_simp
              try rfl
            go_simp
            refine hK1 _ ?_
            clear hK1 K1
            refine wpPre_e rfl rfl (fun K1 hK1 => ?_)
            apply Exists.intro
            refine And.intro (fun wx hx => ?_) ?_
            · go_simp
              try rfl
            go_simp
            refine hK1 _ ?_
            clear hK1 K1
            refine wpPre_nil ?_
            refine wpTr_done ?_
            have bb := HB4.out
            have c4 := (HCnt3.out.below bb).cell httT
            rw [← HCn.out] at c4
            have hzr := (HBAr.out.below (HBr3.out.trans (bb.mono HBr3.out.size)))
            have z4 := hzr.cell 0
            have k1 := (World.cell?_of_block (a := ⟨wr.heap.size, 1, none⟩) (bb.block wr.heap.size hwl)).trans n1
            have j0 := (World.cell?_of_block (a := ⟨V2.heap.size, 0, none⟩) (bb.block V2.heap.size hvl)).trans m0
            have j1 := (World.cell?_of_block (a := ⟨V2.heap.size, 1, none⟩) (bb.block V2.heap.size hvl)).trans m1
            simp at z4
            clear hzr bb
            have HC4 := hid (HCut3.out.below HB4.out)
            have hev : (⟨(tt : Int), (l.item (a + k)).port⟩ : EV) = (l.item (a + k)).ev := by unfold TR.ev; rw [HTt.out]
            have HEv2 := hid hev
            have hka : a + k - a = k := by omega
            have HKa := hid hka
            have hx47 : ∀ first, ((evsF l.item (befC l.item a i first) a k).length + 1) * 16 ≤ 140737488355328 := fun first => by have := evsF_len l.item (befC l.item a i first) a k; have := H47.out; have := HLf2.out.bn; omega
            have HX47 := hid hx47
            have HBs4 : Hid (W3.heap.size ≤ V4.heap.size) := by have h1 := HB4.out.size; have h2 := HBr3.out.size; have h3 := HBut4.out.size; show W3.heap.size ≤ V4.heap.size; omega
            have HPk : Hid (∀ first, befC l.item a i first (a + k) = (decide (cn = 0) == first)) := fun first => by unfold befC; rw [HTt.out, hka, HCn.out]; rfl
            have HCn4 := hid (HCnt3.out.below HB4.out)
            have HButV4 : Hid (But (fun q => q = g ∨ W2.heap.size ≤ q) W4 V4) := HBut3.out.trans (But.ofBelow HB4.out)
            have hnc : ¬ (l.item (a + k)).cp i (tt : Int) := fun h => by have := h.1; have := HK1.out; omega
            have HNc : Hid (∀ q : Nat, ¬ (l.item (a + k)).cp i (q : Int)) := fun q h => by have := h.1; have := HK1.out; omega
            clear hev hka hx47 hnc
            by_cases hz : cn = 0
            · have hz0 : ¬ (0 : Int) < (cn : Int) := by omega
              have HZ := hid hz
              clear hz
              go_upto_region 13 with fail
              have hdz1 : decide (0 < cn) = false := by have := HZ.out; simp; omega
              have hdz2 : decide ((0 : Int) < (cn : Int)) = false := by have := HZ.out; simp; omega
              refine wp_region_calmE 30 (fun wx => Below V4.heap.size V4 wx) [(0, false), (1, true), (2, false), (3, true), (4, false), (5, true), (6, false), (7, true)] (.one 8 false [] .done) (by kernel_rfl) (by kernel_rfl) (Below.refl _ _).drew ?_
              refine wpPre_e rfl rfl (fun K1 hK1 => ?_)
              apply Exists.intro
              refine And.intro (fun wx hx => ?_) ?_
              · have e0 := below_fact hx rfl j0
                have e1 := below_fact hx rfl j1
                have e2 := below_fact hx rfl z4
                have e3 := below_fact hx rfl k1
                have e4 := below_fact hx rfl c4
                go_simp
                try rfl
              go_simp
              refine hK1 _ ?_
              clear hK1 K1
              refine wpPre_e rfl rfl (fun K1 hK1 => ?_)
              apply Exists.intro
              refine And.intro (fun wx hx => ?_) ?_
              · go_simp
                try rfl
              go_simp
              refine hK1 _ ?_
              clear hK1 K1
              refine wpPre_e rfl rfl (fun K1 hK1 => ?_)
              apply Exists.intro
              refine And.intro (fun wx hx => ?_) ?_
              · have e0 := below_fact hx rfl j0
                have e1 := below_fact hx rfl j1
                have e2 := below_fact hx rfl z4
                have e3 := below_fact hx rfl k1
                have e4 := below_fact hx rfl c4
                go_simp
                try rfl
              go_simp
              refine hK1 _ ?_
              clear hK1 K1
              refine wpPre_e rfl rfl (fun K1 hK1 => ?_)
              apply Exists.intro
              refine And.intro (fun wx hx => ?_) ?_
              · go_simp
                try rfl
              go_simp
              refine hK1 _ ?_
              clear hK1 K1
              refine wpPre_e rfl rfl (fun K1 hK1 => ?_)
              apply Exists.intro
              refine And.intro (fun wx hx => ?_) ?_
              · have e0 := below_fact hx rfl j0
                have e1 := below_fact hx rfl j1
                have e2 := below_fact hx rfl z4
                have e3 := below_fact hx rfl k1
                have e4 := below_fact hx rfl c4
                go_simp
                try rfl
              go_simp
              refine hK1 _ ?_
              clear hK1 K1
              refine wpPre_e rfl rfl (fun K1 hK1 => ?_)
              apply Exists.intro
              refine And.intro (fun wx hx => ?_) ?_
              · go_simp
                try rfl
              go_simp
              refine hK1 _ ?_
              clear hK1 K1
              refine wpPre_e rfl rfl (fun K1 hK1 => ?_)
              apply Exists.intro
              refine And.intro (fun wx hx => ?_) ?_
              · have e0 := below_fact hx rfl j0
                have e1 := below_fact hx rfl j1
                have e2 := below_fact hx rfl z4
                have e3 := below_fact hx rfl k1
                have e4 := below_fact hx rfl c4
                go_simp
                try rfl
              go_simp
              refine hK1 _ ?_
              clear hK1 K1
              refine wpPre_e rfl rfl (fun K1 hK1 => ?_)
              apply Exists.intro
              refine And.intro (fun wx hx => ?_) ?_
              · go_simp
                try rfl
              go_simp
              refine hK1 _ ?_
              clear hK1 K1
              clear hdz1 hdz2
              refine wpPre_nil ?_
              refine wpTr_e rfl (fun K1 hK1 => ?_)
              refine step_callG (by first | rfl | go_simp) 46 #[.tmp 10, .tmp 56, .tmp 63] _ rfl Try.f46 Try.func46 (by kernel_rfl) rfl #[.pointer (some ⟨W2.heap.size, 0, none⟩), .agg #[.int .i64 (tt : Int), .int .i64 (l.item (a + k)).port], .bool false] rfl _ (lay_false (tt : Int) (l.item (a + k)).port V4.drew W2.heap.size W3.heap.size _ _ _ v1 v2 _ _ (HC4.out.below (Below.refl _ _).drew) HBs4.out (HX47.out true)) ?_
              rintro e_ V5 ⟨rfl, ⟨nv, hc5⟩, hb5⟩
              refine ⟨_, rfl, ?_⟩
              have hlow : g < W2.heap.size := by have h1 := HBw3.out.size; have h2 := HS1.out; have h3 := HS2.out; have h4 := HS0.out; omega
              have HRn : Hid (∃ v1 v2, RdI l.item a i g T W2.heap.size W3.heap.size (.int .i64 bg) (.slice pa (a - 1) ca) (.slice (some ⟨b1, o1, none⟩) (b - a) ce) W4 V5 (k + 1) v1 v2) := by
                have hb5d : Below W2.heap.size V4 V5 := ((Below.refl W2.heap.size V4).drew).trans hb5
                have hbt : But (fun q => q = g ∨ W2.heap.size ≤ q) V4 V5 := ⟨hb5d.os, hb5d.tape, hb5d.output, hb5d.size, fun q _ hx => hb5d.block q (by rcases Nat.lt_or_ge q W2.heap.size with h | h; exact h; exact (hx (.inr h)).elim)⟩
                have e1 : evsF l.item (befC l.item a i true) a (k + 1) = evsF l.item (befC l.item a i true) a k ++ [⟨(tt : Int), (l.item (a + k)).port⟩] := by rw [evsF_yes HK1.out (by rw [HPk.out]; simp [HZ.out]), HEv2.out]
                have e2 : evsF l.item (befC l.item a i false) a (k + 1) = evsF l.item (befC l.item a i false) a k := evsF_no (by rintro ⟨_, e⟩; rw [HPk.out] at e; simp [HZ.out] at e)
                refine ⟨nv, v2, ?_, ?_, HButV4.out.trans hbt⟩
                · rw [e1, e2]; exact hc5
                · have hcn5 : Cnt V5 g T (fun t => cpN l.item a i t k) := by
                    obtain ⟨cs, h1, h2, h3⟩ := HCn4.out
                    exact ⟨cs, h1.kept (hb5d.block g hlow), h2, h3⟩
                  exact hcn5.congr fun q hq => (cpN_no (HNc.out q)).symm
              clear hc5 hb5
              go_simp
              refine hK1 _ _ (fun h => by cases h) ?_
              clear hK1 K1
              refine wpPre_nil ?_
              refine wpTr_done ?_
              obtain ⟨v1', v2', hRn⟩ := HRn.out
              have HRm := hid hRn
              clear hRn
              go_wp2
              go_roundw
              case rel => exact ⟨k + 1, v1', v2', by omega, by go_num, HRm.out⟩
              case measure => simp [intOf]; omega
            · have hz0 : (0 : Int) < (cn : Int) := by omega
              have HZ := hid hz
              clear hz
              go_upto_region 13 with fail
              have hdz1 : decide (0 < cn) = true := by have := HZ.out; simp; omega
              have hdz2 : decide ((0 : Int) < (cn : Int)) = true := by have := HZ.out; simp; omega
              refine wp_region_calmE 30 (fun wx => Below V4.heap.size V4 wx) [(0, false), (1, true), (2, false), (3, true), (4, false), (5, true), (6, false), (7, true)] (.one 8 false [] .done) (by kernel_rfl) (by kernel_rfl) (Below.refl _ _).drew ?_
              refine wpPre_e rfl rfl (fun K1 hK1 => ?_)
              apply Exists.intro
              refine And.intro (fun wx hx => ?_) ?_
              · have e0 := below_fact hx rfl j0
                have e1 := below_fact hx rfl j1
                have e2 := below_fact hx rfl z4
                have e3 := below_fact hx rfl k1
                have e4 := below_fact hx rfl c4
                go_simp
                try rfl
              go_simp
              refine hK1 _ ?_
              clear hK1 K1
              refine wpPre_e rfl rfl (fun K1 hK1 => ?_)
              apply Exists.intro
              refine And.intro (fun wx hx => ?_) ?_
              · go_simp
                try rfl
              go_simp
              refine hK1 _ ?_
              clear hK1 K1
              refine wpPre_e rfl rfl (fun K1 hK1 => ?_)
              apply Exists.intro
              refine And.intro (fun wx hx => ?_) ?_
              · have e0 := below_fact hx rfl j0
                have e1 := below_fact hx rfl j1
                have e2 := below_fact hx rfl z4
                have e3 := below_fact hx rfl k1
                have e4 := below_fact hx rfl c4
                go_simp
                try rfl
              go_simp
              refine hK1 _ ?_
              clear hK1 K1
              refine wpPre_e rfl rfl (fun K1 hK1 => ?_)
              apply Exists.intro
              refine And.intro (fun wx hx => ?_) ?_
              · go_simp
                try rfl
              go_simp
              refine hK1 _ ?_
              clear hK1 K1
              refine wpPre_e rfl rfl (fun K1 hK1 => ?_)
              apply Exists.intro
              refine And.intro (fun wx hx => ?_) ?_
              · have e0 := below_fact hx rfl j0
                have e1 := below_fact hx rfl j1
                have e2 := below_fact hx rfl z4
                have e3 := below_fact hx rfl k1
                have e4 := below_fact hx rfl c4
                go_simp
                try rfl
              go_simp
              refine hK1 _ ?_
              clear hK1 K1
              refine wpPre_e rfl rfl (fun K1 hK1 => ?_)
              apply Exists.intro
              refine And.intro (fun wx hx => ?_) ?_
              · go_simp
                try rfl
              go_simp
              refine hK1 _ ?_
              clear hK1 K1
              refine wpPre_e rfl rfl (fun K1 hK1 => ?_)
              apply Exists.intro
              refine And.intro (fun wx hx => ?_) ?_
              · have e0 := below_fact hx rfl j0
                have e1 := below_fact hx rfl j1
                have e2 := below_fact hx rfl z4
                have e3 := below_fact hx rfl k1
                have e4 := below_fact hx rfl c4
                go_simp
                try rfl
              go_simp
              refine hK1 _ ?_
              clear hK1 K1
              refine wpPre_e rfl rfl (fun K1 hK1 => ?_)
              apply Exists.intro
              refine And.intro (fun wx hx => ?_) ?_
              · go_simp
                try rfl
              go_simp
              refine hK1 _ ?_
              clear hK1 K1
              clear hdz1 hdz2
              refine wpPre_nil ?_
              refine wpTr_e rfl (fun K1 hK1 => ?_)
              refine step_callG (by first | rfl | go_simp) 46 #[.tmp 10, .tmp 56, .tmp 63] _ rfl Try.f46 Try.func46 (by kernel_rfl) rfl #[.pointer (some ⟨W2.heap.size, 0, none⟩), .agg #[.int .i64 (tt : Int), .int .i64 (l.item (a + k)).port], .bool true] rfl _ (lay_true (tt : Int) (l.item (a + k)).port V4.drew W2.heap.size W3.heap.size _ _ _ v1 v2 _ _ (HC4.out.below (Below.refl _ _).drew) HBs4.out (HX47.out false)) ?_
              rintro e_ V5 ⟨rfl, ⟨nv, hc5⟩, hb5⟩
              refine ⟨_, rfl, ?_⟩
              have hlow : g < W2.heap.size := by have h1 := HBw3.out.size; have h2 := HS1.out; have h3 := HS2.out; have h4 := HS0.out; omega
              have HRn : Hid (∃ v1 v2, RdI l.item a i g T W2.heap.size W3.heap.size (.int .i64 bg) (.slice pa (a - 1) ca) (.slice (some ⟨b1, o1, none⟩) (b - a) ce) W4 V5 (k + 1) v1 v2) := by
                have hb5d : Below W2.heap.size V4 V5 := ((Below.refl W2.heap.size V4).drew).trans hb5
                have hbt : But (fun q => q = g ∨ W2.heap.size ≤ q) V4 V5 := ⟨hb5d.os, hb5d.tape, hb5d.output, hb5d.size, fun q _ hx => hb5d.block q (by rcases Nat.lt_or_ge q W2.heap.size with h | h; exact h; exact (hx (.inr h)).elim)⟩
                have e1 : evsF l.item (befC l.item a i false) a (k + 1) = evsF l.item (befC l.item a i false) a k ++ [⟨(tt : Int), (l.item (a + k)).port⟩] := by rw [evsF_yes HK1.out (by rw [HPk.out]; simp [HZ.out]), HEv2.out]
                have e2 : evsF l.item (befC l.item a i true) a (k + 1) = evsF l.item (befC l.item a i true) a k := evsF_no (by rintro ⟨_, e⟩; rw [HPk.out] at e; simp [HZ.out] at e)
                refine ⟨v1, nv, ?_, ?_, HButV4.out.trans hbt⟩
                · rw [e1, e2]; exact hc5
                · have hcn5 : Cnt V5 g T (fun t => cpN l.item a i t k) := by
                    obtain ⟨cs, h1, h2, h3⟩ := HCn4.out
                    exact ⟨cs, h1.kept (hb5d.block g hlow), h2, h3⟩
                  exact hcn5.congr fun q hq => (cpN_no (HNc.out q)).symm
              clear hc5 hb5
              go_simp
              refine hK1 _ _ (fun h => by cases h) ?_
              clear hK1 K1
              refine wpPre_nil ?_
              refine wpTr_done ?_
              obtain ⟨v1', v2', hRn⟩ := HRn.out
              have HRm := hid hRn
              clear hRn
              go_wp2
              go_roundw
              case rel => exact ⟨k + 1, v1', v2', by omega, by go_num, HRm.out⟩
              case measure => simp [intOf]; omega
          · by_cases hk3 : (l.item (a + k)).kind = 3
            · have hne : ¬ (l.item (a + k)).id = i := fun h => hc3 ⟨hk3, h⟩
              have hp0 : (l.item (a + k)).port = 0 := by have := HD.out; omega
              have HK3 := hid hk3
              rw [hk3] at n0
              rw [hp0] at n2 m1
              rw [hk3, hp0]
              have HK1 := hid hk1
              clear hc3 hk1 hk3 hp0
              go_upto_region 12 with fail
              refine wp_region_calmE 30 (fun wx => Below V3.heap.size V3 wx) [(0, false), (1, false)] (.one 2 true [(3, true), (4, true)] .done) (by kernel_rfl) (by kernel_rfl) (Below.refl _ _).drew ?_
              refine wpPre_e rfl rfl (fun K1 hK1 => ?_)
              apply Exists.intro
              refine And.intro (fun wx hx => ?_) ?_
              · have e0 := below_fact hx rfl n0
                have e1 := below_fact hx rfl n1
                have e2 := below_fact hx rfl n2
                have e3 := below_fact hx rfl n3
                have e4 := below_fact hx rfl m0
                have e5 := below_fact hx rfl m1
                go_simp
                try rfl
              go_simp
              refine hK1 _ ?_
              clear hK1 K1
              refine wpPre_e rfl rfl (fun K1 hK1 => ?_)
              apply Exists.intro
              refine And.intro (fun wx hx => ?_) ?_
              · have e0 := below_fact hx rfl n0
                have e1 := below_fact hx rfl n1
                have e2 := below_fact hx rfl n2
                have e3 := below_fact hx rfl n3
                have e4 := below_fact hx rfl m0
                have e5 := below_fact hx rfl m1
                go_simp
                try rfl
              go_simp
              refine hK1 _ ?_
              clear hK1 K1
              refine wpPre_nil ?_
              refine wpTr_e rfl (fun K1 hK1 => ?_)
              refine step_callG (by first | rfl | go_simp) 45 #[.tmp 53] _ rfl Try.f45 Try.func45 (by kernel_rfl) rfl #[.agg #[.int .i64 (tt : Int), .int .i64 0]] rfl _ (stepOf_any (tt : Int) 0 V3.drew) ?_
              rintro e_ V4 ⟨rfl, hb4⟩
              refine ⟨_, rfl, ?_⟩
              have HB4 : Hid (Below V3.heap.size V3 V4) := (Below.refl _ _).drew.trans hb4
              clear hb4
              go_simp
              refine hK1 _ _ (fun _ => HB4.out) ?_
              clear hK1 K1
              refine wpPre_e rfl rfl (fun K1 hK1 => ?_)
              apply Exists.intro
              refine And.intro (fun wx hx => ?_) ?_
              · go_simp
                try rfl
              go_simp
              refine hK1 _ ?_
              clear hK1 K1
              refine wpPre_e rfl rfl (fun K1 hK1 => ?_)
              apply Exists.intro
              refine And.intro (fun wx hx => ?_) ?_
              · go_simp
                try rfl
              go_simp
              refine hK1 _ ?_
              clear hK1 K1
              refine wpPre_nil ?_
              refine wpTr_done ?_
              have HRn : Hid (RdI l.item a i g T W2.heap.size W3.heap.size (.int .i64 bg) (.slice pa (a - 1) ca) (.slice (some ⟨b1, o1, none⟩) (b - a) ce) W4 V4 (k + 1) v1 v2) := by
                have hbt : But (fun _ => False) V3 V4 := But.ofBelow HB4.out
                refine ⟨?_, ?_, HBut3.out.trans (hbt.mono fun q _ e => e.elim)⟩
                · rw [evsF_no (fun h => HK1.out h.1), evsF_no (fun h => HK1.out h.1)]
                  exact HCut3.out.below HB4.out
                · refine (HCnt3.out.below HB4.out).congr fun q hq => ?_
                  rw [cpN_no (fun h => HC3.out ⟨h.1, h.2.1⟩)]
              go_wp2
              go_roundw
              case rel => exact ⟨k + 1, v1, v2, by omega, by go_num, HRn.out⟩
              case measure => simp [intOf]; omega
            · have HK1 := hid hk1
              clear hc3
              go_upto_region 12 with fail
              refine wp_region_calmE 30 (fun wx => Below V3.heap.size V3 wx) [(0, false), (1, false)] (.one 2 true [(3, true), (4, true)] .done) (by kernel_rfl) (by kernel_rfl) (Below.refl _ _).drew ?_
              refine wpPre_e rfl rfl (fun K1 hK1 => ?_)
              apply Exists.intro
              refine And.intro (fun wx hx => ?_) ?_
              · have e0 := below_fact hx rfl n0
                have e1 := below_fact hx rfl n1
                have e2 := below_fact hx rfl n2
                have e3 := below_fact hx rfl n3
                have e4 := below_fact hx rfl m0
                have e5 := below_fact hx rfl m1
                go_simp
                try rfl
              go_simp
              refine hK1 _ ?_
              clear hK1 K1
              refine wpPre_e rfl rfl (fun K1 hK1 => ?_)
              apply Exists.intro
              refine And.intro (fun wx hx => ?_) ?_
              · have e0 := below_fact hx rfl n0
                have e1 := below_fact hx rfl n1
                have e2 := below_fact hx rfl n2
                have e3 := below_fact hx rfl n3
                have e4 := below_fact hx rfl m0
                have e5 := below_fact hx rfl m1
                go_simp
                try rfl
              go_simp
              refine hK1 _ ?_
              clear hK1 K1
              refine wpPre_nil ?_
              refine wpTr_e rfl (fun K1 hK1 => ?_)
              refine step_callG (by first | rfl | go_simp) 45 #[.tmp 53] _ rfl Try.f45 Try.func45 (by kernel_rfl) rfl #[.agg #[.int .i64 (tt : Int), .int .i64 (l.item (a + k)).port]] rfl _ (stepOf_any (tt : Int) (l.item (a + k)).port V3.drew) ?_
              rintro e_ V4 ⟨rfl, hb4⟩
              refine ⟨_, rfl, ?_⟩
              have HB4 : Hid (Below V3.heap.size V3 V4) := (Below.refl _ _).drew.trans hb4
              clear hb4
              go_simp
              refine hK1 _ _ (fun _ => HB4.out) ?_
              clear hK1 K1
              refine wpPre_e rfl rfl (fun K1 hK1 => ?_)
              apply Exists.intro
              refine And.intro (fun wx hx => ?_) ?_
              · go_simp
                try rfl
              go_simp
              refine hK1 _ ?_
              clear hK1 K1
              refine wpPre_e rfl rfl (fun K1 hK1 => ?_)
              apply Exists.intro
              refine And.intro (fun wx hx => ?_) ?_
              · go_simp
                try rfl
              go_simp
              refine hK1 _ ?_
              clear hK1 K1
              refine wpPre_nil ?_
              refine wpTr_done ?_
              have HRn : Hid (RdI l.item a i g T W2.heap.size W3.heap.size (.int .i64 bg) (.slice pa (a - 1) ca) (.slice (some ⟨b1, o1, none⟩) (b - a) ce) W4 V4 (k + 1) v1 v2) := by
                have hbt : But (fun _ => False) V3 V4 := But.ofBelow HB4.out
                refine ⟨?_, ?_, HBut3.out.trans (hbt.mono fun q _ e => e.elim)⟩
                · rw [evsF_no (fun h => HK1.out h.1), evsF_no (fun h => HK1.out h.1)]
                  exact HCut3.out.below HB4.out
                · refine (HCnt3.out.below HB4.out).congr fun q hq => ?_
                  rw [cpN_no (fun h => HC3.out ⟨h.1, h.2.1⟩)]
              go_wp2
              go_roundw
              case rel => exact ⟨k + 1, v1, v2, by omega, by go_num, HRn.out⟩
              case measure => simp [intOf]; omega
      · obtain rfl : k = b - a := by omega
        obtain ⟨p1, c1, hv1⟩ := ownsRow_slice HR.out.cut.r1
        obtain ⟨p2, c2, hv2⟩ := ownsRow_slice HR.out.cut.r2
        subst hv1
        subst hv2
        have z0r := HBAr.out.cell 0
        simp at z0r
        have bCr := HBC4.out.but HR.out.but (fun e => by omega)
        have HBCr := hid bCr
        have bDr := HR.out.cut.box
        have HCF := hid (containsFunc_any g T c _ wr hT h0T HR.out.cnt)
        have hbutw : But (fun q => q = g) w wr := ⟨HR.out.but.os.trans (HBut4.out.os.trans HBw3.out.os), HR.out.but.tape.trans (HBut4.out.tape.trans HBw3.out.tape), HR.out.but.output.trans (HBut4.out.output.trans HBw3.out.output), by have := HR.out.but.size; omega, fun q hq hx => (HR.out.but.block q (by omega) (fun e => by rcases e with e | e; exact hx e; omega)).trans ((HBut4.out.block q (by omega) hx).trans (HBw3.out.block q hq))⟩
        have HBw := hid hbutw
        have hbe : a + (b - a) = b := by omega
        have HBe := hid hbe
        have s0 := bCr.cell 0
        have s1 := bCr.cell 1
        have s2 := bCr.cell 2
        have s3 := bCr.cell 3
        have s4 := bCr.cell 4
        have f0 := bCr.frozen 0
        have f1 := bCr.frozen 1
        have f2 := bCr.frozen 2
        have f3 := bCr.frozen 3
        have f4 := bCr.frozen 4
        have sl := bCr.lt
        have u0 := bDr.cell 0
        have u1 := bDr.cell 1
        have u2 := bDr.cell 2
        have u3 := bDr.cell 3
        have u4 := bDr.cell 4
        simp at s0 s1 s2 s3 s4 u0 u1 u2 u3 u4
        clear bCr bDr hbutw hbe hBw3 hS1 hS2 hS3 hS4
        go_wp2_with fail
        refine HCF.out.mono ?_
        rintro e w9 ⟨⟨r, rfl, hr, _⟩, rfl⟩
        clear HCF
        cases r with
        | true =>
          have HN : Hid (¬ AllCp l.item a b i T) := by
            obtain ⟨t, ht, hne⟩ := hr.1 rfl
            intro hall
            obtain ⟨m, hm⟩ := hall t ht
            exact hne (cpN_one.2 ⟨m, by rw [HBe.out]; exact hm⟩)
          clear hr
          go_wp2
          have hbx := set5 (y0 := .int .i64 0) (y1 := .slice none 0 0) (y2 := .slice none 0 0) (y3 := .slice none 0 0) (y4 := .slice none 0 0) HBCr.out
          have g0 := hbx.cell 0
          have g1 := hbx.cell 1
          have g2 := hbx.cell 2
          have g3 := hbx.cell 3
          have g4 := hbx.cell 4
          simp at g0 g1 g2 g3 g4
          have hb5 := but5 (But.one w9 (w.heap.size + 1)) (.int .i64 0) (.slice none 0 0) (.slice none 0 0) (.slice none 0 0) (.slice none 0 0)
          have hfin : But (fun q => q = g) w _ := ⟨hb5.os.trans HBw.out.os, hb5.tape.trans HBw.out.tape, hb5.output.trans HBw.out.output, Nat.le_trans HBw.out.size hb5.size, fun q hq hx => (hb5.block q (Nat.lt_of_lt_of_le hq HBw.out.size) (fun e => by omega)).trans (HBw.out.block q hq hx)⟩
          exact bodyPost_ret (v := .tuple #[.agg #[.int .i64 0, .slice none 0 0, .slice none 0 0, .slice none 0 0, .slice none 0 0], .int .i64 181]) (by simp [results, Try.results34, go_sem, g0, g1, g2, g3, g4]) rfl ⟨hfin, HR.out.cnt.raw.but hb5 (fun e => by omega), .inr (.inl ⟨a, b, HLf2.out, HN.out, rfl⟩)⟩
        | false =>
          have HO : Hid (∃ m : Nat → Nat, ∀ t : Nat, t < T → OneCp l.item a b i (t : Int) (m t)) := by
            have h1 : ∀ t : Nat, ∃ m, t < T → OneCp l.item a b i (t : Int) m := by
              intro t
              by_cases ht : t < T
              · have h2 : cpN l.item a i t (b - a) = 1 := by
                  rcases Nat.decEq (cpN l.item a i t (b - a)) 1 with h | h
                  · have := hr.2 ⟨t, ht, h⟩
                    cases this
                  · exact h
                obtain ⟨m, hm⟩ := cpN_one.1 h2
                rw [HBe.out] at hm
                exact ⟨m, fun _ => hm⟩
              · exact ⟨0, fun h => (ht h).elim⟩
            exact Classical.axiomOfChoice h1
          clear hr
          go_wp2
          obtain ⟨m, hm⟩ := HO.out
          have hbx := set5 (y0 := .int .i64 bg) (y1 := .slice pa (a - 1) ca) (y2 := .slice pe (b - a) ce) (y3 := .slice p1 (evsF l.item (befC l.item a i true) a (b - a)).length c1) (y4 := .slice p2 (evsF l.item (befC l.item a i false) a (b - a)).length c2) HBCr.out
          have g0 := hbx.cell 0
          have g1 := hbx.cell 1
          have g2 := hbx.cell 2
          have g3 := hbx.cell 3
          have g4 := hbx.cell 4
          simp at g0 g1 g2 g3 g4
          have hb5 := but5 (But.one w9 (w.heap.size + 1)) (.int .i64 bg) (.slice pa (a - 1) ca) (.slice pe (b - a) ce) (.slice p1 (evsF l.item (befC l.item a i true) a (b - a)).length c1) (.slice p2 (evsF l.item (befC l.item a i false) a (b - a)).length c2)
          have hfin : But (fun q => q = g) w _ := ⟨hb5.os.trans HBw.out.os, hb5.tape.trans HBw.out.tape, hb5.output.trans HBw.out.output, Nat.le_trans HBw.out.size hb5.size, fun q hq hx => (hb5.block q (Nat.lt_of_lt_of_le hq HBw.out.size) (fun e => by omega)).trans (HBw.out.block q hq hx)⟩
          have hcn : ∀ q, a ≤ q → q < b → Can (T : Int) (l.item q) := fun q _ h2 => HCan.out q (by omega)
          have hsz := HS3.out
          have hsz2 := HS2.out
          have hsz1 := HS1.out
          refine bodyPost_ret (v := .tuple #[.agg #[.int .i64 bg, .slice pa (a - 1) ca, .slice pe (b - a) ce, .slice p1 (evsF l.item (befC l.item a i true) a (b - a)).length c1, .slice p2 (evsF l.item (befC l.item a i false) a (b - a)).length c2], .int .i64 0]) (by simp [results, Try.results34, go_sem, g0, g1, g2, g3, g4]) rfl ⟨hfin, HR.out.cnt.raw.but hb5 (fun e => by omega), .inr (.inr ⟨a, b, m, pa, pe, ca, ce, _, _, HLf2.out, hm, ?_, ?_, ?_, ?_, ?_, HR.out.cut.ap⟩)⟩
          · rw [HBg.out]
          · exact ((HA4.out.but HR.out.but (fun q hq _ e => by rcases e with e | e; exact HSg.out q hq.1 hq.2 e; have := hq.2; omega)).but hb5 (fun q hq _ e => by have := hq.2; omega)).mono fun q hq _ => hq.1
          · exact (HEr.out.but hb5 (fun q hq _ e => by have := hq.2; omega)).mono fun q hq _ => hq.1
          · rw [← befC_befP hcn (by simpa using hm)]
            exact (HR.out.cut.r1.keep fun q hq hl => hb5.block q hl (fun e => by omega)).mono (by omega)
          · rw [← befC_befP hcn (by simpa using hm)]
            exact (HR.out.cut.r2.keep fun q hq hl => hb5.block q hl (fun e => by omega)).mono (by omega)
end Go.Proofs.Ytdpfgflofjiheaa
