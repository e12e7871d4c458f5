import Derived.Test.YtdncnnjhfipokaaPack23
import Derived.Test.YtdncnnjhfipokaaPack12
import Derived.Deep.DeepCutAuto
namespace Go.Proofs.Ytdncnnjhfipokaa
open Go.RowKit
set_option maxRecDepth 8000
def Rb.doneB (R : Rb) (N : Nat) : Bool := (decide (0 ≤ R.cp) && !R.hd) && (List.range N).all fun p => decide (0 ≤ R.cl (p : Int))
def Rb.hand (R : Rb) : Rb := { R with hd := true }
theorem Rb.recs_hand (R : Rb) (p c : Int) : ∀ k : Nat, R.hand.recs p c k = R.recs p c k
  | 0 => rfl
  | k + 1 => by simp only [Rb.recs, Rb.recs_hand R p c k]; rfl
theorem Rb.cpg_hand (R : Rb) : ∀ k : Nat, R.hand.cpg k = R.cpg k
  | 0 => rfl
  | k + 1 => by simp only [Rb.cpg, Rb.cpg_hand R k]; rfl
theorem Rb.cp_hand (R : Rb) : R.hand.cp = R.cp := by
  unfold Rb.cp
  rw [Rb.cpg_hand]
  rfl
theorem RSet.far {w w1 w2 : World} {b x : Nat} {R R1 : Rb} (h : RSet w b R w1 R1) (hb : But (fun k => k = x) w1 w2) (hx : w.heap.size ≤ x) (hn : ¬ R1.C b x) : RSet w b R w2 R1 :=
  ⟨h.inv.kept (fun k hk hl => hb.block k hl (fun e => hn (by rw [← e]; exact hk))), ⟨hb.os.trans h.but.os, hb.tape.trans h.but.tape, hb.output.trans h.but.output, Nat.le_trans h.but.size hb.size, fun k hl hn' => (hb.block k (Nat.lt_of_lt_of_le hl h.but.size) (by omega)).trans (h.but.block k hl hn')⟩, h.cs⟩
theorem Rb.log_hand (R : Rb) (p : Int) : R.hand.logL p = R.logL p := by
  unfold Rb.logL
  rw [Rb.cp_hand, show R.hand.cl p = R.cl p from rfl, Rb.recs_hand]
  rfl
structure RPartY (R : Rb) (N : Nat) (w w' : World) (e : Ending) (l1 : LT VT) (q1 : LT RT) (lg : LT (LT RT)) : Prop where
  e_ : e = .returned (.tuple #[.int .i64 R.last, .agg #[.int .i64 (R.ls.item R.cp.toNat).num, .slice l1.p l1.n l1.c, .slice lg.p lg.n lg.c, .slice q1.p q1.n q1.c], .bool true])
  n_ : lg.n = N
  al : LT.Alk VT.Alike (R.ls.item R.cp.toNat).l l1
  aq : LT.Alk RT.Alike (R.ls.item R.cp.toNat).q q1
  ag : ∀ p, p < N → LT.Alk RT.Alike (ofL (R.logL (p : Int)) none 0) (lg.item p)
  il : LT.In elCell w' (fun k => w.heap.size ≤ k) l1
  iq : LT.In elRec w' (fun k => w.heap.size ≤ k) q1
  ig : LT.In elRecs w' (fun k => w.heap.size ≤ k) lg
structure RPartQ (w : World) (rb : Nat) (R : Rb) (N : Nat) (e : Ending) (w' : World) (R' : Rb) : Prop where
  s : RSet w rb R w' R'
  n : R.doneB N = false → R' = R ∧ e = .returned (.tuple #[.int .i64 0, .agg #[.int .i64 0, .slice none 0 0, .slice none 0 0, .slice none 0 0], .bool false])
  y : R.doneB N = true → R' = R.hand ∧ ∃ l1 q1 lg, RPartY R N w w' e l1 q1 lg
def RPartP (w : World) (rb : Nat) (R : Rb) (N : Nat) (e : Ending) (w' : World) : Prop := ∃ R', RPartQ w rb R N e w' R'
set_option maxHeartbeats 16000000 in
theorem rpart_any (w : World) (S : Nat → Prop) (rb : Nat) (R : Rb) (N : Nat) (hI : RbI w rb R) (hn : R.ls.n ≤ 10000) (hpN : R.ports = (N : Int)) (hN4 : N ≤ 4) (hS : ∀ k, S k → ¬ R.C rb k) (hin : ∀ j, j < R.ls.n → TD.In w S (R.ls.item j)) (hsz : ∀ j, j < R.ls.n → TdSz (R.ls.item j)) :
    Calls Try.prog 48 #[.pointer (some ⟨rb, 0, none⟩)] w fun e w' => RPartP w rb R N e w' := by
  have hp : 0 ≤ R.ports := by omega
  have hp4 : R.ports ≤ 4 := by omega
  obtain ⟨W, hW⟩ : ∃ W, W = w.alloc (.cells #[.int .i64 0, .slice none 0 0, .slice none 0 0, .slice none 0 0] 49) := ⟨_, rfl⟩
  have hB : Below w.heap.size w W := by rw [hW]; exact (Below.refl _ _).alloc (Nat.le_refl _) _
  have hX : Box W w.heap.size #[.int .i64 0, .slice none 0 0, .slice none 0 0, .slice none 0 0] 49 := by rw [hW]; exact Box.new _ _ _
  have HB := hid hB
  have HI := hid hI
  have HIW := hid (hI.below hB)
  have HX := hid hX
  have HC := hid (copied_any W rb R HIW.out (by omega) hp hp4)
  have HIn := hid hin
  have HSz0 := hid hsz
  have HSc := hid hS
  have hsb : w.heap.size ≠ rb := by have := hI.box.lt; omega
  clear hX hI hB hin hsz hS
  rcases R.cp_range with hc | hc
  · have HD : Hid (R.doneB N = false) := by unfold Hid Rb.doneB; rw [decide_eq_false (by omega)]; rfl
    go_enter Try.func48, Try.ntmps48
    go_wp2_with (first | (rw [← hW]; clear hW) | (go_at_call 64; refine HC.out.mono ?_; rintro e w1 ⟨rfl, hb1⟩; rw [hc]; have hX1 := HX.out.below hb1; have z0 := hX1.cell 0; have z1 := hX1.cell 1; have z2 := hX1.cell 2; have z3 := hX1.cell 3; have f0 := hX1.frozen 0; have f1 := hX1.frozen 1; have f2 := hX1.frozen 2; have f3 := hX1.frozen 3; have xl := hX1.lt; simp at z0 z1 z2 z3))
    refine bodyPost_ret (v := .tuple #[.int .i64 0, .agg #[.int .i64 0, .slice none 0 0, .slice none 0 0, .slice none 0 0], .bool false]) (by simp [results, Try.results48, go_sem, z0, z1, z2, z3]) rfl ?_
    have hbt := ((((But.one w1 w.heap.size).setAt 0 (.int .i64 0)).setAt 1 (.slice none 0 0)).setAt 2 (.slice none 0 0)).setAt 3 (.slice none 0 0)
    have hb := HB.out.trans (hb1.mono HB.out.size)
    exact ⟨R, RSet.same HI.out (hb.trans (hbt.below hb.size (fun k hk e => by omega))), fun _ => ⟨rfl, rfl⟩, fun h => by rw [HD.out] at h; cases h⟩
  rcases hhd : R.hd with _ | _
  rotate_left
  · have HD : Hid (R.doneB N = false) := by unfold Hid Rb.doneB; rw [hhd]; simp
    have hc' : ¬ R.cp < 0 := by omega
    have HH := hid hhd
    clear hhd
    go_enter Try.func48, Try.ntmps48
    go_wp2_with (first | (rw [← hW]; clear hW) | (go_at_call 64; refine HC.out.mono ?_; rintro e w1 ⟨rfl, hb1⟩; have hX1 := HX.out.below hb1; have z0 := hX1.cell 0; have z1 := hX1.cell 1; have z2 := hX1.cell 2; have z3 := hX1.cell 3; have f0 := hX1.frozen 0; have f1 := hX1.frozen 1; have f2 := hX1.frozen 2; have f3 := hX1.frozen 3; have xl := hX1.lt; simp at z0 z1 z2 z3; have c5 := (HIW.out.below hb1).box.cell 5; have hbl := (HIW.out.below hb1).box.lt; simp [Rb.arr] at c5; rw [HH.out] at c5))
    refine bodyPost_ret (v := .tuple #[.int .i64 0, .agg #[.int .i64 0, .slice none 0 0, .slice none 0 0, .slice none 0 0], .bool false]) (by simp [results, Try.results48, go_sem, z0, z1, z2, z3]) rfl ?_
    have hbt := ((((But.one w1 w.heap.size).setAt 0 (.int .i64 0)).setAt 1 (.slice none 0 0)).setAt 2 (.slice none 0 0)).setAt 3 (.slice none 0 0)
    have hb := HB.out.trans (hb1.mono HB.out.size)
    exact ⟨R, RSet.same HI.out (hb.trans (hbt.below hb.size (fun k hk e => by omega))), fun _ => ⟨rfl, rfl⟩, fun h => by rw [HD.out] at h; cases h⟩
  obtain ⟨C, hC⟩ : ∃ C : Nat, R.cp = (C : Int) := ⟨R.cp.toNat, by omega⟩
  have hCn : C < R.ls.n := by
    rcases Nat.eq_zero_or_pos R.ls.n with h | h
    · rw [Rb.cp, if_pos h] at hc; omega
    · have := R.cp_lt h; omega
  have hCt : R.cp.toNat = C := by omega
  have HCt := hid hCt
  have HHd := hid hhd
  have HCp : Hid (0 ≤ R.cp) := hc
  obtain ⟨i1, Kd⟩ := kindRss
  have HKd := hid Kd
  clear hhd hc Kd hCt
  go_enter Try.func48, Try.ntmps48
  go_wp2_with (first | (rw [← hW]; clear hW) | (go_at_call 64; refine HC.out.mono ?_; rintro e w1 ⟨rfl, hb1⟩; rw [hC]; have HB1 := hid hb1; have c5 := (HIW.out.below hb1).box.cell 5; have hbl := (HIW.out.below hb1).box.lt; simp [Rb.arr] at c5; rw [HHd.out] at c5; clear hb1))
  clear c5 HC
  go_loopw [6] (fun x wr => ∃ k : Nat, k ≤ N ∧ x = .int .i64 (k : Int) ∧ (∀ p, p < k → 0 ≤ R.cl (p : Int)) ∧ Below W.heap.size W wr) (fun x _ => N - (intOf x).toNat)
  case atStart => exact ⟨0, Nat.zero_le _, rfl, fun p hp => absurd hp (by omega), HB1.out⟩
  case round =>
    obtain ⟨k, hk, rfl, hcl, hbel⟩ := hrel
    have HCl := hid hcl
    have HBl := hid hbel
    have hI2 := HIW.out.below hbel
    have hX2 := HX.out.below hbel
    have c1 := hI2.box.cell 1
    have hbl2 := hI2.box.lt
    simp [Rb.arr] at c1
    rw [hpN] at c1
    clear hcl HB1
    by_cases hlt : k < N
    · have hlt' : (k : Int) < (N : Int) := by omega
      have HCc := hid (closed_any (k : Int) wr rb R hI2 (by omega))
      rcases R.cl_range (k : Int) with hl | hl
      · have HD : Hid (R.doneB N = false) := by
          unfold Hid Rb.doneB
          rw [show ((List.range N).all fun p => decide (0 ≤ R.cl (p : Int))) = false from by
            rw [List.all_eq_false]
            exact ⟨k, List.mem_range.2 hlt, by simp; omega⟩]
          simp
        have HX2 := hid hX2
        clear hbel hI2 hX2
        go_wp2_with (go_at_call 63; refine HCc.out.mono ?_; rintro e w3 ⟨rfl, hb3⟩; rw [hl]; have hX1 := HX2.out.below hb3; have z0 := hX1.cell 0; have z1 := hX1.cell 1; have z2 := hX1.cell 2; have z3 := hX1.cell 3; have f0 := hX1.frozen 0; have f1 := hX1.frozen 1; have f2 := hX1.frozen 2; have f3 := hX1.frozen 3; have xl := hX1.lt; simp at z0 z1 z2 z3)
        refine bodyPost_ret (v := .tuple #[.int .i64 0, .agg #[.int .i64 0, .slice none 0 0, .slice none 0 0, .slice none 0 0], .bool false]) (by simp [results, Try.results48, go_sem, z0, z1, z2, z3]) rfl ?_
        have hbt := ((((But.one w3 w.heap.size).setAt 0 (.int .i64 0)).setAt 1 (.slice none 0 0)).setAt 2 (.slice none 0 0)).setAt 3 (.slice none 0 0)
        have hb := (HB.out.trans (HBl.out.mono HB.out.size)).trans (hb3.mono (Nat.le_trans HB.out.size HBl.out.size))
        exact ⟨R, RSet.same HI.out (hb.trans (hbt.below hb.size (fun k hk e => by omega))), fun _ => ⟨rfl, rfl⟩, fun h => by rw [HD.out] at h; cases h⟩
      · have hl0 : ¬ R.cl (k : Int) < 0 := by omega
        have HCl2 : Hid (∀ p, p < k + 1 → 0 ≤ R.cl (p : Int)) := fun p hp => by
          rcases Nat.lt_or_ge p k with h | h
          · exact HCl.out p h
          · rw [show p = k by omega]; exact hl.1
        clear hbel hI2 hX2 hl
        go_wp2_with (go_at_call 63; refine HCc.out.mono ?_; rintro e w3 ⟨rfl, hb3⟩)
        have HB3 := hid (HBl.out.trans (hb3.mono HBl.out.size))
        clear hb3 HCc
        go_roundw
        case rel => exact ⟨k + 1, by omega, by go_num, HCl2.out, HB3.out⟩
        case measure => simp [intOf]; omega
    have hlt' : ¬ (k : Int) < (N : Int) := by omega
    obtain rfl : N = k := by omega
    have HD : Hid (R.doneB N = true) := by
      unfold Hid Rb.doneB
      rw [decide_eq_true HCp.out, HHd.out, List.all_eq_true.2 (fun p hp => decide_eq_true (HCl.out p (List.mem_range.1 hp)))]
      rfl
    have c5 := hI2.box.cell 5
    have f5 := hI2.box.frozen 5
    simp [Rb.arr] at c5
    have HI2 := hid hI2
    have HX2 := hid hX2
    clear hI2 hX2 hbel
    go_upto_region 10 with fail
    obtain ⟨w2, hw2⟩ : ∃ x, x = wr.setCell ⟨rb, 5, none⟩ (.bool true) := ⟨_, rfl⟩
    rw [← hw2]
    obtain ⟨RH, hRH⟩ : ∃ x, x = R.hand := ⟨_, rfl⟩
    have hbt : But (fun k => k = rb) wr w2 := by rw [hw2]; exact (But.one wr rb).setAt 5 _
    have hb0 : Below w.heap.size w wr := HB.out.trans (HBl.out.mono HB.out.size)
    have HS2 : Hid (RSet w rb R w2 RH) := by
      unfold Hid
      refine (RSet.same HI.out hb0).trans ?_
      rw [hRH]
      refine HI2.out.chg rfl ?_ hbt
      have h := HI2.out.box.set 5 (.bool true)
      rw [hw2]
      exact h
    have HXw : Hid (Box w2 w.heap.size #[.int .i64 0, .slice none 0 0, .slice none 0 0, .slice none 0 0] 49) := HX2.out.kept (hbt.block _ HX2.out.lt hsb)
    have hls : RH.ls = R.ls := by rw [hRH]; rfl
    have HRHe := hid hRH
    have HRR : Hid (RH.ls = R.ls ∧ RH.cp = R.cp ∧ RH.last = R.last ∧ RH.ports = R.ports ∧ (∀ p, RH.cl p = R.cl p) ∧ (∀ p, RH.logL p = R.logL p)) := by unfold Hid; rw [hRH]; exact ⟨rfl, R.cp_hand, rfl, rfl, fun _ => rfl, R.log_hand⟩
    have HTd : Hid (∀ W, Below w2.heap.size w2 W → ∀ j, j < RH.ls.n → TD.In W (fun _ => True) (RH.ls.item j)) := fun W hW j hj => by
      rw [hls] at hj ⊢
      have h1 : TD.In w2 S (R.ls.item j) := elTd.kept (HIn.out j hj) HS2.out.but.size (fun k hk hl => HS2.out.but.block k hl (HSc.out k hk))
      exact elTd.mono (elTd.kept h1 hW.size (fun k _ hl => hW.block k hl)) fun _ _ _ => trivial
    have HSz : Hid (∀ j, j < RH.ls.n → TdSz (RH.ls.item j)) := fun j hj => by rw [hls] at hj ⊢; exact HSz0.out j hj
    obtain ⟨gb, o, hgp, _, hgl, hat⟩ := (HS2.out.inv.list (by rw [hls]; omega)).at_ (by rw [hls]; omega)
    have c4 := HS2.out.inv.box.cell 4
    simp [Rb.arr] at c4
    rw [hls] at c4 hgp hat
    have t9 : w2.cell? ⟨gb, o + C * 12 + 9, none⟩ = some (.int .i64 (R.ls.item C).num) := hat C hCn 9 _ rfl
    have t10 : w2.cell? ⟨gb, o + C * 12 + 10, none⟩ = some (.slice (R.ls.item C).l.p (R.ls.item C).l.n (R.ls.item C).l.c) := hat C hCn 10 _ rfl
    have t11 : w2.cell? ⟨gb, o + C * 12 + 11, none⟩ = some (.slice (R.ls.item C).q.p (R.ls.item C).q.n (R.ls.item C).q.c) := hat C hCn 11 _ rfl
    rw [hgp] at c4
    have hbl3 := HS2.out.inv.box.lt
    have hCn' : (C : Int) < (R.ls.n : Int) := by omega
    have HCS : Hid (∀ V, Below w2.heap.size w2 V → Calls Try.prog 66 #[.agg #[.int .i64 (R.ls.item C).num, .slice (R.ls.item C).l.p (R.ls.item C).l.n (R.ls.item C).l.c]] V fun e w' => ∃ u : LT VT, e = .returned (.agg #[.int .i64 (R.ls.item C).num, .slice u.p u.n u.c]) ∧ LT.Alk VT.Alike (R.ls.item C).l u ∧ LT.In elCell w' (fun b => V.heap.size ≤ b) u ∧ Below V.heap.size V w') := fun V hV =>
      r_copyS _ _ V (fun _ => True) (by have := (HTd.out V hV C (by rw [HRR.out.1]; exact hCn)).l; rw [HRR.out.1] at this; exact this) (HSz0.out C hCn).l
    have HCR : Hid (∀ V, Below w2.heap.size w2 V → Calls Try.prog 65 #[.slice (R.ls.item C).q.p (R.ls.item C).q.n (R.ls.item C).q.c] V fun e w' => ∃ u : LT RT, e = .returned (.slice u.p u.n u.c) ∧ LT.Alk RT.Alike (R.ls.item C).q u ∧ LT.In elRec w' (fun b => V.heap.size ≤ b) u ∧ Below V.heap.size V w') := fun V hV =>
      r_copyRs _ V (fun _ => True) (by have := (HTd.out V hV C (by rw [HRR.out.1]; exact hCn)).q; rw [HRR.out.1] at this; exact this) (HSz0.out C hCn).q
    clear hat hgp hw2 hRH hbt hb0 c5 f5 HI2 HX2 c1 hls
    go_cut [7] (fun s7 wx => ∃ (pb : Nat) (l1 : LT VT) (q1 : LT RT), s7 = .pointer (some ⟨pb, 0, none⟩) ∧ w2.heap.size ≤ pb ∧ Box wx pb #[.int .i64 (R.ls.item C).num, .slice l1.p l1.n l1.c, .slice none 0 0, .slice q1.p q1.n q1.c] 49 ∧ Below w2.heap.size w2 wx ∧ LT.Alk VT.Alike (R.ls.item C).l l1 ∧ LT.Alk RT.Alike (R.ls.item C).q q1 ∧ LT.In elCell wx (fun k => w2.heap.size ≤ k ∧ k ≠ pb) l1 ∧ LT.In elRec wx (fun k => w2.heap.size ≤ k ∧ k ≠ pb) q1)
    case first =>
      refine wp_region_calmE 30 (fun wx => Below w2.heap.size w2 wx) [(0, true), (1, true), (2, true), (3, false), (4, true), (5, true), (6, true), (7, false), (9, true), (10, true), (11, true), (12, false), (13, true), (14, true), (15, true), (16, false)] (.two 8 true [] (.two 17 true [(18, true)] (.one 19 true [] (.one 20 false [] .done)) 19 true [] (.one 17 true [(18, true)] (.one 20 false [] .done))) 19 true [] (.one 8 true [] (.one 17 true [(18, true)] (.one 20 false [] .done)))) (by kernel_rfl) (by kernel_rfl) (Below.refl _ _).drew ?_
      refine wpPre_e rfl rfl (fun K1 hK1 => ?_)
      apply Exists.intro
      refine And.intro (fun wx hx => ?_) ?_
      · go_simp
        try rfl
      go_simp
      refine hK1 _ ?_
      clear hK1 K1
      refine wpPre_e rfl rfl (fun K1 hK1 => ?_)
      apply Exists.intro
      refine And.intro (fun wx hx => ?_) ?_
      · go_simp
        try rfl
      go_simp
      refine hK1 _ ?_
      clear hK1 K1
      refine wpPre_e rfl rfl (fun K1 hK1 => ?_)
      apply Exists.intro
      refine And.intro (fun wx hx => ?_) ?_
      · go_simp
        try rfl
      go_simp
      refine hK1 _ ?_
      clear hK1 K1
      refine wpPre_e rfl rfl (fun K1 hK1 => ?_)
      apply Exists.intro
      refine And.intro (fun wx hx => ?_) ?_
      · have e0 := below_fact hx rfl c4
        have e1 := below_fact hx rfl t9
        have e2 := below_fact hx rfl t10
        have e3 := below_fact hx rfl t11
        go_simp
        try rfl
      go_simp
      refine hK1 _ ?_
      clear hK1 K1
      refine wpPre_e rfl rfl (fun K1 hK1 => ?_)
      apply Exists.intro
      refine And.intro (fun wx hx => ?_) ?_
      · go_simp
        try rfl
      go_simp
      refine hK1 _ ?_
      clear hK1 K1
      refine wpPre_e rfl rfl (fun K1 hK1 => ?_)
      apply Exists.intro
      refine And.intro (fun wx hx => ?_) ?_
      · go_simp
        try rfl
      go_simp
      refine hK1 _ ?_
      clear hK1 K1
      refine wpPre_e rfl rfl (fun K1 hK1 => ?_)
      apply Exists.intro
      refine And.intro (fun wx hx => ?_) ?_
      · go_simp
        try rfl
      go_simp
      refine hK1 _ ?_
      clear hK1 K1
      refine wpPre_e rfl rfl (fun K1 hK1 => ?_)
      apply Exists.intro
      refine And.intro (fun wx hx => ?_) ?_
      · have e0 := below_fact hx rfl c4
        have e1 := below_fact hx rfl t9
        have e2 := below_fact hx rfl t10
        have e3 := below_fact hx rfl t11
        go_simp
        try rfl
      go_simp
      refine hK1 _ ?_
      clear hK1 K1
      refine wpPre_e rfl rfl (fun K1 hK1 => ?_)
      apply Exists.intro
      refine And.intro (fun wx hx => ?_) ?_
      · go_simp
        try rfl
      go_simp
      refine hK1 _ ?_
      clear hK1 K1
      refine wpPre_e rfl rfl (fun K1 hK1 => ?_)
      apply Exists.intro
      refine And.intro (fun wx hx => ?_) ?_
      · go_simp
        try rfl
      go_simp
      refine hK1 _ ?_
      clear hK1 K1
      refine wpPre_e rfl rfl (fun K1 hK1 => ?_)
      apply Exists.intro
      refine And.intro (fun wx hx => ?_) ?_
      · go_simp
        try rfl
      go_simp
      refine hK1 _ ?_
      clear hK1 K1
      refine wpPre_e rfl rfl (fun K1 hK1 => ?_)
      apply Exists.intro
      refine And.intro (fun wx hx => ?_) ?_
      · have e0 := below_fact hx rfl c4
        have e1 := below_fact hx rfl t9
        have e2 := below_fact hx rfl t10
        have e3 := below_fact hx rfl t11
        go_simp
        try rfl
      go_simp
      refine hK1 _ ?_
      clear hK1 K1
      refine wpPre_e rfl rfl (fun K1 hK1 => ?_)
      apply Exists.intro
      refine And.intro (fun wx hx => ?_) ?_
      · go_simp
        try rfl
      go_simp
      refine hK1 _ ?_
      clear hK1 K1
      refine wpPre_e rfl rfl (fun K1 hK1 => ?_)
      apply Exists.intro
      refine And.intro (fun wx hx => ?_) ?_
      · go_simp
        try rfl
      go_simp
      refine hK1 _ ?_
      clear hK1 K1
      refine wpPre_e rfl rfl (fun K1 hK1 => ?_)
      apply Exists.intro
      refine And.intro (fun wx hx => ?_) ?_
      · go_simp
        try rfl
      go_simp
      refine hK1 _ ?_
      clear hK1 K1
      refine wpPre_e rfl rfl (fun K1 hK1 => ?_)
      apply Exists.intro
      refine And.intro (fun wx hx => ?_) ?_
      · have e0 := below_fact hx rfl c4
        have e1 := below_fact hx rfl t9
        have e2 := below_fact hx rfl t10
        have e3 := below_fact hx rfl t11
        go_simp
        try rfl
      go_simp
      refine hK1 _ ?_
      clear hK1 K1
      refine wpPre_nil ?_
      refine And.intro ?_ ?_
      · refine wpTr_op rfl (fun K1 hK1 => ?_)
        refine step_call rfl 66 #[.tmp 44] _ rfl Try.f66 Try.func66 (by kernel_rfl) rfl #[.agg #[.int .i64 (R.ls.item C).num, .slice (R.ls.item C).l.p (R.ls.item C).l.n (R.ls.item C).l.c]] rfl _ (HCS.out _ ((Below.refl _ _).drew)) (fun e wA hwA => ?_)
        obtain ⟨l1, rfl, lal, lin, lb⟩ := hwA
        refine ⟨_, rfl, ?_⟩
        have bA : Below w2.heap.size w2 wA := (Below.refl w2.heap.size w2).drew.trans lb
        go_simp
        refine hK1 _ _ (fun _ => bA) ?_
        clear hK1 K1
        refine wpPre_nil ?_
        refine And.intro ?_ ?_
        · refine wpTr_op rfl (fun K1 hK1 => ?_)
          refine step_call rfl 65 #[.tmp 53] _ rfl Try.f65 Try.func65 (by kernel_rfl) rfl #[.slice (R.ls.item C).q.p (R.ls.item C).q.n (R.ls.item C).q.c] rfl _ (HCR.out _ (bA)) (fun e wB hwB => ?_)
          obtain ⟨q1, rfl, qal, qin, qb⟩ := hwB
          refine ⟨_, rfl, ?_⟩
          have bB : Below w2.heap.size w2 wB := bA.trans (qb.mono bA.size)
          go_simp
          refine hK1 _ _ (fun _ => bB) ?_
          clear hK1 K1
          refine wpPre_e rfl rfl (fun K1 hK1 => ?_)
          apply Exists.intro
          refine And.intro (fun wx hx => ?_) ?_
          · go_simp
            try rfl
          go_simp
          refine hK1 _ ?_
          clear hK1 K1
          refine wpPre_nil ?_
          refine wpTr_e rfl (fun K1 hK1 => ?_)
          go_simp
          have bC : Below w2.heap.size w2 (wB.alloc (.cells #[.int .i64 0, .slice none 0 0, .slice none 0 0, .slice none 0 0] 49)) := bB.alloc bB.size _
          refine hK1 _ _ (fun _ => bC) ?_
          clear hK1 K1
          refine wpPre_nil ?_
          refine wpTr_e rfl (fun K1 hK1 => ?_)
          go_simp
          refine hK1 _ _ (fun h => by cases h) ?_
          clear hK1 K1
          refine wpPre_nil ?_
          refine wpTr_done ?_
          go_wp2_with fail
          go_meet
          have hal : Below wB.heap.size wB (wB.alloc (.cells #[.int .i64 (R.ls.item C).num, .slice l1.p l1.n l1.c, .slice none 0 0, .slice q1.p q1.n q1.c] 49)) := (Below.refl _ _).alloc (Nat.le_refl _) _
          exact ⟨wB.heap.size, l1, q1, rfl, bB.size, Box.new _ _ _, bB.alloc bB.size _, lal, qal, ((lin.below qb).mono (S' := fun k => w2.heap.size ≤ k ∧ k ≠ wB.heap.size) (fun k hk hl => ⟨hk, by omega⟩)).below hal, (qin.mono (S' := fun k => w2.heap.size ≤ k ∧ k ≠ wB.heap.size) (fun k hk hl => ⟨by have := bA.size; omega, by omega⟩)).below hal⟩
        · refine wpTr_op rfl (fun K1 hK1 => ?_)
          go_simp
          have hal : Below wA.heap.size wA (wA.alloc (.cells #[.int .i64 0, .slice none 0 0, .slice none 0 0, .slice none 0 0] 49)) := (Below.refl _ _).alloc (Nat.le_refl _) _
          have bX : Below w2.heap.size w2 (wA.alloc (.cells #[.int .i64 0, .slice none 0 0, .slice none 0 0, .slice none 0 0] 49)) := bA.alloc bA.size _
          refine hK1 _ _ (fun _ => bX) ?_
          clear hK1 K1
          refine wpPre_nil ?_
          have hzb := (Box.new wA #[.int .i64 0, .slice none 0 0, .slice none 0 0, .slice none 0 0] 49)
          have hls : LT.In elCell wA (fun k => w2.heap.size ≤ k ∧ k ≠ wA.heap.size) l1 := lin.mono (fun k hk hl => ⟨hk, by omega⟩)
          generalize hWX : wA.alloc (.cells #[.int .i64 0, .slice none 0 0, .slice none 0 0, .slice none 0 0] 49) = wX at hal bX hzb ⊢
          have hsX : wA.heap.size < wX.heap.size := by rw [← hWX]; simp
          refine wpTr_e rfl (fun K1 hK1 => ?_)
          refine step_call rfl 65 #[.tmp 53] _ rfl Try.f65 Try.func65 (by kernel_rfl) rfl #[.slice (R.ls.item C).q.p (R.ls.item C).q.n (R.ls.item C).q.c] rfl _ (HCR.out _ (bX)) (fun e wB hwB => ?_)
          obtain ⟨q1, rfl, qal, qin, qb⟩ := hwB
          refine ⟨_, rfl, ?_⟩
          have bB : Below w2.heap.size w2 wB := bX.trans (qb.mono bX.size)
          go_simp
          refine hK1 _ _ (fun _ => bB) ?_
          clear hK1 K1
          refine wpPre_e rfl rfl (fun K1 hK1 => ?_)
          apply Exists.intro
          refine And.intro (fun wx hx => ?_) ?_
          · go_simp
            try rfl
          go_simp
          refine hK1 _ ?_
          clear hK1 K1
          refine wpPre_nil ?_
          refine wpTr_e rfl (fun K1 hK1 => ?_)
          have hbx := hzb.below qb
          have y0 := hbx.cell 0
          have y1 := hbx.cell 1
          have y2 := hbx.cell 2
          have y3 := hbx.cell 3
          have f0 := hbx.frozen 0
          have f1 := hbx.frozen 1
          have f2 := hbx.frozen 2
          have f3 := hbx.frozen 3
          have yl := hbx.lt
          simp at y0 y1 y2 y3
          have HBx := hid hbx
          clear hbx
          go_simp
          refine hK1 _ _ (fun h => by cases h) ?_
          clear hK1 K1
          refine wpPre_nil ?_
          refine wpTr_done ?_
          go_wp2_with fail
          go_meet
          have hbt := (((((But.one wB (wA.heap.size)).setAt 0 (.int .i64 (R.ls.item C).num)).setAt 1 (.slice l1.p l1.n l1.c)).setAt 2 (.slice none 0 0)).setAt 3 (.slice q1.p q1.n q1.c))
          refine ⟨wA.heap.size, l1, q1, rfl, ?_, ?_, ?_, lal, qal, ?_, ?_⟩
          · exact bA.size
          · exact (((HBx.out.set 0 (.int .i64 (R.ls.item C).num)).set 1 (.slice l1.p l1.n l1.c)).set 2 (.slice none 0 0)).set 3 (.slice q1.p q1.n q1.c)
          · exact (bB).trans (hbt.below (Nat.le_trans (Nat.le_refl _) (bB).size) (fun k hk e => by have : w2.heap.size ≤ wA.heap.size := bA.size; omega))
          · exact (((hls.below hal).below qb)).kept hbt.size (fun k hk hl => hbt.block k hl hk.2)
          · exact ((qin.mono (S' := fun k => w2.heap.size ≤ k ∧ k ≠ wA.heap.size) (fun k hk _ => ⟨by have := bX.size; omega, by omega⟩))).kept hbt.size (fun k hk hl => hbt.block k hl hk.2)
      · refine wpTr_op rfl (fun K1 hK1 => ?_)
        go_simp
        have bX : Below w2.heap.size w2 (w2.alloc (.cells #[.int .i64 0, .slice none 0 0, .slice none 0 0, .slice none 0 0] 49)).drew := ((Below.refl w2.heap.size w2).alloc (Nat.le_refl _) _).drew
        refine hK1 _ _ (fun _ => bX) ?_
        clear hK1 K1
        refine wpPre_nil ?_
        have hzb : Box (w2.alloc (.cells #[.int .i64 0, .slice none 0 0, .slice none 0 0, .slice none 0 0] 49)).drew w2.heap.size #[.int .i64 0, .slice none 0 0, .slice none 0 0, .slice none 0 0] 49 := (Box.new w2 #[.int .i64 0, .slice none 0 0, .slice none 0 0, .slice none 0 0] 49).below (Below.refl _ _).drew
        have hsX : w2.heap.size < (w2.alloc (.cells #[.int .i64 0, .slice none 0 0, .slice none 0 0, .slice none 0 0] 49)).drew.heap.size := hzb.lt
        generalize hWX : (w2.alloc (.cells #[.int .i64 0, .slice none 0 0, .slice none 0 0, .slice none 0 0] 49)).drew = wX at bX hzb hsX ⊢
        refine wpTr_e rfl (fun K1 hK1 => ?_)
        refine step_call rfl 66 #[.tmp 44] _ rfl Try.f66 Try.func66 (by kernel_rfl) rfl #[.agg #[.int .i64 (R.ls.item C).num, .slice (R.ls.item C).l.p (R.ls.item C).l.n (R.ls.item C).l.c]] rfl _ (HCS.out _ (bX)) (fun e wA hwA => ?_)
        obtain ⟨l1, rfl, lal, lin, lb⟩ := hwA
        refine ⟨_, rfl, ?_⟩
        have bA : Below w2.heap.size w2 wA := bX.trans (lb.mono bX.size)
        have hls : LT.In elCell wA (fun k => w2.heap.size ≤ k ∧ k ≠ w2.heap.size) l1 := lin.mono (fun k hk _ => ⟨by omega, by omega⟩)
        go_simp
        refine hK1 _ _ (fun _ => bA) ?_
        clear hK1 K1
        refine wpPre_nil ?_
        refine wpTr_e rfl (fun K1 hK1 => ?_)
        refine step_call rfl 65 #[.tmp 53] _ rfl Try.f65 Try.func65 (by kernel_rfl) rfl #[.slice (R.ls.item C).q.p (R.ls.item C).q.n (R.ls.item C).q.c] rfl _ (HCR.out _ (bA)) (fun e wB hwB => ?_)
        obtain ⟨q1, rfl, qal, qin, qb⟩ := hwB
        refine ⟨_, rfl, ?_⟩
        have bB : Below w2.heap.size w2 wB := bA.trans (qb.mono bA.size)
        go_simp
        refine hK1 _ _ (fun _ => bB) ?_
        clear hK1 K1
        refine wpPre_e rfl rfl (fun K1 hK1 => ?_)
        apply Exists.intro
        refine And.intro (fun wx hx => ?_) ?_
        · go_simp
          try rfl
        go_simp
        refine hK1 _ ?_
        clear hK1 K1
        refine wpPre_nil ?_
        refine wpTr_e rfl (fun K1 hK1 => ?_)
        have hbx := (hzb.below lb).below qb
        have y0 := hbx.cell 0
        have y1 := hbx.cell 1
        have y2 := hbx.cell 2
        have y3 := hbx.cell 3
        have f0 := hbx.frozen 0
        have f1 := hbx.frozen 1
        have f2 := hbx.frozen 2
        have f3 := hbx.frozen 3
        have yl := hbx.lt
        simp at y0 y1 y2 y3
        have HBx := hid hbx
        clear hbx
        go_simp
        refine hK1 _ _ (fun h => by cases h) ?_
        clear hK1 K1
        refine wpPre_nil ?_
        refine wpTr_done ?_
        go_wp2_with fail
        go_meet
        have hbt := (((((But.one wB (w2.heap.size)).setAt 0 (.int .i64 (R.ls.item C).num)).setAt 1 (.slice l1.p l1.n l1.c)).setAt 2 (.slice none 0 0)).setAt 3 (.slice q1.p q1.n q1.c))
        refine ⟨w2.heap.size, l1, q1, rfl, ?_, ?_, ?_, lal, qal, ?_, ?_⟩
        · exact (Nat.le_refl _)
        · exact (((HBx.out.set 0 (.int .i64 (R.ls.item C).num)).set 1 (.slice l1.p l1.n l1.c)).set 2 (.slice none 0 0)).set 3 (.slice q1.p q1.n q1.c)
        · exact (bB).trans (hbt.below (Nat.le_trans (Nat.le_refl _) (bB).size) (fun k hk e => by have : w2.heap.size ≤ w2.heap.size := (Nat.le_refl _); omega))
        · exact ((hls.below qb)).kept hbt.size (fun k hk hl => hbt.block k hl hk.2)
        · exact ((qin.mono (S' := fun k => w2.heap.size ≤ k ∧ k ≠ w2.heap.size) (fun k hk _ => ⟨by have := bA.size; omega, by have := lb.size; omega⟩))).kept hbt.size (fun k hk hl => hbt.block k hl hk.2)
    case rest =>
      obtain ⟨pb, l1, q1, rfl, hpb, hbx5, hb5, hal5, haq5, hil5, hiq5⟩ := hcut
      obtain ⟨w5, hw5⟩ : ∃ x, x = wc := ⟨_, rfl⟩
      rw [← hw5] at hbx5 hb5 hil5 hiq5 ⊢
      have H5 := hid (And.intro hbx5 (And.intro hb5 (And.intro hal5 (And.intro haq5 (And.intro hil5 hiq5)))))
      have hpb5 : pb < w5.heap.size := hbx5.lt
      clear hbx5 hb5 hal5 haq5 hil5 hiq5 hw5 c4 t9 t10 t11 HCS HCR
      go_wp2_with fail
      have HnH : Hid (RH.ls.n ≤ 10000) := by unfold Hid; rw [HRR.out.1]; exact hn
      have HpH : Hid (0 ≤ RH.ports ∧ RH.ports ≤ 4) := by unfold Hid; rw [HRR.out.2.2.2.1]; exact ⟨hp, hp4⟩
      have HcH : Hid (0 ≤ RH.cp) := by unfold Hid; rw [HRR.out.2.1]; exact HCp.out
      have HlH : Hid (∀ p : Nat, p < N → 0 ≤ RH.cl (p : Int)) := fun p hlt => by rw [HRR.out.2.2.2.2.1]; exact HCl.out p hlt
      have hpNH : RH.ports = (N : Int) := by rw [HRR.out.2.2.2.1]; exact hpN
      go_loopw [8] (fun x wr => ∃ (k : Nat) (lp : Option Addr) (lc : Nat) (g : Nat → LT RT), k ≤ N ∧ x = .int .i64 (k : Int) ∧ Box wr pb #[.int .i64 (R.ls.item C).num, .slice l1.p l1.n l1.c, .slice lp k lc, .slice q1.p q1.n q1.c] 49 ∧ OwnL elRecs w5.heap.size wr (.slice lp k lc) k g ∧ (∀ j, j < k → LT.Alk RT.Alike (ofL (RH.logL (j : Int)) none 0) (g j)) ∧ But (fun k => k = pb) w5 wr) (fun x _ => N - (intOf x).toNat)
      case atStart => exact ⟨0, none, 0, fun _ => nilL (fun _ => rt0), Nat.zero_le _, rfl, H5.out.1, ⟨World.ownsRow_nil _ _ _ _, fun j hj => absurd hj (by omega)⟩, fun j hj => absurd hj (by omega), But.refl _ _⟩
      case round =>
        obtain ⟨k, lp, lc, g, hk, rfl, hXr, hO, hAg, hBr⟩ := hrel
        have HXr := hid hXr
        have HO := hid hO
        have HAg := hid hAg
        have HBr := hid hBr
        have hbw2 : Below w2.heap.size w2 wr := H5.out.2.1.trans (hBr.below H5.out.2.1.size (fun k hk e => by omega))
        have hRr := HS2.out.inv.below hbw2
        have c1 := hRr.box.cell 1
        have hblr := hRr.box.lt
        simp [Rb.arr] at c1
        rw [hpNH] at c1
        clear hXr hO hAg hBr
        by_cases hlt : k < N
        · have hlt' : (k : Int) < (N : Int) := by omega
          have HLg := hid (rlog_any (k : Int) wr (fun _ => True) rb RH hRr HnH.out HpH.out.1 HpH.out.2 HcH.out (HlH.out k hlt) (fun j hj => HTd.out wr hbw2 j hj) (fun j hj => (HSz.out j hj).a.n))
          go_wp2_with fail
          refine HLg.out.mono ?_
          rintro e w3 ⟨v3, rfl, ho3, hb3⟩
          obtain ⟨vp, vc, rfl⟩ := ownsRow_slice ho3
          have hlen := Rb.log_len (R := RH) (HlH.out k hlt) HnH.out (fun j hj => (HSz.out j hj).a.n)
          have hbw3 : Below w2.heap.size w2 w3 := hbw2.trans (hb3.mono hbw2.size)
          have HLi : Hid (LT.In elRec w3 (fun _ => True) (ofL (RH.logL (k : Int)) vp vc)) := ofL_in ho3 (fun _ _ => trivial) (Rb.log_mem (HlH.out k hlt) (fun j hj hm => (HTd.out w3 hbw3 j hj).r hm) (fun j hj i hi => (HTd.out w3 hbw3 j hj).a.each i hi)) hlen
          have HLs : Hid (∀ j, j < (ofL (RH.logL (k : Int)) vp vc).n → ((ofL (RH.logL (k : Int)) vp vc).item j).size ≤ 10000) := ofL_size (Rb.log_mem (HlH.out k hlt) (fun j hj hm => (HSz.out j hj).r hm) (fun j hj i hi => (HSz.out j hj).a.item i hi))
          have hBr3 : But (fun k => k = pb) w5 w3 := HBr.out.trans (But.ofBelow hb3)
          have HBr3 := hid hBr3
          have HX3 := hid (HXr.out.below hb3)
          have HO3 := hid (HO.out.keep hb3.size (fun k _ hl => hb3.block k hl))
          have HCR3 := hid (r_copyRw (ofL (RH.logL (k : Int)) vp vc) w3.drew (fun _ => True) (HLi.out.below (Below.refl _ _).drew) (by show (RH.logL (k : Int)).length ≤ _; omega) HLs.out)
          have p2 := HX3.out.cell 2
          have pl := HX3.out.lt
          simp at p2
          clear hb3 ho3 HLg hBr3 HLi HLs
          go_upto_region 15 with fail
          refine wp_region_calmE 30 (fun wx => Below w3.heap.size w3 wx) [(0, true), (1, false), (2, true)] (.one 3 true [] (.one 4 true [] (.one 5 false [(6, true)] (.one 7 false [] .done)))) (by kernel_rfl) (by kernel_rfl) (Below.refl _ _).drew ?_
          refine wpPre_e rfl rfl (fun K1 hK1 => ?_)
          apply Exists.intro
          refine And.intro (fun wx hx => ?_) ?_
          · go_simp
            try rfl
          go_simp
          refine hK1 _ ?_
          clear hK1 K1
          refine wpPre_e rfl rfl (fun K1 hK1 => ?_)
          apply Exists.intro
          refine And.intro (fun wx hx => ?_) ?_
          · have e0 := below_fact hx rfl p2
            go_simp
            try rfl
          go_simp
          refine hK1 _ ?_
          clear hK1 K1
          refine wpPre_e rfl rfl (fun K1 hK1 => ?_)
          apply Exists.intro
          refine And.intro (fun wx hx => ?_) ?_
          · go_simp
            try rfl
          go_simp
          refine hK1 _ ?_
          clear hK1 K1
          refine wpPre_nil ?_
          refine wpTr_e rfl (fun K1 hK1 => ?_)
          refine step_call rfl 65 #[.tmp 69] _ rfl Try.f65 Try.func65 (by kernel_rfl) rfl #[.slice vp (RH.logL (k : Int)).length vc] rfl _ HCR3.out (fun e w4 h4 => ?_)
          obtain ⟨m, rfl, mal, min, mb⟩ := h4
          refine ⟨_, rfl, ?_⟩
          have b4 : Below w3.heap.size w3 w4 := (Below.refl w3.heap.size w3).drew.trans mb
          have min' : LT.In elRec w4 (fun b => w3.heap.size ≤ b) m := min
          have HM := hid (And.intro mal min')
          clear mal min min' mb HCR3
          go_simp
          refine hK1 _ _ (fun _ => b4) ?_
          clear hK1 K1
          refine wpPre_nil ?_
          refine wpTr_e rfl (fun K1 hK1 => ?_)
          go_simp
          have b5 : Below w3.heap.size w3 (w4.alloc (.cells #[.slice m.p m.n m.c] 37)) := b4.alloc b4.size _
          refine hK1 _ _ (fun _ => b5) ?_
          clear hK1 K1
          refine wpPre_nil ?_
          refine wpTr_e rfl (fun K1 hK1 => ?_)
          have hO5 := HO3.out.keep b5.size (fun k _ hl => b5.block k hl)
          have hnews : ∀ j u', (elRecs.cells m)[j]? = some u' → (w4.alloc (.cells #[.slice m.p m.n m.c] 37)).cell? ((⟨w4.heap.size, 0, none⟩ : Addr).add j) = some u' := fun j u' hu => by
            rw [Go.WideShapes.add_plain, (Box.new w4 #[.slice m.p m.n m.c] 37).cell]
            rw [show 0 + j = j by omega]
            simpa [elRecs] using hu
          have hs3 : w5.heap.size ≤ w3.heap.size := HBr3.out.size
          have hu5 : LT.In elRec (w4.alloc (.cells #[.slice m.p m.n m.c] 37)) (fun b => w5.heap.size ≤ b ∧ (Value.slice lp k lc).ownBlock ≠ some b) m := ((HM.out.2.below ((Below.refl w4.heap.size w4).alloc (Nat.le_refl _) _)).mono fun b hb _ => ⟨by omega, fun e => by have := (HO3.out.own.lt b e).2; omega⟩)
          have HX5 := hid (And.intro hO5 (And.intro hnews (And.intro hu5 b5)))
          clear hO5 hnews hu5
          refine step_app rfl (.tmp 68) (.tmp 71) 47 37 i1 _ 1 24 HKd.out rfl w5.heap.size (.slice lp k lc) k _ rfl HX5.out.1.own ⟨w4.heap.size, 0, none⟩ 1 1 (elRecs.cells m) rfl rfl HX5.out.2.1 (elRecs.one m) (by omega) (by omega) (by have := b4.size; simp; omega) ?_
          intro v6 w6 ho6 hg6 hn6
          have hO6 := HX5.out.1.push HX5.out.2.2.1 ho6 hg6 hn6
          obtain ⟨p6, c6, rfl⟩ := ownsRow_slice ho6
          have hX5 := HX3.out.below HX5.out.2.2.2
          have hX6 := hX5.kept (hg6.block _ hX5.lt (fun e => by have := (HO3.out.own.lt _ e.symm).1; omega))
          have y2 := hX6.cell 2
          have f2 := hX6.frozen 2
          have xl6 := hX6.lt
          simp at y2
          have HX6 := hid (And.intro hX6 hO6)
          have HB6 : Hid (But (fun k => k = pb) w5 w6) := (HBr3.out.trans (But.ofBelow HX5.out.2.2.2)).grown hg6 (fun q hq hl => absurd hl (by have := (HO3.out.own.lt q hq).1; omega))
          clear ho6 hg6 hn6 hX5 hX6 hO6 HX5 b5 b4
          go_simp
          refine hK1 _ _ (fun h => by cases h) ?_
          clear hK1 K1
          refine wpPre_e rfl rfl (fun K1 hK1 => ?_)
          apply Exists.intro
          refine And.intro (fun wx hx => ?_) ?_
          · go_simp
            try rfl
          go_simp
          refine hK1 _ ?_
          clear hK1 K1
          refine wpPre_nil ?_
          refine wpTr_e rfl (fun K1 hK1 => ?_)
          go_simp
          refine hK1 _ _ (fun h => by cases h) ?_
          clear hK1 K1
          refine wpPre_nil ?_
          refine wpTr_done ?_
          have hbt := (But.one w6 pb).setAt 2 (.slice p6 (k + 1) c6)
          have HE6 : Hid (Box (w6.setCell ⟨pb, 2, none⟩ (.slice p6 (k + 1) c6)) pb #[.int .i64 (R.ls.item C).num, .slice l1.p l1.n l1.c, .slice p6 (k + 1) c6, .slice q1.p q1.n q1.c] 49 ∧ OwnL elRecs w5.heap.size (w6.setCell ⟨pb, 2, none⟩ (.slice p6 (k + 1) c6)) (.slice p6 (k + 1) c6) (k + 1) (fun j => if j < k then g j else m) ∧ But (fun k => k = pb) w5 (w6.setCell ⟨pb, 2, none⟩ (.slice p6 (k + 1) c6))) := by
            refine ⟨HX6.out.1.set 2 _, HX6.out.2.keep hbt.size (fun q hq hl => hbt.block q hl (by omega)), HB6.out.setAt 2 _⟩
          have HAg6 : Hid (∀ j, j < k + 1 → LT.Alk RT.Alike (ofL (RH.logL (j : Int)) none 0) (if j < k then g j else m)) := fun j hj => by
            by_cases h : j < k
            · rw [if_pos h]; exact HAg.out j h
            · rw [if_neg h, show j = k by omega]; exact ⟨HM.out.1.n, HM.out.1.item⟩
          clear hbt y2 f2 xl6 HX6 HB6 HM p2 pl HX3 HO3 HBr3
          go_wp2
          go_roundw
          case rel => exact ⟨k + 1, p6, c6, _, by omega, by go_num, HE6.out.1, HE6.out.2.1, HAg6.out, HE6.out.2.2⟩
          case measure => simp [intOf]; omega
        have hlt' : ¬ (k : Int) < (N : Int) := by omega
        obtain rfl : N = k := by omega
        have c3 := hRr.box.cell 3
        simp [Rb.arr] at c3
        have p0 := HXr.out.cell 0
        have p1 := HXr.out.cell 1
        have p2 := HXr.out.cell 2
        have p3 := HXr.out.cell 3
        have pl := HXr.out.lt
        simp at p0 p1 p2 p3
        have hXz := HXw.out.below hbw2
        have z0 := hXz.cell 0
        have z1 := hXz.cell 1
        have z2 := hXz.cell 2
        have z3 := hXz.cell 3
        have f0 := hXz.frozen 0
        have f1 := hXz.frozen 1
        have f2 := hXz.frozen 2
        have f3 := hXz.frozen 3
        have zl := hXz.lt
        simp at z0 z1 z2 z3
        have HBw := hid hbw2
        clear hRr hXz hbw2
        go_wp2_with fail
        refine wp_region_calmE 30 (fun wx => Below wr.heap.size wr wx) [(0, true), (1, true), (2, true), (3, false), (4, false), (5, true)] (.one 6 false [(7, true)] .done) (by kernel_rfl) (by kernel_rfl) (Below.refl _ _).drew ?_
        refine wpPre_e rfl rfl (fun K1 hK1 => ?_)
        apply Exists.intro
        refine And.intro (fun wx hx => ?_) ?_
        · go_simp
          try rfl
        go_simp
        refine hK1 _ ?_
        clear hK1 K1
        refine wpPre_e rfl rfl (fun K1 hK1 => ?_)
        apply Exists.intro
        refine And.intro (fun wx hx => ?_) ?_
        · go_simp
          try rfl
        go_simp
        refine hK1 _ ?_
        clear hK1 K1
        refine wpPre_e rfl rfl (fun K1 hK1 => ?_)
        apply Exists.intro
        refine And.intro (fun wx hx => ?_) ?_
        · go_simp
          try rfl
        go_simp
        refine hK1 _ ?_
        clear hK1 K1
        refine wpPre_e rfl rfl (fun K1 hK1 => ?_)
        apply Exists.intro
        refine And.intro (fun wx hx => ?_) ?_
        · have e0 := below_fact hx rfl c3
          have e1 := below_fact hx rfl p0
          have e2 := below_fact hx rfl p1
          have e3 := below_fact hx rfl p2
          have e4 := below_fact hx rfl p3
          go_simp
          try rfl
        go_simp
        refine hK1 _ ?_
        clear hK1 K1
        refine wpPre_e rfl rfl (fun K1 hK1 => ?_)
        apply Exists.intro
        refine And.intro (fun wx hx => ?_) ?_
        · have e0 := below_fact hx rfl c3
          have e1 := below_fact hx rfl p0
          have e2 := below_fact hx rfl p1
          have e3 := below_fact hx rfl p2
          have e4 := below_fact hx rfl p3
          go_simp
          try rfl
        go_simp
        refine hK1 _ ?_
        clear hK1 K1
        refine wpPre_e rfl rfl (fun K1 hK1 => ?_)
        apply Exists.intro
        refine And.intro (fun wx hx => ?_) ?_
        · go_simp
          try rfl
        go_simp
        refine hK1 _ ?_
        clear hK1 K1
        refine wpPre_nil ?_
        refine wpTr_e rfl (fun K1 hK1 => ?_)
        go_simp
        refine hK1 _ _ (fun h => by cases h) ?_
        clear hK1 K1
        refine wpPre_e rfl rfl (fun K1 hK1 => ?_)
        apply Exists.intro
        refine And.intro (fun wx hx => ?_) ?_
        · go_simp
          try rfl
        go_simp
        refine hK1 _ ?_
        clear hK1 K1
        refine wpPre_nil ?_
        refine wpTr_done ?_
        go_wp2
        refine bodyPost_ret (v := .tuple #[.int .i64 RH.last, .agg #[.int .i64 (R.ls.item C).num, .slice l1.p l1.n l1.c, .slice lp N lc, .slice q1.p q1.n q1.c], .bool true]) (by simp [results, Try.results48, go_sem, z0, z1, z2, z3]) rfl ?_
        have hbt := ((((But.one wr.drew w.heap.size).setAt 0 (.int .i64 (R.ls.item C).num)).setAt 1 (.slice l1.p l1.n l1.c)).setAt 2 (.slice lp N lc)).setAt 3 (.slice q1.p q1.n q1.c)
        have hwW : w.heap.size < w2.heap.size := HXw.out.lt
        have hw25 := H5.out.2.1.size
        have hdr : But (fun k => k = pb) w5 wr.drew := HBr.out.drew
        have hC0 : ¬ RH.C rb w.heap.size := by
          rintro (e | e)
          · exact hsb e
          · have e2 : R.lv.ownBlock = some w.heap.size := by unfold Rb.lv at e ⊢; rw [← HRR.out.1]; exact e
            have := (HI.out.own.lt _ e2).2
            omega
        obtain ⟨p7, c7, hv7, hin7⟩ := (HO.out.keep (w' := wr.drew) (Nat.le_refl _) (fun k _ _ => rfl)).in_ (by omega)
        simp only [Value.slice.injEq, true_and] at hv7
        obtain ⟨rfl, rfl⟩ := hv7
        refine ⟨RH, (HS2.out.trans (RSet.same HS2.out.inv HBw.out.drew)).far hbt (Nat.le_refl _) hC0, fun h => (by rw [HD.out] at h; cases h), fun _ => ⟨HRHe.out, l1, q1, ⟨lp, N, lc, g⟩, ?_⟩⟩
        refine ⟨by rw [HCt.out, HRR.out.2.2.1], rfl, by rw [HCt.out]; exact H5.out.2.2.1, by rw [HCt.out]; exact H5.out.2.2.2.1, fun p hp => by rw [← HRR.out.2.2.2.2.2]; exact HAg.out p hp, ?_, ?_, ?_⟩
        · exact ((H5.out.2.2.2.2.1.kept hdr.size (fun k hk hl => hdr.block k hl hk.2)).kept hbt.size (fun k hk hl => hbt.block k hl (by omega))).mono fun k hk _ => by omega
        · exact ((H5.out.2.2.2.2.2.kept hdr.size (fun k hk hl => hdr.block k hl hk.2)).kept hbt.size (fun k hk hl => hbt.block k hl (by omega))).mono fun k hk _ => by omega
        · exact (hin7.kept hbt.size (fun k hk hl => hbt.block k hl (by omega))).mono fun k hk _ => by omega
end Go.Proofs.Ytdncnnjhfipokaa
