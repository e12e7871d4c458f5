import Derived.Test.YtldkepokcbjlpaaPack15
namespace Go.Proofs.Ytldkepokcbjlpaa
open Go.RowKit
set_option maxRecDepth 8000
theorem kindLL : ∃ i, Kind 36 37 i (.slice none 0 0) 1 24 := by
  obtain ⟨i0, hi, hz0, hz1, hz2⟩ := info_parts (show (Try.prog.info? 37).map (fun i => (i.zero, i.size, i.bytes)) = some (some (.slice none 0 0), 1, 24) by kernel_rfl)
  exact ⟨i0, Try.underlying36, hi, hz0, hz1, hz2, rfl, by decide⟩
set_option maxHeartbeats 2000000 in
theorem flL (Al : (LT RT) → (LT RT) → Prop) (l : LT (LT RT)) (w : World) (S : Nat → Prop) (hin : LT.In elRecs w S l) (hn : l.n ≤ 10000)
    (hc : ∀ j, j < l.n → ∀ W, Below w.heap.size w W → Calls Try.prog 56 #[.slice (l.item j).p (l.item j).n (l.item j).c] W fun e w' => ∃ u : (LT RT), e = .returned (.slice u.p u.n u.c) ∧ Al (l.item j) u ∧ (elRecs).In w' (fun b => W.heap.size ≤ b) u ∧ Below W.heap.size W w') :
    Calls Try.prog 55 #[.slice l.p l.n l.c, .func (.func 56) #[] #[]] w fun e w' => ∃ u : LT (LT RT), e = .returned (.slice u.p u.n u.c) ∧ u.n = l.n ∧ (∀ j, j < l.n → Al (l.item j) (u.item j)) ∧ LT.In elRecs w' (fun b => w.heap.size ≤ b) u ∧ Below w.heap.size w w' := by
  obtain ⟨i0, Kd⟩ := kindLL
  have HI := hid hin
  have HC := hid hc
  clear hin hc
  by_cases h0 : l.n = 0
  · go_enter Try.func55, Try.ntmps55
    go_wp2
    refine bodyPost_ret (v := .slice none 0 0) (by simp [results, Try.results55, go_sem]) rfl ⟨⟨none, 0, 0, l.item⟩, rfl, h0.symm, fun j hj => absurd hj (by omega), LT.In.none_ _ _ _ _ _ _ (Nat.zero_le _) (fun _ => rfl), Below.refl _ _⟩
  · obtain ⟨M, hM⟩ : ∃ M, M = madeCells (Value.slice none 0 0).cells (((l.n : Nat) : Int).toNat * i0.size) := ⟨_, rfl⟩
    have hMs : M.size = l.n * 1 := by rw [hM, size_madeCells, Kd.hsize]; simp
    have hmk : ∀ W : World, (Instr.makeSlice 36 (.int .i64 (l.n : Int)) (.int .i64 (l.n : Int))).run Try.prog W = .ok (.slice (some ⟨W.heap.size, 0, none⟩) l.n l.n) (W.alloc (.cells M 37)) := fun W => by
      have h := run_make (P := Try.prog) W 36 37 i0 (.slice none 0 0) Kd.ht Kd.hi Kd.hz .i64 .i64 (l.n : Int) (l.n : Int) (by omega) (by omega) (by rw [Kd.hby]; omega) (by omega)
      rw [← hM] at h
      simpa using h
    clear hM
    obtain ⟨bb, o, hp, hSb, hbl, hat⟩ := HI.out.at_ (by omega)
    have HA := hid hat
    have HR0 : Hid (∀ g, RowK elRecs (w.alloc (.cells M 37)) w.heap.size l.n 0 g M) := fun g => ⟨Box.new w M 37, hMs, fun j hj => absurd hj (by omega)⟩
    clear hat hMs
    rw [hp]
    have h0' : ((l.n : Int) == 0) = false := by simp; omega
    go_enter Try.func55, Try.ntmps55
    go_wp2_with fail
    go_loopw [16] (fun x wr => ∃ (k : Nat) (g : Nat → (LT RT)) (cs : Array Value), k ≤ l.n ∧ x = .int .i64 (k : Int) ∧ RowK elRecs wr w.heap.size l.n k g cs ∧ (∀ q, q < k → Al (l.item q) (g q) ∧ (elRecs).In wr (fun b => w.heap.size + 1 ≤ b) (g q)) ∧ Below w.heap.size w wr) (fun x _ => l.n - (intOf x).toNat)
    case atStart => exact ⟨0, l.item, M, Nat.zero_le _, rfl, HR0.out _, fun q hq => absurd hq (by omega), (Below.refl _ _).alloc (Nat.le_refl _) _⟩
    case round =>
      obtain ⟨k, g, cs, hk, rfl, hR, hal, hbel⟩ := hrel
      have HR := hid hR
      have HAl := hid hal
      have HB := hid hbel
      have hL := hR.box.lt
      clear hR hal hbel hmk HR0
      by_cases hlt : k < l.n
      · have hlt' : (k : Int) < (l.n : Int) := by omega
        have hcell : ∀ r u, ((elRecs).cells (l.item k))[r]? = some u → wr.cell? ⟨bb, o + k * 1 + r, none⟩ = some u := fun r u hu => (World.cell?_of_block (a := ⟨bb, o + k * 1 + r, none⟩) (HB.out.block bb hbl)).trans (HA.out k hlt r u hu)
        have c0 : wr.cell? ⟨bb, o + k, none⟩ = some (.slice (l.item k).p (l.item k).n (l.item k).c) := by have := hcell 0 _ rfl; simpa using this
        clear hcell
        have HC1 := hid (HC.out k hlt)
        go_wp2_with fail
        refine (HC1.out _ ?_).mono ?_
        · exact HB.out
        rintro e w4 ⟨u, rfl, hal4, hin4, hb4⟩
        have hbW : Below wr.heap.size wr w4 := hb4
        have hR4 := HR.out.kept (hbW.block _ hL)
        have hal5 : ∀ q, q < k → Al (l.item q) (g q) ∧ (elRecs).In w4 (fun b => w.heap.size + 1 ≤ b) (g q) := fun q hq => ⟨(HAl.out q hq).1, (elRecs).kept (HAl.out q hq).2 hbW.size (fun b _ hl => hbW.block b hl)⟩
        have hu4 : (elRecs).In w4 (fun b => w.heap.size + 1 ≤ b) u := (elRecs).mono hin4 (fun b hb _ => by omega)
        have HU := hid (And.intro hal4 (And.intro hu4 (And.intro hal5 (And.intro hbW hR4))))
        have hL4 := hR4.box.lt
        obtain ⟨z0, hz0⟩ : ∃ x, w4.cell? ⟨w.heap.size, k, none⟩ = some x := by have := hR4.some_ hlt 0 (by decide); simpa [elRecs] using this
        have f0 := hR4.box.frozen k
        clear hal4 hu4 hal5 hbW hR4 hin4 hb4 HC1 HAl HR c0
        go_wp2
        go_roundw
        case rel =>
          obtain ⟨hal4, hu4, hal5, hbW, hR4⟩ := HU.out
          have hk : But (fun x => x = w.heap.size) w4 (w4.setCell ⟨w.heap.size, k, none⟩ (.slice u.p u.n u.c)) := (But.one w4 w.heap.size).setAt k _
          refine ⟨k + 1, _, _, by omega, by go_num, hR4.step (x := u) hlt ?_, fun q hq => ?_, ?_⟩
          · exact (by rw [show k * elRecs.size = k from Nat.mul_one k]; exact hR4.box.set k _)
          · by_cases hq2 : q < k
            · rw [if_pos hq2]
              exact ⟨(hal5 q hq2).1, (elRecs).kept (hal5 q hq2).2 hk.size (fun b hb hl => hk.block b hl (by omega))⟩
            · rw [if_neg hq2]
              obtain rfl : q = k := by omega
              exact ⟨hal4, (elRecs).kept hu4 hk.size (fun b hb hl => hk.block b hl (by omega))⟩
          · exact (HB.out.trans (hbW.mono HB.out.size)).trans (hk.below (by omega) (fun x hx => by omega))
        case measure => simp [intOf]; omega
      · obtain rfl : k = l.n := by omega
        clear HC HA
        go_wp2
        refine bodyPost_ret (v := .slice (some ⟨w.heap.size, 0, none⟩) l.n l.n) (by simp [results, Try.results55, go_sem]) rfl ⟨⟨some ⟨w.heap.size, 0, none⟩, l.n, l.n, g⟩, rfl, rfl, fun j hj => (HAl.out j hj).1, ?_, HB.out⟩
        exact HR.out.in_ (Nat.le_refl _) (fun j hj => (elRecs).mono (HAl.out j hj).2 (fun b hb _ => by omega)) hn
end Go.Proofs.Ytldkepokcbjlpaa

namespace Go.Proofs.Ytldkepokcbjlpaa
open Go.RowKit Go.Conc
set_option maxRecDepth 60000
structure LAlk {α : Type} (R : α → α → Prop) (l u : LT α) : Prop where
  n : u.n = l.n
  item : ∀ j, j < l.n → R (l.item j) (u.item j)
structure PtIn (w : World) (S : Nat → Prop) (t : PtT) : Prop where
  cl : LT.In elCell w S t.cl
  lg : LT.In elRecs w S t.lg
  pd : LT.In elRec w S t.pd
structure PtSz (t : PtT) : Prop where
  c0 : t.cl.n ≤ 10000
  c1 : ∀ j, j < t.cl.n → (t.cl.item j).total ≤ 10000
  l0 : t.lg.n ≤ 10000
  l1 : ∀ j, j < t.lg.n → (t.lg.item j).n ≤ 10000
  l2 : ∀ j, j < t.lg.n → ∀ i, i < (t.lg.item j).n → ((t.lg.item j).item i).size ≤ 10000
  p0 : t.pd.n ≤ 10000
  p1 : ∀ j, j < t.pd.n → (t.pd.item j).size ≤ 10000
structure PtAlk (t u : PtT) : Prop where
  num : u.num = t.num
  cl : LAlk VT.Alike t.cl u.cl
  lg : LAlk (LAlk RT.Alike) t.lg u.lg
  pd : LAlk RT.Alike t.pd u.pd
theorem PtIn.kept {w w' : World} {S : Nat → Prop} {t : PtT} (h : PtIn w S t) (hs : w.heap.size ≤ w'.heap.size) (hb : ∀ b, S b → b < w.heap.size → w'.heap[b]? = w.heap[b]?) : PtIn w' S t := ⟨h.cl.kept hs hb, h.lg.kept hs hb, h.pd.kept hs hb⟩
theorem PtIn.mono {w : World} {S S' : Nat → Prop} {t : PtT} (h : PtIn w S t) (hs : ∀ b, S b → b < w.heap.size → S' b) : PtIn w S' t := ⟨h.cl.mono hs, h.lg.mono hs, h.pd.mono hs⟩
def FpP (t : PtT) (w : World) (e : Ending) (w' : World) : Prop := ∃ u : PtT, e = .returned (.agg #[.int .i64 u.num, .slice u.cl.p u.cl.n u.cl.c, .slice u.lg.p u.lg.n u.lg.c, .slice u.pd.p u.pd.n u.pd.c]) ∧ PtAlk t u ∧ PtIn w' (fun b => w.heap.size ≤ b) u ∧ Below w.heap.size w w'
set_option maxHeartbeats 4000000 in
theorem freshP (t : PtT) (w : World) (S : Nat → Prop) (hin : PtIn w S t) (hs : PtSz t) : Calls Try.prog 32 #[.agg #[.int .i64 t.num, .slice t.cl.p t.cl.n t.cl.c, .slice t.lg.p t.lg.n t.lg.c, .slice t.pd.p t.pd.n t.pd.c]] w fun e w' => FpP t w e w' := by
  obtain ⟨W0, hW0⟩ : ∃ V, V = w.alloc (.cells #[.int .i64 t.num, .slice t.cl.p t.cl.n t.cl.c, .slice t.lg.p t.lg.n t.lg.c, .slice t.pd.p t.pd.n t.pd.c] 39) := ⟨_, rfl⟩
  obtain ⟨W, hW⟩ : ∃ V, V = W0.alloc (.cells #[.int .i64 0, .slice none 0 0, .slice none 0 0, .slice none 0 0] 39) := ⟨_, rfl⟩
  have hs0 : W0.heap.size = w.heap.size + 1 := by rw [hW0]; simp
  have hs1 : W.heap.size = w.heap.size + 2 := by rw [hW]; simp [hs0]
  have hb0 : Below w.heap.size w W0 := by rw [hW0]; exact (Below.refl _ _).alloc (Nat.le_refl _) _
  have hbz : Below W0.heap.size W0 W := by rw [hW]; exact (Below.refl _ _).alloc (Nat.le_refl _) _
  have hb : Below w.heap.size w W := hb0.trans (hbz.mono hb0.size)
  have hx0 : Box W w.heap.size #[.int .i64 t.num, .slice t.cl.p t.cl.n t.cl.c, .slice t.lg.p t.lg.n t.lg.c, .slice t.pd.p t.pd.n t.pd.c] 39 := by
    have h : Box W0 w.heap.size #[.int .i64 t.num, .slice t.cl.p t.cl.n t.cl.c, .slice t.lg.p t.lg.n t.lg.c, .slice t.pd.p t.pd.n t.pd.c] 39 := by rw [hW0]; exact Box.new _ _ _
    exact h.below hbz
  have hx1 : Box W (w.heap.size + 1) #[.int .i64 0, .slice none 0 0, .slice none 0 0, .slice none 0 0] 39 := by
    rw [← hs0, hW]; exact Box.new _ _ _
  have HC : Hid (∀ V, Below w.heap.size w V → Calls Try.prog 54 #[.agg #[.int .i64 t.num, .slice t.cl.p t.cl.n t.cl.c]] V fun e w' => ∃ u : LT VT, e = .returned (.agg #[.int .i64 t.num, .slice u.p u.n u.c]) ∧ u.n = t.cl.n ∧ (∀ j, j < t.cl.n → VT.Alike (t.cl.item j) (u.item j)) ∧ LT.In elCell w' (fun b => V.heap.size ≤ b) u ∧ Below V.heap.size V w') := fun V hV =>
    freshS t.num t.cl V (fun k => S k ∧ k < w.heap.size) ((hin.cl.mono fun k hk hl => ⟨hk, hl⟩).kept hV.size (fun k hk _ => hV.block k hk.2)) hs.c0 hs.c1
  have HP : Hid (∀ V, Below w.heap.size w V → Calls Try.prog 56 #[.slice t.pd.p t.pd.n t.pd.c] V fun e w' => ∃ u : LT RT, e = .returned (.slice u.p u.n u.c) ∧ u.n = t.pd.n ∧ (∀ j, j < t.pd.n → RT.Alike (t.pd.item j) (u.item j)) ∧ LT.In elRec w' (fun b => V.heap.size ≤ b) u ∧ Below V.heap.size V w') := fun V hV =>
    freshRs t.pd V (fun k => S k ∧ k < w.heap.size) ((hin.pd.mono fun k hk hl => ⟨hk, hl⟩).kept hV.size (fun k hk _ => hV.block k hk.2)) hs.p0 hs.p1
  have HL : Hid (∀ V, Below w.heap.size w V → Calls Try.prog 55 #[.slice t.lg.p t.lg.n t.lg.c, .func (.func 56) #[] #[]] V fun e w' => ∃ u : LT (LT RT), e = .returned (.slice u.p u.n u.c) ∧ u.n = t.lg.n ∧ (∀ j, j < t.lg.n → LAlk RT.Alike (t.lg.item j) (u.item j)) ∧ LT.In elRecs w' (fun b => V.heap.size ≤ b) u ∧ Below V.heap.size V w') := fun V hV => by
    have hl := (hin.lg.mono (S' := fun k => S k ∧ k < w.heap.size) fun k hk hl => ⟨hk, hl⟩).kept hV.size (fun k hk _ => hV.block k hk.2)
    refine flL (LAlk RT.Alike) t.lg V (fun k => S k ∧ k < w.heap.size) hl hs.l0 (fun j hj V2 hV2 => ?_)
    have hj2 : LT.In elRec V (fun k => S k ∧ k < w.heap.size) (t.lg.item j) := hl.each j hj
    refine (freshRs (t.lg.item j) V2 (fun k => S k ∧ k < w.heap.size) (hj2.kept hV2.size (fun k hk _ => hV2.block k (by have := hV.size; omega))) (hs.l1 j hj) (hs.l2 j hj)).mono ?_
    rintro e w' ⟨u, rfl, un, ual, uin, ub⟩
    exact ⟨u, rfl, ⟨un, ual⟩, uin, ub⟩
  have c0 := hx0.cell 0
  have c1 := hx0.cell 1
  have c2 := hx0.cell 2
  have c3 := hx0.cell 3
  simp at c0 c1 c2 c3
  have HB := hid hb
  have HX1 := hid hx1
  have HW0 := hid hW0
  have HW := hid hW
  have wl : w.heap.size < W.heap.size := by omega
  clear hin hs hb0 hbz hb hx0 hx1 hW0 hW
  go_enter Try.func32, Try.ntmps32
  go_wp2_with fail
  rw [← HW0.out, ← HW.out]
  refine wp_region_calmE 30 (fun wx => Below W.heap.size W wx) [(0, true), (1, false), (3, true), (4, false), (6, true), (7, false)] (.one 2 true [] (.one 5 true [] (.one 8 false [(9, true)] (.one 10 false [] .done)))) (by kernel_rfl) (by kernel_rfl) (Below.refl _ _).drew ?_
  refine wpPre_e rfl rfl (fun K1 hK1 => ?_)
  apply Exists.intro
  refine And.intro (fun wx hx => ?_) ?_
  · go_simp
    try rfl
  go_simp
  refine hK1 _ ?_
  clear hK1 K1
  refine wpPre_e rfl rfl (fun K1 hK1 => ?_)
  apply Exists.intro
  refine And.intro (fun wx hx => ?_) ?_
  · have e0 := below_fact hx rfl c0
    have e1 := below_fact hx rfl c1
    have e2 := below_fact hx rfl c2
    have e3 := below_fact hx rfl c3
    go_simp
    try rfl
  go_simp
  refine hK1 _ ?_
  clear hK1 K1
  refine wpPre_e rfl rfl (fun K1 hK1 => ?_)
  apply Exists.intro
  refine And.intro (fun wx hx => ?_) ?_
  · go_simp
    try rfl
  go_simp
  refine hK1 _ ?_
  clear hK1 K1
  refine wpPre_e rfl rfl (fun K1 hK1 => ?_)
  apply Exists.intro
  refine And.intro (fun wx hx => ?_) ?_
  · have e0 := below_fact hx rfl c0
    have e1 := below_fact hx rfl c1
    have e2 := below_fact hx rfl c2
    have e3 := below_fact hx rfl c3
    go_simp
    try rfl
  go_simp
  refine hK1 _ ?_
  clear hK1 K1
  refine wpPre_e rfl rfl (fun K1 hK1 => ?_)
  apply Exists.intro
  refine And.intro (fun wx hx => ?_) ?_
  · go_simp
    try rfl
  go_simp
  refine hK1 _ ?_
  clear hK1 K1
  refine wpPre_e rfl rfl (fun K1 hK1 => ?_)
  apply Exists.intro
  refine And.intro (fun wx hx => ?_) ?_
  · have e0 := below_fact hx rfl c0
    have e1 := below_fact hx rfl c1
    have e2 := below_fact hx rfl c2
    have e3 := below_fact hx rfl c3
    go_simp
    try rfl
  go_simp
  refine hK1 _ ?_
  clear hK1 K1
  refine wpPre_nil ?_
  refine wpTr_e rfl (fun K1 hK1 => ?_)
  refine step_call rfl 54 #[.tmp 4] _ rfl Try.f54 Try.func54 (by kernel_rfl) rfl #[.agg #[.int .i64 t.num, .slice t.cl.p t.cl.n t.cl.c]] rfl _ (HC.out _ HB.out.drew) (fun e w1 h1 => ?_)
  obtain ⟨u, rfl, un, ual, uin, ub⟩ := h1
  have hb1 : Below W.heap.size W w1 := (Below.refl W.heap.size W).drew.trans ub
  have HU := hid (And.intro (LAlk.mk (R := VT.Alike) un ual) (And.intro uin hb1))
  have HB1 := hid (HB.out.trans (hb1.mono HB.out.size))
  clear un ual uin ub hb1 HC
  refine ⟨_, rfl, ?_⟩
  go_simp
  refine hK1 _ _ (fun _ => HU.out.2.2) ?_
  clear hK1 K1
  refine wpPre_nil ?_
  refine wpTr_e rfl (fun K1 hK1 => ?_)
  refine step_call rfl 55 #[.tmp 7, .func 56] _ rfl Try.f55 Try.func55 (by kernel_rfl) rfl #[.slice t.lg.p t.lg.n t.lg.c, .func (.func 56) #[] #[]] rfl _ (HL.out _ HB1.out) (fun e w2 h2 => ?_)
  obtain ⟨v, rfl, vn, val, vin, vb⟩ := h2
  have HV := hid (And.intro (LAlk.mk (R := LAlk RT.Alike) vn val) (And.intro vin vb))
  have HB2 := hid (HB1.out.trans (vb.mono HB1.out.size))
  clear vn val vin vb HL
  refine ⟨_, rfl, ?_⟩
  go_simp
  refine hK1 _ _ (fun _ => HU.out.2.2.trans (HV.out.2.2.mono HU.out.2.2.size)) ?_
  clear hK1 K1
  refine wpPre_nil ?_
  refine wpTr_e rfl (fun K1 hK1 => ?_)
  refine step_call rfl 56 #[.tmp 10] _ rfl Try.f56 Try.func56 (by kernel_rfl) rfl #[.slice t.pd.p t.pd.n t.pd.c] rfl _ (HP.out _ HB2.out) (fun e w3 h3 => ?_)
  obtain ⟨x, rfl, xn, xal, xin, xb⟩ := h3
  have HXX := hid (And.intro (LAlk.mk (R := RT.Alike) xn xal) (And.intro xin xb))
  have HB3 := hid (HB2.out.trans (xb.mono HB2.out.size))
  clear xn xal xin xb HP
  refine ⟨_, rfl, ?_⟩
  go_simp
  refine hK1 _ _ (fun h => by cases h) ?_
  clear hK1 K1
  refine wpPre_e rfl rfl (fun K1 hK1 => ?_)
  apply Exists.intro
  refine And.intro (fun wx hx => ?_) ?_
  · go_simp
    try rfl
  go_simp
  refine hK1 _ ?_
  clear hK1 K1
  refine wpPre_nil ?_
  have hx3 := ((HX1.out.below HU.out.2.2).below HV.out.2.2).below HXX.out.2.2
  have z0 := hx3.cell 0
  have z1 := hx3.cell 1
  have z2 := hx3.cell 2
  have z3 := hx3.cell 3
  have f0 := hx3.frozen 0
  have f1 := hx3.frozen 1
  have f2 := hx3.frozen 2
  have f3 := hx3.frozen 3
  have xl := hx3.lt
  simp at z0 z1 z2 z3
  clear hx3
  refine wpTr_e rfl (fun K1 hK1 => ?_)
  go_simp
  refine hK1 _ _ (fun h => by cases h) ?_
  clear hK1 K1
  refine wpPre_nil ?_
  refine wpTr_done ?_
  go_wp2
  have hbt := ((((But.one w3 (w.heap.size + 1)).setAt 0 (.int .i64 t.num)).setAt 1 (.slice u.p u.n u.c)).setAt 2 (.slice v.p v.n v.c)).setAt 3 (.slice x.p x.n x.c)
  have s1 := HU.out.2.2.size
  have s2 := HV.out.2.2.size
  have s3 := HXX.out.2.2.size
  refine bodyPost_ret (v := .agg #[.int .i64 t.num, .slice u.p u.n u.c, .slice v.p v.n v.c, .slice x.p x.n x.c]) (by simp [results, Try.results32, go_sem, z0, z1, z2, z3]) rfl ⟨⟨t.num, u, v, x⟩, rfl, ⟨rfl, HU.out.1, HV.out.1, HXX.out.1⟩, ⟨?_, ?_, ?_⟩, HB3.out.trans (hbt.below HB3.out.size (fun k hk e => by omega))⟩
  · exact (((HU.out.2.1.below HV.out.2.2).below HXX.out.2.2).mono (S' := fun k => w.heap.size + 2 ≤ k) (fun k hk _ => by have : W.heap.size ≤ k := hk; omega)).kept hbt.size (fun k hk hl => hbt.block k hl (by omega)) |>.mono (fun k hk _ => by omega)
  · exact ((HV.out.2.1.below HXX.out.2.2).mono (S' := fun k => w.heap.size + 2 ≤ k) (fun k hk _ => by omega)).kept hbt.size (fun k hk hl => hbt.block k hl (by omega)) |>.mono (fun k hk _ => by omega)
  · exact (HXX.out.2.1.mono (S' := fun k => w.heap.size + 2 ≤ k) (fun k hk _ => by omega)).kept hbt.size (fun k hk hl => hbt.block k hl (by omega)) |>.mono (fun k hk _ => by omega)
end Go.Proofs.Ytldkepokcbjlpaa
