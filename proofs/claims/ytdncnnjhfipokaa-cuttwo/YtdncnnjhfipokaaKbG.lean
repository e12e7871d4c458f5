import Derived.Test.YtdncnnjhfipokaaPack8
namespace Go.Proofs.Ytdncnnjhfipokaa
open Go.RowKit
set_option maxRecDepth 8000
set_option maxHeartbeats 4000000 in
theorem shut3_any (i : Nat) (hi : i < 4) (a : LT RT) (num : Int) (l : LT VT) (q : LT RT) (w : World) (S : Nat → Prop) (b : Nat) (K : Bk) (hI : BkI w b K) (hS : ∀ k, S k → ¬ K.C b k) (hl : LT.In elCell w S l) (hq : LT.In elRec w S q) (sl : SzC l) (sq : SzR q) (ha : LT.In elRec w S a) (sa : SzR a) (hn : (K.lg i).n ≤ 1000000000) (hm : K.mode = 3) :
    Calls Try.prog 37 #[.pointer (some ⟨b, 0, none⟩), .int .i64 (i : Int), .slice a.p a.n a.c, .agg #[.int .i64 num, .slice l.p l.n l.c], .slice q.p q.n q.c] w fun e w' => ∃ K', e = .returned (.bool (K.shutR i)) ∧ ShutQ i a num l q w b K w' K' := by
  have hB : Below w.heap.size w (w.alloc (.cells #[.int .i64 num, .slice l.p l.n l.c] 40)) := (Below.refl _ _).alloc (Nat.le_refl _) _
  have HX0 := hid (Box.new w #[.int .i64 num, .slice l.p l.n l.c] 40)
  have HB := hid hB
  have HI := hid hI
  have c0 := hI.box.cell 0
  have hbl := hI.box.lt
  have cs := hI.cs hi
  have fs := hI.box.frozen (4 + i)
  have hi4 : (i : Int) < 4 := by omega
  simp [Bk.arr] at c0
  rw [hm] at c0
  have HS := hid hS
  have HL := hid (And.intro hl (And.intro hq (And.intro sl sq)))
  clear hI hS hl hq sl sq hB
  have cl0 := HI.out.cl_ hi
  have HA := hid (And.intro ha sa)
  have san := sa.n
  obtain ⟨i0, Kd⟩ := kindRs
  have HKd := hid Kd
  clear ha sa Kd
  go_enter Try.func37, Try.ntmps37
  go_wp2_with fail
  obtain ⟨W0, hW0⟩ : ∃ W0, W0 = w.alloc (.cells #[.int .i64 num, .slice l.p l.n l.c] 40) := ⟨_, rfl⟩
  rw [← hW0] at HB HX0 ⊢
  have hIW := HI.out.below HB.out
  have HIW := hid hIW
  have cl := hIW.cl_ hi
  have hbW := hIW.box.lt
  have HF : Hid (∀ V, Below W0.heap.size W0 V → Calls Try.prog 55 #[.slice a.p a.n a.c] V fun e w' => ∃ u : LT RT, e = .returned (.slice u.p u.n u.c) ∧ u.n = a.n ∧ (∀ j, j < a.n → RT.Alike (a.item j) (u.item j)) ∧ LT.In elRec w' (fun b => V.heap.size ≤ b) u ∧ Below V.heap.size V w') := fun V hV =>
    freshRs a V (fun k => S k ∧ k < w.heap.size) ((HA.out.1.mono fun k hk hl => ⟨hk, hl⟩).kept (Nat.le_trans HB.out.size hV.size) (fun k hk _ => (hV.block k (by have := HB.out.size; omega)).trans (HB.out.block k hk.2))) HA.out.2.n HA.out.2.item
  clear hIW hW0 cl0 cs fs c0 HA
  refine wp_region_calmE 30 (fun wx => Below W0.heap.size W0 wx) [(0, true), (1, true), (2, true), (3, true), (4, true), (5, true), (6, true), (7, true), (8, false), (9, true), (12, true), (13, true), (14, true)] (.one 10 true [] (.one 11 false [(15, true)] (.one 16 false [] .done))) (by kernel_rfl) (by kernel_rfl) (Below.refl _ _).drew ?_
  refine wpPre_e rfl rfl (fun K1 hK1 => ?_)
  apply Exists.intro
  refine And.intro (fun wx hx => ?_) ?_
  · go_simp
    try rfl
  go_simp
  refine hK1 _ ?_
  clear hK1 K1
  refine wpPre_e rfl rfl (fun K1 hK1 => ?_)
  apply Exists.intro
  refine And.intro (fun wx hx => ?_) ?_
  · go_simp
    try rfl
  go_simp
  refine hK1 _ ?_
  clear hK1 K1
  refine wpPre_e rfl rfl (fun K1 hK1 => ?_)
  apply Exists.intro
  refine And.intro (fun wx hx => ?_) ?_
  · go_simp
    try rfl
  go_simp
  refine hK1 _ ?_
  clear hK1 K1
  refine wpPre_e rfl rfl (fun K1 hK1 => ?_)
  apply Exists.intro
  refine And.intro (fun wx hx => ?_) ?_
  · go_simp
    try rfl
  go_simp
  refine hK1 _ ?_
  clear hK1 K1
  refine wpPre_e rfl rfl (fun K1 hK1 => ?_)
  apply Exists.intro
  refine And.intro (fun wx hx => ?_) ?_
  · go_simp
    try rfl
  go_simp
  refine hK1 _ ?_
  clear hK1 K1
  refine wpPre_e rfl rfl (fun K1 hK1 => ?_)
  apply Exists.intro
  refine And.intro (fun wx hx => ?_) ?_
  · go_simp
    try rfl
  go_simp
  refine hK1 _ ?_
  clear hK1 K1
  refine wpPre_e rfl rfl (fun K1 hK1 => ?_)
  apply Exists.intro
  refine And.intro (fun wx hx => ?_) ?_
  · go_simp
    try rfl
  go_simp
  refine hK1 _ ?_
  clear hK1 K1
  refine wpPre_e rfl rfl (fun K1 hK1 => ?_)
  apply Exists.intro
  refine And.intro (fun wx hx => ?_) ?_
  · go_simp
    try rfl
  go_simp
  refine hK1 _ ?_
  clear hK1 K1
  refine wpPre_e rfl rfl (fun K1 hK1 => ?_)
  apply Exists.intro
  refine And.intro (fun wx hx => ?_) ?_
  · have e0 := below_fact hx rfl cl
    go_simp
    try rfl
  go_simp
  refine hK1 _ ?_
  clear hK1 K1
  refine wpPre_e rfl rfl (fun K1 hK1 => ?_)
  apply Exists.intro
  refine And.intro (fun wx hx => ?_) ?_
  · go_simp
    try rfl
  go_simp
  refine hK1 _ ?_
  clear hK1 K1
  refine wpPre_e rfl rfl (fun K1 hK1 => ?_)
  apply Exists.intro
  refine And.intro (fun wx hx => ?_) ?_
  · go_simp
    try rfl
  go_simp
  refine hK1 _ ?_
  clear hK1 K1
  refine wpPre_e rfl rfl (fun K1 hK1 => ?_)
  apply Exists.intro
  refine And.intro (fun wx hx => ?_) ?_
  · go_simp
    try rfl
  go_simp
  refine hK1 _ ?_
  clear hK1 K1
  refine wpPre_e rfl rfl (fun K1 hK1 => ?_)
  apply Exists.intro
  refine And.intro (fun wx hx => ?_) ?_
  · go_simp
    try rfl
  go_simp
  refine hK1 _ ?_
  clear hK1 K1
  refine wpPre_nil ?_
  refine wpTr_e rfl (fun K1 hK1 => ?_)
  refine step_call rfl 55 #[.tmp 30] _ rfl Try.f55 Try.func55 (by kernel_rfl) rfl #[.slice a.p a.n a.c] rfl _ (HF.out _ (Below.refl _ _).drew) (fun e w4 h4 => ?_)
  obtain ⟨m, rfl, mn, mal, min, mb⟩ := h4
  refine ⟨_, rfl, ?_⟩
  have hb4 : Below W0.heap.size W0 w4 := (Below.refl W0.heap.size W0).drew.trans mb
  have min' : LT.In elRec w4 (fun b => W0.heap.size ≤ b) m := min
  have HM := hid (And.intro (LT.Alk.mk (R := RT.Alike) mn mal) (And.intro min' hb4))
  have hmn : m.n ≤ 10000 := by omega
  have hI4 := HIW.out.below hb4
  have HI4 := hid hI4
  clear mn mal min min' mb HF
  go_simp
  refine hK1 _ _ (fun _ => hb4) ?_
  clear hK1 K1
  refine wpPre_nil ?_
  refine wpTr_e rfl (fun K1 hK1 => ?_)
  refine step_appS rfl (.tmp 29) (.tmp 31) 37 36 i0 _ 6 96 HKd.out rfl 0 (.slice (K.lg i).p (K.lg i).n (K.lg i).c) (K.lg i).n (rowsR (K.lg i)) rfl (HI4.out.own i hi) m.p m.n m.c (rowsR m) rfl HM.out.2.1.src (fun u hu => by obtain ⟨j, _, hj⟩ := List.mem_flatMap.1 hu; exact elRec.one _ u hj) (by omega) (by omega) (Nat.zero_le _) ?_
  intro v6 w6 ho6 hg6 hn6
  obtain ⟨p6, c6, rfl⟩ := ownsRow_slice ho6
  have hb6 : Box w6 b K.arr 78 := hI4.box.kept (hg6.block b hI4.box.lt (fun e => HIW.out.ne i hi e.symm))
  have y1 : ∃ z, w6.cell? ⟨b, 12 + i, none⟩ = some z := by
    rw [hb6.cell]
    rcases (by omega : i = 0 ∨ i = 1 ∨ i = 2 ∨ i = 3) with rfl | rfl | rfl | rfl <;> exact ⟨_, rfl⟩
  obtain ⟨z1, y1⟩ := y1
  have g1 := hb6.frozen (12 + i)
  have y2 : w6.cell? ⟨b, 4 + i, none⟩ = some (.int .i64 (K.st i)) := by
    rw [hb6.cell]
    rcases (by omega : i = 0 ∨ i = 1 ∨ i = 2 ∨ i = 3) with rfl | rfl | rfl | rfl <;> rfl
  have g2 := hb6.frozen (4 + i)
  have hlt6 := hb6.lt
  rw [← rowsR_join (K.lg i) m p6 c6] at ho6
  have hb04 : Below w.heap.size w w4 := HB.out.trans (HM.out.2.2.mono HB.out.size)
  have HS6 := hid (HI.out.setLog (w1 := w4) (w2 := w6) (i := i) (l := (K.lg i).join m p6 c6) hi hb04 ho6 hg6 hn6)
  have HR6 : Hid (∀ j, j < m.n → RT.In (w6.setCell ⟨b, 12 + i, none⟩ (.slice p6 ((K.lg i).n + m.n) c6)) (fun k => w.heap.size ≤ k ∧ ¬ (K.setLog i ((K.lg i).join m p6 c6)).C b k) (m.item j)) := fun j hj =>
    RT.In.apart (l := (K.lg i).join m p6 c6) HI.out hi (RT.In.mono (HM.out.2.1.each j hj) (fun k hk _ => Nat.le_trans HB.out.size hk)) hg6 hn6
  have HX6 : Hid (Box w6 w.heap.size #[.int .i64 num, .slice l.p l.n l.c] 40) := by
    have hx := HX0.out.below HM.out.2.2
    exact hx.kept (hg6.block _ hx.lt (fun e => by have := (HI.out.own i hi).lt _ e.symm; omega))
  clear ho6 hg6 hn6 hb6 hI4 HI4 hb04 hb4 HX0
  go_simp
  refine hK1 _ _ (fun h => by cases h) ?_
  clear hK1 K1
  refine wpPre_e rfl rfl (fun K1 hK1 => ?_)
  apply Exists.intro
  refine And.intro (fun wx hx => ?_) ?_
  · go_simp
    try rfl
  go_simp
  refine hK1 _ ?_
  clear hK1 K1
  refine wpPre_nil ?_
  refine wpTr_e rfl (fun K1 hK1 => ?_)
  go_simp
  refine hK1 _ _ (fun h => by cases h) ?_
  clear hK1 K1
  refine wpPre_nil ?_
  refine wpTr_done ?_
  go_wp2_with fail
  obtain ⟨W2, hW2⟩ : ∃ W2, W2 = (w6.setCell ⟨b, 12 + i, none⟩ (.slice p6 ((K.lg i).n + m.n) c6)).setCell ⟨b, 4 + i, none⟩ (.int .i64 1) := ⟨_, rfl⟩
  rw [← hW2]
  have HS7 := HS6.out.inv.setSt hi (Below.refl _ _) 1 (by decide)
  have HS2 : Hid (SetLog w b K W2 ((K.setLog i ((K.lg i).join m p6 c6)).setSt i 1)) := by rw [hW2]; exact HS6.out.trans HS7
  have HX2 : Box W2 w.heap.size #[.int .i64 num, .slice l.p l.n l.c] 40 := by
    rw [hW2]
    exact (HX6.out.kept (Below.heap_setCell _ _ _ _ (by show w.heap.size ≠ b; omega))).kept (Below.heap_setCell _ _ _ _ (by show w.heap.size ≠ b; omega))
  have HR2 : Hid (∀ j, j < m.n → RT.In W2 (fun k => w.heap.size ≤ k ∧ ¬ ((K.setLog i ((K.lg i).join m p6 c6)).setSt i 1).C b k) (m.item j)) := fun j hj => by
    rw [hW2]
    exact (HR6.out j hj).kept HS7.but.size (fun k hk hl => HS7.but.block k hl hk.2)
  have s0 := HX2.cell 0
  have s1 := HX2.cell 1
  simp at s0 s1
  have HL2 : Hid (∀ V : World, (∀ k, S k → k < w.heap.size → V.heap[k]? = W2.heap[k]?) → W2.heap.size ≤ V.heap.size → LT.In elCell V (fun k => S k ∧ k < w.heap.size) l ∧ LT.In elRec V (fun k => S k ∧ k < w.heap.size) q) := fun V hV hs =>
    ⟨(HL.out.1.mono fun k hk hl => ⟨hk, hl⟩).kept (Nat.le_trans HS2.out.but.size hs) (fun k hk _ => (hV k hk.1 hk.2).trans (HS2.out.but.block k hk.2 (HS.out k hk.1))), (HL.out.2.1.mono fun k hk hl => ⟨hk, hl⟩).kept (Nat.le_trans HS2.out.but.size hs) (fun k hk _ => (hV k hk.1 hk.2).trans (HS2.out.but.block k hk.2 (HS.out k hk.1)))⟩
  clear hW2 HX2 HX6 HS7 HS6 HR6 y1 y2 g1 g2 cl
  have HC := hid (copy_any num l q W2.drew (fun k => S k ∧ k < w.heap.size) b ((K.setLog i ((K.lg i).join m p6 c6)).setSt i 1) HS2.out.drew.inv (HL2.out W2.drew (fun _ _ _ => rfl) (Nat.le_refl _)).1 (HL2.out W2.drew (fun _ _ _ => rfl) (Nat.le_refl _)).2 HL.out.2.2.1 HL.out.2.2.2)
  refine wp_region_calmE 30 (fun wx => Below W2.heap.size W2 wx) [(0, true), (1, true), (2, true), (3, false), (4, true)] (.one 5 false [(6, true)] .done) (by kernel_rfl) (by kernel_rfl) (Below.refl _ _).drew ?_
  refine wpPre_e rfl rfl (fun K1 hK1 => ?_)
  apply Exists.intro
  refine And.intro (fun wx hx => ?_) ?_
  · go_simp
    try rfl
  go_simp
  refine hK1 _ ?_
  clear hK1 K1
  refine wpPre_e rfl rfl (fun K1 hK1 => ?_)
  apply Exists.intro
  refine And.intro (fun wx hx => ?_) ?_
  · go_simp
    try rfl
  go_simp
  refine hK1 _ ?_
  clear hK1 K1
  refine wpPre_e rfl rfl (fun K1 hK1 => ?_)
  apply Exists.intro
  refine And.intro (fun wx hx => ?_) ?_
  · go_simp
    try rfl
  go_simp
  refine hK1 _ ?_
  clear hK1 K1
  refine wpPre_e rfl rfl (fun K1 hK1 => ?_)
  apply Exists.intro
  refine And.intro (fun wx hx => ?_) ?_
  · have e0 := below_fact hx rfl s0
    have e1 := below_fact hx rfl s1
    go_simp
    try rfl
  go_simp
  refine hK1 _ ?_
  clear hK1 K1
  refine wpPre_e rfl rfl (fun K1 hK1 => ?_)
  apply Exists.intro
  refine And.intro (fun wx hx => ?_) ?_
  · go_simp
    try rfl
  go_simp
  refine hK1 _ ?_
  clear hK1 K1
  refine wpPre_nil ?_
  refine wpTr_e rfl (fun K1 hK1 => ?_)
  refine step_call rfl 56 #[.tmp 45, .tmp 46, .tmp 47] _ rfl Try.f56 Try.func56 (by kernel_rfl) rfl #[.pointer (some ⟨b, 3, none⟩), .agg #[.int .i64 num, .slice l.p l.n l.c], .slice q.p q.n q.c] rfl _ HC.out (fun e w4 h4 => ?_)
  obtain ⟨K4, rfl, hQ4⟩ := h4
  refine ⟨_, rfl, ?_⟩
  have HQ4 := hid hQ4
  clear hQ4 HC
  go_simp
  refine hK1 _ _ (fun h => by cases h) ?_
  clear hK1 K1
  refine wpPre_e rfl rfl (fun K1 hK1 => ?_)
  apply Exists.intro
  refine And.intro (fun wx hx => ?_) ?_
  · go_simp
    try rfl
  go_simp
  refine hK1 _ ?_
  clear hK1 K1
  refine wpPre_nil ?_
  refine wpTr_done ?_
  go_wp2
  have hR : K.shutR i = !K.cp := by rw [Bk.shutR, if_neg (by rw [hm]; decide)]
  have hSt : K.shutS i = (K.setSt i 1).st := by rw [Bk.shutS, if_neg (by rw [hm]; decide)]
  refine bodyPost_ret (v := .bool (!K.cp)) (by simp [results, Try.results37, go_sem, Bk.setSt, Bk.setLog]) rfl ⟨K4, by rw [hR], ?_⟩
  have h9 := ShutB.ofCopy (a := a) HS2.out hR (fun j hj => by simp [Bk.setSt, Bk.setLog, hj]) (fun h => absurd hm h) (fun _ => ⟨m, p6, c6, by simp [Bk.setSt, Bk.setLog], HM.out.1, HR2.out⟩) HQ4.out
  exact ⟨h9.1, h9.2.trans hSt.symm⟩
end Go.Proofs.Ytdncnnjhfipokaa
