import Derived.Test.YtdncnnjhfipokaaPack7
namespace Go.Proofs.Ytdncnnjhfipokaa
open Go.RowKit
set_option maxRecDepth 8000
set_option maxHeartbeats 4000000 in
theorem shut1_any (i : Nat) (hi : i < 4) (a : LT RT) (num : Int) (l : LT VT) (q : LT RT) (w : World) (S : Nat → Prop) (b : Nat) (K : Bk) (hI : BkI w b K) (hS : ∀ k, S k → ¬ K.C b k) (hl : LT.In elCell w S l) (hq : LT.In elRec w S q) (sl : SzC l) (sq : SzR q) (hm : K.mode = 1) :
    Calls Try.prog 37 #[.pointer (some ⟨b, 0, none⟩), .int .i64 (i : Int), .slice a.p a.n a.c, .agg #[.int .i64 num, .slice l.p l.n l.c], .slice q.p q.n q.c] w fun e w' => ∃ K', e = .returned (.bool (K.shutR i)) ∧ ShutQ i a num l q w b K w' K' := by
  have hB : Below w.heap.size w (w.alloc (.cells #[.int .i64 num, .slice l.p l.n l.c] 40)) := (Below.refl _ _).alloc (Nat.le_refl _) _
  have HX0 := hid (Box.new w #[.int .i64 num, .slice l.p l.n l.c] 40)
  have HB := hid hB
  have HI := hid hI
  have c0 := hI.box.cell 0
  have hbl := hI.box.lt
  have cs := hI.cs hi
  have fs := hI.box.frozen (4 + i)
  have hi4 : (i : Int) < 4 := by omega
  simp [Bk.arr] at c0
  rw [hm] at c0
  have HS := hid hS
  have HL := hid (And.intro hl (And.intro hq (And.intro sl sq)))
  clear hI hS hl hq sl sq hB
  go_enter Try.func37, Try.ntmps37
  go_wp2_with fail
  obtain ⟨W2, hW2⟩ : ∃ W2, W2 = (w.setCell ⟨b, 4 + i, none⟩ (.int .i64 2)).alloc (.cells #[.int .i64 num, .slice l.p l.n l.c] 40) := ⟨_, rfl⟩
  rw [← hW2]
  have HS2 : Hid (SetLog w b K W2 (K.setSt i 2)) := by rw [hW2]; exact (HI.out.setSt hi (Below.refl _ _) 2 (by decide)).trans (SetLog.same (HI.out.setSt hi (Below.refl _ _) 2 (by decide)).inv ((Below.refl _ _).alloc (Nat.le_refl _) _))
  have HX2 : Box W2 w.heap.size #[.int .i64 num, .slice l.p l.n l.c] 40 := by rw [hW2]; have := Box.new (w.setCell ⟨b, 4 + i, none⟩ (.int .i64 2)) #[.int .i64 num, .slice l.p l.n l.c] 40; simpa [World.setCell] using this
  have s0 := HX2.cell 0
  have s1 := HX2.cell 1
  simp at s0 s1
  have HL2 : Hid (∀ V : World, (∀ k, S k → k < w.heap.size → V.heap[k]? = W2.heap[k]?) → W2.heap.size ≤ V.heap.size → LT.In elCell V (fun k => S k ∧ k < w.heap.size) l ∧ LT.In elRec V (fun k => S k ∧ k < w.heap.size) q) := fun V hV hs =>
    ⟨(HL.out.1.mono fun k hk hl => ⟨hk, hl⟩).kept (Nat.le_trans HS2.out.but.size hs) (fun k hk _ => (hV k hk.1 hk.2).trans (HS2.out.but.block k hk.2 (HS.out k hk.1))), (HL.out.2.1.mono fun k hk hl => ⟨hk, hl⟩).kept (Nat.le_trans HS2.out.but.size hs) (fun k hk _ => (hV k hk.1 hk.2).trans (HS2.out.but.block k hk.2 (HS.out k hk.1)))⟩
  clear hW2 cs fs c0 HX2 HX0
  refine (aligned_any W2 b _ HS2.out.inv).mono ?_
  rintro e w1 ⟨rfl, rfl⟩
  rcases hA : (K.setSt i 2).alig with _ | _
  · have hR : K.shutR i = false := by rw [Bk.shutR, if_pos hm, hA]; rfl
    have hSt : K.shutS i = (K.setSt i 2).st := by rw [Bk.shutS, if_pos hm, hA]; rfl
    go_wp2
    refine bodyPost_ret (v := .bool false) (by simp [results, Try.results37, go_sem]) rfl ⟨K.setSt i 2, by rw [hR], ⟨HS2.out, rfl, rfl, rfl, rfl, by rw [hR]; simp [Bk.setSt], fun _ _ => rfl, fun _ => rfl, fun h => (by rw [hm] at h; cases h), fun h => (by rw [hR] at h; cases h), fun _ => ⟨rfl, rfl, rfl⟩⟩, hSt.symm⟩
  · have hR : K.shutR i = !K.cp := by rw [Bk.shutR, if_pos hm, hA]; simp
    have hSt : K.shutS i = ((K.setSt i 2).rel 4).st := by rw [Bk.shutS, if_pos hm, hA]; rfl
    have HC := hid (copy_any num l q w1.drew (fun k => S k ∧ k < w.heap.size) b (K.setSt i 2) HS2.out.drew.inv (HL2.out w1.drew (fun _ _ _ => rfl) (Nat.le_refl _)).1 (HL2.out w1.drew (fun _ _ _ => rfl) (Nat.le_refl _)).2 HL.out.2.2.1 HL.out.2.2.2)
    go_wp2_with fail
    refine wp_region_calmE 30 (fun wx => Below w1.heap.size w1 wx) [(0, true), (1, true), (2, true), (3, false), (4, true)] (.one 5 false [(6, true)] .done) (by kernel_rfl) (by kernel_rfl) (Below.refl _ _).drew ?_
    refine wpPre_e rfl rfl (fun K1 hK1 => ?_)
    apply Exists.intro
    refine And.intro (fun wx hx => ?_) ?_
    · go_simp
      try rfl
    go_simp
    refine hK1 _ ?_
    clear hK1 K1
    refine wpPre_e rfl rfl (fun K1 hK1 => ?_)
    apply Exists.intro
    refine And.intro (fun wx hx => ?_) ?_
    · go_simp
      try rfl
    go_simp
    refine hK1 _ ?_
    clear hK1 K1
    refine wpPre_e rfl rfl (fun K1 hK1 => ?_)
    apply Exists.intro
    refine And.intro (fun wx hx => ?_) ?_
    · go_simp
      try rfl
    go_simp
    refine hK1 _ ?_
    clear hK1 K1
    refine wpPre_e rfl rfl (fun K1 hK1 => ?_)
    apply Exists.intro
    refine And.intro (fun wx hx => ?_) ?_
    · have e0 := below_fact hx rfl s0
      have e1 := below_fact hx rfl s1
      go_simp
      try rfl
    go_simp
    refine hK1 _ ?_
    clear hK1 K1
    refine wpPre_e rfl rfl (fun K1 hK1 => ?_)
    apply Exists.intro
    refine And.intro (fun wx hx => ?_) ?_
    · go_simp
      try rfl
    go_simp
    refine hK1 _ ?_
    clear hK1 K1
    refine wpPre_nil ?_
    refine wpTr_e rfl (fun K1 hK1 => ?_)
    refine step_call rfl 56 #[.tmp 59, .tmp 60, .tmp 61] _ rfl Try.f56 Try.func56 (by kernel_rfl) rfl #[.pointer (some ⟨b, 3, none⟩), .agg #[.int .i64 num, .slice l.p l.n l.c], .slice q.p q.n q.c] rfl _ HC.out (fun e w4 h4 => ?_)
    obtain ⟨K4, rfl, hQ4⟩ := h4
    refine ⟨_, rfl, ?_⟩
    have HQ4 := hid hQ4
    clear hQ4 HC
    go_simp
    refine hK1 _ _ (fun h => by cases h) ?_
    clear hK1 K1
    refine wpPre_e rfl rfl (fun K1 hK1 => ?_)
    apply Exists.intro
    refine And.intro (fun wx hx => ?_) ?_
    · go_simp
      try rfl
    go_simp
    refine hK1 _ ?_
    clear hK1 K1
    refine wpPre_nil ?_
    refine wpTr_done ?_
    have h9 := ShutB.ofCopy (a := a) HS2.out hR (fun j _ => rfl) (fun _ => rfl) (fun h => by rw [hm] at h; cases h) HQ4.out
    have H9 := hid h9
    clear h9
    go_wp2_with fail
    refine (release_any w4 b K4 HQ4.out.s.inv).mono ?_
    rintro e w5 ⟨rfl, h5⟩
    have H5 := hid h5
    clear h5
    go_wp2
    refine bodyPost_ret (v := .bool (!K.cp)) (by simp [results, Try.results37, go_sem, Bk.setSt]) rfl ⟨K4.rel 4, by rw [hR], H9.out.1.rel H5.out, ?_⟩
    rw [hSt]
    simp only [Bk.rel, H9.out.2]
end Go.Proofs.Ytdncnnjhfipokaa

namespace Go.Proofs.Ytdncnnjhfipokaa
open Go.RowKit
set_option maxRecDepth 8000
set_option maxHeartbeats 4000000 in
theorem shut3_any (i : Nat) (hi : i < 4) (a : LT RT) (num : Int) (l : LT VT) (q : LT RT) (w : World) (S : Nat → Prop) (b : Nat) (K : Bk) (hI : BkI w b K) (hS : ∀ k, S k → ¬ K.C b k) (hl : LT.In elCell w S l) (hq : LT.In elRec w S q) (sl : SzC l) (sq : SzR q) (ha : LT.In elRec w S a) (sa : SzR a) (hn : (K.lg i).n ≤ 1000000000) (hm : K.mode = 3) :
    Calls Try.prog 37 #[.pointer (some ⟨b, 0, none⟩), .int .i64 (i : Int), .slice a.p a.n a.c, .agg #[.int .i64 num, .slice l.p l.n l.c], .slice q.p q.n q.c] w fun e w' => ∃ K', e = .returned (.bool (K.shutR i)) ∧ ShutQ i a num l q w b K w' K' := by
  have hB : Below w.heap.size w (w.alloc (.cells #[.int .i64 num, .slice l.p l.n l.c] 40)) := (Below.refl _ _).alloc (Nat.le_refl _) _
  have HX0 := hid (Box.new w #[.int .i64 num, .slice l.p l.n l.c] 40)
  have HB := hid hB
  have HI := hid hI
  have c0 := hI.box.cell 0
  have hbl := hI.box.lt
  have cs := hI.cs hi
  have fs := hI.box.frozen (4 + i)
  have hi4 : (i : Int) < 4 := by omega
  simp [Bk.arr] at c0
  rw [hm] at c0
  have HS := hid hS
  have HL := hid (And.intro hl (And.intro hq (And.intro sl sq)))
  clear hI hS hl hq sl sq hB
  have cl0 := HI.out.cl_ hi
  have HA := hid (And.intro ha sa)
  have san := sa.n
  obtain ⟨i0, Kd⟩ := kindRs
  have HKd := hid Kd
  clear ha sa Kd
  go_enter Try.func37, Try.ntmps37
  go_wp2_with fail
  obtain ⟨W0, hW0⟩ : ∃ W0, W0 = w.alloc (.cells #[.int .i64 num, .slice l.p l.n l.c] 40) := ⟨_, rfl⟩
  rw [← hW0] at HB HX0 ⊢
  have hIW := HI.out.below HB.out
  have HIW := hid hIW
  have cl := hIW.cl_ hi
  have hbW := hIW.box.lt
  have HF : Hid (∀ V, Below W0.heap.size W0 V → Calls Try.prog 55 #[.slice a.p a.n a.c] V fun e w' => ∃ u : LT RT, e = .returned (.slice u.p u.n u.c) ∧ u.n = a.n ∧ (∀ j, j < a.n → RT.Alike (a.item j) (u.item j)) ∧ LT.In elRec w' (fun b => V.heap.size ≤ b) u ∧ Below V.heap.size V w') := fun V hV =>
    freshRs a V (fun k => S k ∧ k < w.heap.size) ((HA.out.1.mono fun k hk hl => ⟨hk, hl⟩).kept (Nat.le_trans HB.out.size hV.size) (fun k hk _ => (hV.block k (by have := HB.out.size; omega)).trans (HB.out.block k hk.2))) HA.out.2.n HA.out.2.item
  clear hIW hW0 cl0 cs fs c0 HA
  refine wp_region_calmE 30 (fun wx => Below W0.heap.size W0 wx) [(0, true), (1, true), (2, true), (3, true), (4, true), (5, true), (6, true), (7, true), (8, false), (9, true), (12, true), (13, true), (14, true)] (.one 10 true [] (.one 11 false [(15, true)] (.one 16 false [] .done))) (by kernel_rfl) (by kernel_rfl) (Below.refl _ _).drew ?_
  refine wpPre_e rfl rfl (fun K1 hK1 => ?_)
  apply Exists.intro
  refine And.intro (fun wx hx => ?_) ?_
  · go_simp
    try rfl
  go_simp
  refine hK1 _ ?_
  clear hK1 K1
  refine wpPre_e rfl rfl (fun K1 hK1 => ?_)
  apply Exists.intro
  refine And.intro (fun wx hx => ?_) ?_
  · go_simp
    try rfl
  go_simp
  refine hK1 _ ?_
  clear hK1 K1
  refine wpPre_e rfl rfl (fun K1 hK1 => ?_)
  apply Exists.intro
  refine And.intro (fun wx hx => ?_) ?_
  · go_simp
    try rfl
  go_simp
  refine hK1 _ ?_
  clear hK1 K1
  refine wpPre_e rfl rfl (fun K1 hK1 => ?_)
  apply Exists.intro
  refine And.intro (fun wx hx => ?_) ?_
  · go_simp
    try rfl
  go_simp
  refine hK1 _ ?_
  clear hK1 K1
  refine wpPre_e rfl rfl (fun K1 hK1 => ?_)
  apply Exists.intro
  refine And.intro (fun wx hx => ?_) ?_
  · go_simp
    try rfl
  go_simp
  refine hK1 _ ?_
  clear hK1 K1
  refine wpPre_e rfl rfl (fun K1 hK1 => ?_)
  apply Exists.intro
  refine And.intro (fun wx hx => ?_) ?_
  · go_simp
    try rfl
  go_simp
  refine hK1 _ ?_
  clear hK1 K1
  refine wpPre_e rfl rfl (fun K1 hK1 => ?_)
  apply Exists.intro
  refine And.intro (fun wx hx => ?_) ?_
  · go_simp
    try rfl
  go_simp
  refine hK1 _ ?_
  clear hK1 K1
  refine wpPre_e rfl rfl (fun K1 hK1 => ?_)
  apply Exists.intro
  refine And.intro (fun wx hx => ?_) ?_
  · go_simp
    try rfl
  go_simp
  refine hK1 _ ?_
  clear hK1 K1
  refine wpPre_e rfl rfl (fun K1 hK1 => ?_)
  apply Exists.intro
  refine And.intro (fun wx hx => ?_) ?_
  · have e0 := below_fact hx rfl cl
    go_simp
    try rfl
  go_simp
  refine hK1 _ ?_
  clear hK1 K1
  refine wpPre_e rfl rfl (fun K1 hK1 => ?_)
  apply Exists.intro
  refine And.intro (fun wx hx => ?_) ?_
  · go_simp
    try rfl
  go_simp
  refine hK1 _ ?_
  clear hK1 K1
  refine wpPre_e rfl rfl (fun K1 hK1 => ?_)
  apply Exists.intro
  refine And.intro (fun wx hx => ?_) ?_
  · go_simp
    try rfl
  go_simp
  refine hK1 _ ?_
  clear hK1 K1
  refine wpPre_e rfl rfl (fun K1 hK1 => ?_)
  apply Exists.intro
  refine And.intro (fun wx hx => ?_) ?_
  · go_simp
    try rfl
  go_simp
  refine hK1 _ ?_
  clear hK1 K1
  refine wpPre_e rfl rfl (fun K1 hK1 => ?_)
  apply Exists.intro
  refine And.intro (fun wx hx => ?_) ?_
  · go_simp
    try rfl
  go_simp
  refine hK1 _ ?_
  clear hK1 K1
  refine wpPre_nil ?_
  refine wpTr_e rfl (fun K1 hK1 => ?_)
  refine step_call rfl 55 #[.tmp 30] _ rfl Try.f55 Try.func55 (by kernel_rfl) rfl #[.slice a.p a.n a.c] rfl _ (HF.out _ (Below.refl _ _).drew) (fun e w4 h4 => ?_)
  obtain ⟨m, rfl, mn, mal, min, mb⟩ := h4
  refine ⟨_, rfl, ?_⟩
  have hb4 : Below W0.heap.size W0 w4 := (Below.refl W0.heap.size W0).drew.trans mb
  have min' : LT.In elRec w4 (fun b => W0.heap.size ≤ b) m := min
  have HM := hid (And.intro (LT.Alk.mk (R := RT.Alike) mn mal) (And.intro min' hb4))
  have hmn : m.n ≤ 10000 := by omega
  have hI4 := HIW.out.below hb4
  have HI4 := hid hI4
  clear mn mal min min' mb HF
  go_simp
  refine hK1 _ _ (fun _ => hb4) ?_
  clear hK1 K1
  refine wpPre_nil ?_
  refine wpTr_e rfl (fun K1 hK1 => ?_)
  refine step_appS rfl (.tmp 29) (.tmp 31) 37 36 i0 _ 6 96 HKd.out rfl 0 (.slice (K.lg i).p (K.lg i).n (K.lg i).c) (K.lg i).n (rowsR (K.lg i)) rfl (HI4.out.own i hi) m.p m.n m.c (rowsR m) rfl HM.out.2.1.src (fun u hu => by obtain ⟨j, _, hj⟩ := List.mem_flatMap.1 hu; exact elRec.one _ u hj) (by omega) (by omega) (Nat.zero_le _) ?_
  intro v6 w6 ho6 hg6 hn6
  obtain ⟨p6, c6, rfl⟩ := ownsRow_slice ho6
  have hb6 : Box w6 b K.arr 78 := hI4.box.kept (hg6.block b hI4.box.lt (fun e => HIW.out.ne i hi e.symm))
  have y1 : ∃ z, w6.cell? ⟨b, 12 + i, none⟩ = some z := by
    rw [hb6.cell]
    rcases (by omega : i = 0 ∨ i = 1 ∨ i = 2 ∨ i = 3) with rfl | rfl | rfl | rfl <;> exact ⟨_, rfl⟩
  obtain ⟨z1, y1⟩ := y1
  have g1 := hb6.frozen (12 + i)
  have y2 : w6.cell? ⟨b, 4 + i, none⟩ = some (.int .i64 (K.st i)) := by
    rw [hb6.cell]
    rcases (by omega : i = 0 ∨ i = 1 ∨ i = 2 ∨ i = 3) with rfl | rfl | rfl | rfl <;> rfl
  have g2 := hb6.frozen (4 + i)
  have hlt6 := hb6.lt
  rw [← rowsR_join (K.lg i) m p6 c6] at ho6
  have hb04 : Below w.heap.size w w4 := HB.out.trans (HM.out.2.2.mono HB.out.size)
  have HS6 := hid (HI.out.setLog (w1 := w4) (w2 := w6) (i := i) (l := (K.lg i).join m p6 c6) hi hb04 ho6 hg6 hn6)
  have HR6 : Hid (∀ j, j < m.n → RT.In (w6.setCell ⟨b, 12 + i, none⟩ (.slice p6 ((K.lg i).n + m.n) c6)) (fun k => w.heap.size ≤ k ∧ ¬ (K.setLog i ((K.lg i).join m p6 c6)).C b k) (m.item j)) := fun j hj =>
    RT.In.apart (l := (K.lg i).join m p6 c6) HI.out hi (RT.In.mono (HM.out.2.1.each j hj) (fun k hk _ => Nat.le_trans HB.out.size hk)) hg6 hn6
  have HX6 : Hid (Box w6 w.heap.size #[.int .i64 num, .slice l.p l.n l.c] 40) := by
    have hx := HX0.out.below HM.out.2.2
    exact hx.kept (hg6.block _ hx.lt (fun e => by have := (HI.out.own i hi).lt _ e.symm; omega))
  clear ho6 hg6 hn6 hb6 hI4 HI4 hb04 hb4 HX0
  go_simp
  refine hK1 _ _ (fun h => by cases h) ?_
  clear hK1 K1
  refine wpPre_e rfl rfl (fun K1 hK1 => ?_)
  apply Exists.intro
  refine And.intro (fun wx hx => ?_) ?_
  · go_simp
    try rfl
  go_simp
  refine hK1 _ ?_
  clear hK1 K1
  refine wpPre_nil ?_
  refine wpTr_e rfl (fun K1 hK1 => ?_)
  go_simp
  refine hK1 _ _ (fun h => by cases h) ?_
  clear hK1 K1
  refine wpPre_nil ?_
  refine wpTr_done ?_
  go_wp2_with fail
  obtain ⟨W2, hW2⟩ : ∃ W2, W2 = (w6.setCell ⟨b, 12 + i, none⟩ (.slice p6 ((K.lg i).n + m.n) c6)).setCell ⟨b, 4 + i, none⟩ (.int .i64 1) := ⟨_, rfl⟩
  rw [← hW2]
  have HS7 := HS6.out.inv.setSt hi (Below.refl _ _) 1 (by decide)
  have HS2 : Hid (SetLog w b K W2 ((K.setLog i ((K.lg i).join m p6 c6)).setSt i 1)) := by rw [hW2]; exact HS6.out.trans HS7
  have HX2 : Box W2 w.heap.size #[.int .i64 num, .slice l.p l.n l.c] 40 := by
    rw [hW2]
    exact (HX6.out.kept (Below.heap_setCell _ _ _ _ (by show w.heap.size ≠ b; omega))).kept (Below.heap_setCell _ _ _ _ (by show w.heap.size ≠ b; omega))
  have HR2 : Hid (∀ j, j < m.n → RT.In W2 (fun k => w.heap.size ≤ k ∧ ¬ ((K.setLog i ((K.lg i).join m p6 c6)).setSt i 1).C b k) (m.item j)) := fun j hj => by
    rw [hW2]
    exact (HR6.out j hj).kept HS7.but.size (fun k hk hl => HS7.but.block k hl hk.2)
  have s0 := HX2.cell 0
  have s1 := HX2.cell 1
  simp at s0 s1
  have HL2 : Hid (∀ V : World, (∀ k, S k → k < w.heap.size → V.heap[k]? = W2.heap[k]?) → W2.heap.size ≤ V.heap.size → LT.In elCell V (fun k => S k ∧ k < w.heap.size) l ∧ LT.In elRec V (fun k => S k ∧ k < w.heap.size) q) := fun V hV hs =>
    ⟨(HL.out.1.mono fun k hk hl => ⟨hk, hl⟩).kept (Nat.le_trans HS2.out.but.size hs) (fun k hk _ => (hV k hk.1 hk.2).trans (HS2.out.but.block k hk.2 (HS.out k hk.1))), (HL.out.2.1.mono fun k hk hl => ⟨hk, hl⟩).kept (Nat.le_trans HS2.out.but.size hs) (fun k hk _ => (hV k hk.1 hk.2).trans (HS2.out.but.block k hk.2 (HS.out k hk.1)))⟩
  clear hW2 HX2 HX6 HS7 HS6 HR6 y1 y2 g1 g2 cl
  have HC := hid (copy_any num l q W2.drew (fun k => S k ∧ k < w.heap.size) b ((K.setLog i ((K.lg i).join m p6 c6)).setSt i 1) HS2.out.drew.inv (HL2.out W2.drew (fun _ _ _ => rfl) (Nat.le_refl _)).1 (HL2.out W2.drew (fun _ _ _ => rfl) (Nat.le_refl _)).2 HL.out.2.2.1 HL.out.2.2.2)
  refine wp_region_calmE 30 (fun wx => Below W2.heap.size W2 wx) [(0, true), (1, true), (2, true), (3, false), (4, true)] (.one 5 false [(6, true)] .done) (by kernel_rfl) (by kernel_rfl) (Below.refl _ _).drew ?_
  refine wpPre_e rfl rfl (fun K1 hK1 => ?_)
  apply Exists.intro
  refine And.intro (fun wx hx => ?_) ?_
  · go_simp
    try rfl
  go_simp
  refine hK1 _ ?_
  clear hK1 K1
  refine wpPre_e rfl rfl (fun K1 hK1 => ?_)
  apply Exists.intro
  refine And.intro (fun wx hx => ?_) ?_
  · go_simp
    try rfl
  go_simp
  refine hK1 _ ?_
  clear hK1 K1
  refine wpPre_e rfl rfl (fun K1 hK1 => ?_)
  apply Exists.intro
  refine And.intro (fun wx hx => ?_) ?_
  · go_simp
    try rfl
  go_simp
  refine hK1 _ ?_
  clear hK1 K1
  refine wpPre_e rfl rfl (fun K1 hK1 => ?_)
  apply Exists.intro
  refine And.intro (fun wx hx => ?_) ?_
  · have e0 := below_fact hx rfl s0
    have e1 := below_fact hx rfl s1
    go_simp
    try rfl
  go_simp
  refine hK1 _ ?_
  clear hK1 K1
  refine wpPre_e rfl rfl (fun K1 hK1 => ?_)
  apply Exists.intro
  refine And.intro (fun wx hx => ?_) ?_
  · go_simp
    try rfl
  go_simp
  refine hK1 _ ?_
  clear hK1 K1
  refine wpPre_nil ?_
  refine wpTr_e rfl (fun K1 hK1 => ?_)
  refine step_call rfl 56 #[.tmp 45, .tmp 46, .tmp 47] _ rfl Try.f56 Try.func56 (by kernel_rfl) rfl #[.pointer (some ⟨b, 3, none⟩), .agg #[.int .i64 num, .slice l.p l.n l.c], .slice q.p q.n q.c] rfl _ HC.out (fun e w4 h4 => ?_)
  obtain ⟨K4, rfl, hQ4⟩ := h4
  refine ⟨_, rfl, ?_⟩
  have HQ4 := hid hQ4
  clear hQ4 HC
  go_simp
  refine hK1 _ _ (fun h => by cases h) ?_
  clear hK1 K1
  refine wpPre_e rfl rfl (fun K1 hK1 => ?_)
  apply Exists.intro
  refine And.intro (fun wx hx => ?_) ?_
  · go_simp
    try rfl
  go_simp
  refine hK1 _ ?_
  clear hK1 K1
  refine wpPre_nil ?_
  refine wpTr_done ?_
  go_wp2
  have hR : K.shutR i = !K.cp := by rw [Bk.shutR, if_neg (by rw [hm]; decide)]
  have hSt : K.shutS i = (K.setSt i 1).st := by rw [Bk.shutS, if_neg (by rw [hm]; decide)]
  refine bodyPost_ret (v := .bool (!K.cp)) (by simp [results, Try.results37, go_sem, Bk.setSt, Bk.setLog]) rfl ⟨K4, by rw [hR], ?_⟩
  have h9 := ShutB.ofCopy (a := a) HS2.out hR (fun j hj => by simp [Bk.setSt, Bk.setLog, hj]) (fun h => absurd hm h) (fun _ => ⟨m, p6, c6, by simp [Bk.setSt, Bk.setLog], HM.out.1, HR2.out⟩) HQ4.out
  exact ⟨h9.1, h9.2.trans hSt.symm⟩
end Go.Proofs.Ytdncnnjhfipokaa

namespace Go.Proofs.Ytdncnnjhfipokaa
open Go.RowKit
set_option maxRecDepth 8000
def nilL {α : Type} (f : Nat → α) : LT α := ⟨none, 0, 0, f⟩
/-- the book's own cells changed, its logs are empty now -/
theorem BkI.empty {w w2 : World} {b : Nat} {K K' : Bk} (h : BkI w b K) (hlg : ∀ i, i < 4 → (K'.lg i).p = none ∧ (K'.lg i).n = 0 ∧ (K'.lg i).c = 0) (hbox : Box w2 b K'.arr 78) (hbut : But (fun k => k = b) w w2)
    (hm : K'.mode = K.mode) (hp : K'.ports = K.ports) (hk : K'.back = K.back) (hn0 : 0 ≤ K'.now) (hn1 : K'.now ≤ 9999) (hs : ∀ i, i < 4 → K'.st i = 0 ∨ K'.st i = 1 ∨ K'.st i = 2) : SetLog w b K w2 K' := by
  have hlv : ∀ i, i < 4 → K'.lv i = .slice none 0 0 := fun i hi => by unfold Bk.lv; rw [(hlg i hi).1, (hlg i hi).2.1, (hlg i hi).2.2]
  have hob : ∀ i, i < 4 → ∀ k, (K'.lv i).ownBlock ≠ some k := fun i hi k => by rw [hlv i hi]; intro e; cases e
  refine ⟨⟨hbox, fun i hi => ?_, fun i hi => hob i hi b, fun i j hi hj hij k hk => absurd hk (hob i hi k), ?_, ?_, ?_, ?_, ?_, ?_, hn0, hn1, hs⟩, ?_, fun k hk => ?_⟩
  · rw [hlv i hi, (hlg i hi).2.1]
    have : rowsR (K'.lg i) = [] := by unfold rowsR; rw [(hlg i hi).2.1]; rfl
    rw [this]
    exact World.ownsRow_nil _ _ _ _
  · rw [hm]; exact h.m0
  · rw [hm]; exact h.m1
  · rw [hp]; exact h.p0
  · rw [hp]; exact h.p1
  · rw [hk]; exact h.b0
  · rw [hk, hp]; exact h.b1
  · exact hbut.mono fun k _ e => .inl e
  · rcases hk with rfl | ⟨i, hi, e⟩
    · exact .inl (.inl rfl)
    · exact absurd e (hob i hi k)
def Bk.begin (K : Bk) (id : Int) : Bk := { K with now := id, st := fun _ => 0, cp := false, num := 0, cl := nilL K.cl.item, pd := nilL K.pd.item, lg := fun i => nilL (K.lg i).item }
def Bk.base (K : Bk) (id : Int) : Bk := if K.now < id then K.begin id else K
def Bk.marks (K : Bk) (x id : Int) : Bool := (K.refE x id == 0) && (decide (K.now < id) || ((id == K.now) && (K.st x.toNat == 0)))
theorem begin_any (id : Int) (w : World) (b : Nat) (K : Bk) (hI : BkI w b K) (h0 : 1 ≤ id) (h1 : id ≤ 9999) : SetLog w b K ((((((((((((((w.setCell ⟨b, 3, none⟩ (.int .i64 id)).setCell ⟨b, 4, none⟩ (.int .i64 0)).setCell ⟨b, 5, none⟩ (.int .i64 0)).setCell ⟨b, 6, none⟩ (.int .i64 0)).setCell ⟨b, 7, none⟩ (.int .i64 0)).setCell ⟨b, 8, none⟩ (.bool false)).setCell ⟨b, 9, none⟩ (.int .i64 0)).setCell ⟨b, 10, none⟩ (.slice none 0 0)).setCell ⟨b, 11, none⟩ (.slice none 0 0)).setCell ⟨b, 12, none⟩ (.slice none 0 0)).setCell ⟨b, 13, none⟩ (.slice none 0 0)).setCell ⟨b, 14, none⟩ (.slice none 0 0)).setCell ⟨b, 15, none⟩ (.slice none 0 0))) (K.begin id) := by
  refine hI.empty (fun i _ => ⟨rfl, rfl, rfl⟩) ?_ ((((((((((((((But.one w b).setAt 3 (.int .i64 id)).setAt 4 (.int .i64 0)).setAt 5 (.int .i64 0)).setAt 6 (.int .i64 0)).setAt 7 (.int .i64 0)).setAt 8 (.bool false)).setAt 9 (.int .i64 0)).setAt 10 (.slice none 0 0)).setAt 11 (.slice none 0 0)).setAt 12 (.slice none 0 0)).setAt 13 (.slice none 0 0)).setAt 14 (.slice none 0 0)).setAt 15 (.slice none 0 0)) rfl rfl rfl (by show 0 ≤ id; omega) h1 (fun _ _ => .inl rfl)
  have h := (((((((((((((hI.box).set 3 (.int .i64 id)).set 4 (.int .i64 0)).set 5 (.int .i64 0)).set 6 (.int .i64 0)).set 7 (.int .i64 0)).set 8 (.bool false)).set 9 (.int .i64 0)).set 10 (.slice none 0 0)).set 11 (.slice none 0 0)).set 12 (.slice none 0 0)).set 13 (.slice none 0 0)).set 14 (.slice none 0 0)).set 15 (.slice none 0 0)
  have e : (((((((((((((K.arr).setIfInBounds 3 (.int .i64 id)).setIfInBounds 4 (.int .i64 0)).setIfInBounds 5 (.int .i64 0)).setIfInBounds 6 (.int .i64 0)).setIfInBounds 7 (.int .i64 0)).setIfInBounds 8 (.bool false)).setIfInBounds 9 (.int .i64 0)).setIfInBounds 10 (.slice none 0 0)).setIfInBounds 11 (.slice none 0 0)).setIfInBounds 12 (.slice none 0 0)).setIfInBounds 13 (.slice none 0 0)).setIfInBounds 14 (.slice none 0 0)).setIfInBounds 15 (.slice none 0 0) = (K.begin id).arr := by simp [Bk.arr, Bk.begin, nilL]
  rw [e] at h
  exact h
/-- what Mark answers, and what the book holds behind it -/
structure MarkQ (x id : Int) (a : LT RT) (num : Int) (l : LT VT) (q : LT RT) (w : World) (b : Nat) (K : Bk) (w' : World) (K' : Bk) (r : Bool) : Prop where
  s : SetLog w b K w' K'
  n : K.marks x id = false → K' = K ∧ r = false
  y : K.marks x id = true → ∃ w1, SetLog w b K w1 (K.base id) ∧ r = (K.base id).shutR x.toNat ∧ ShutQ x.toNat a num l q w1 b (K.base id) w' K'
theorem shut_any (i : Nat) (hi : i < 4) (a : LT RT) (num : Int) (l : LT VT) (q : LT RT) (w : World) (S : Nat → Prop) (b : Nat) (K : Bk) (hI : BkI w b K) (hS : ∀ k, S k → ¬ K.C b k) (hl : LT.In elCell w S l) (hq : LT.In elRec w S q) (sl : SzC l) (sq : SzR q) (ha : LT.In elRec w S a) (sa : SzR a) (hn : (K.lg i).n ≤ 1000000000) :
    Calls Try.prog 37 #[.pointer (some ⟨b, 0, none⟩), .int .i64 (i : Int), .slice a.p a.n a.c, .agg #[.int .i64 num, .slice l.p l.n l.c], .slice q.p q.n q.c] w fun e w' => ∃ K', e = .returned (.bool (K.shutR i)) ∧ ShutQ i a num l q w b K w' K' := by
  have h0 := hI.m0
  have h1 := hI.m1
  rcases (by omega : K.mode = 1 ∨ K.mode = 2 ∨ K.mode = 3) with h | h | h
  · exact shut1_any i hi a num l q w S b K hI hS hl hq sl sq h
  · exact shut2_any i hi a num l q w S b K hI hS hl hq sl sq h
  · exact shut3_any i hi a num l q w S b K hI hS hl hq sl sq ha sa hn h
set_option maxHeartbeats 8000000 in
theorem mark_any (x id : Int) (a : LT RT) (num : Int) (l : LT VT) (q : LT RT) (w : World) (S : Nat → Prop) (b : Nat) (K : Bk) (hI : BkI w b K) (hS : ∀ k, S k → ¬ K.C b k) (hl : LT.In elCell w S l) (hq : LT.In elRec w S q) (sl : SzC l) (sq : SzR q) (ha : LT.In elRec w S a) (sa : SzR a) (hn : ∀ i, i < 4 → (K.lg i).n ≤ 1000000000) :
    Calls Try.prog 15 #[.pointer (some ⟨b, 0, none⟩), .int .i64 x, .int .i64 id, .slice a.p a.n a.c, .agg #[.int .i64 num, .slice l.p l.n l.c], .slice q.p q.n q.c] w fun e w' => ∃ K' r, e = .returned (.tuple #[.bool r, .int .i64 (K.refE x id)]) ∧ MarkQ x id a num l q w b K w' K' r := by
  obtain ⟨W, hW⟩ : ∃ W, W = w.alloc (.cells #[.int .i64 num, .slice l.p l.n l.c] 40) := ⟨_, rfl⟩
  have hB : Below w.heap.size w W := by rw [hW]; exact (Below.refl _ _).alloc (Nat.le_refl _) _
  have hX : Box W w.heap.size #[.int .i64 num, .slice l.p l.n l.c] 40 := by rw [hW]; exact Box.new _ _ _
  have HB := hid hB
  have HI := hid hI
  have hIW := hI.below hB
  have HR := hid (refusal_any x id W b K hIW)
  have HIW := hid hIW
  have HS := hid hS
  have HL := hid (And.intro hl (And.intro hq (And.intro sl (And.intro sq (And.intro ha sa)))))
  have HN := hid hn
  have c3 := hIW.box.cell 3
  have hbl := hIW.box.lt
  have s0 := hX.cell 0
  have s1 := hX.cell 1
  simp [Bk.arr] at c3 s0 s1
  have hxb : w.heap.size ≠ b := by have := hI.box.lt; omega
  have hxb' : b ≠ w.heap.size := fun e => hxb e.symm
  clear hI hS hl hq sl sq ha sa hB hX hn
  by_cases hr : K.refE x id = 0
  rotate_left
  · have hr' : (K.refE x id != 0) = true := by simp [hr]
    have hmk : K.marks x id = false := by simp [Bk.marks, hr]
    clear hIW
    go_enter Try.func15, Try.ntmps15
    go_wp2_with fail
    rw [← hW]
    clear hW
    refine HR.out.mono ?_
    rintro e w1 ⟨rfl, rfl⟩
    go_wp2
    refine bodyPost_ret (v := .tuple #[.bool false, .int .i64 (K.refE x id)]) (by simp [results, Try.results15, go_sem]) rfl ⟨K, false, rfl, SetLog.same HI.out HB.out, fun _ => ⟨rfl, rfl⟩, fun h => by rw [hmk] at h; cases h⟩
  have hh : K.has x = true := by
    rcases h : K.has x with _ | _
    · rw [Bk.refE, if_pos h] at hr; cases hr
    · rfl
  have hid0 : 1 ≤ id ∧ id ≤ 9999 := by
    rw [Bk.refE, if_neg (by rw [hh]; decide)] at hr
    by_cases h : id < 1 ∨ 9999 < id
    · rw [if_pos h] at hr; cases hr
    · omega
  have hx : 0 ≤ x ∧ x < K.ports := by simpa [Bk.has] using hh
  have hp := hIW.p1
  obtain ⟨i, rfl⟩ : ∃ i : Nat, x = (i : Int) := ⟨x.toNat, by omega⟩
  have hi : i < 4 := by omega
  have hi4 : (i : Int) < 4 := by omega
  have hti : ((i : Int)).toNat = i := by omega
  have cs := hIW.cs hi
  by_cases hgt : K.now < id
  · have hmk : K.marks i id = true := by simp [Bk.marks, hr, hgt]
    have hbs : K.base id = K.begin id := by rw [Bk.base, if_pos hgt]
    have hI := hIW
    have c3 := hI.box.cell 3
    have f3 := hI.box.frozen 3
    have c4 := hI.box.cell 4
    have f4 := hI.box.frozen 4
    have c5 := hI.box.cell 5
    have f5 := hI.box.frozen 5
    have c6 := hI.box.cell 6
    have f6 := hI.box.frozen 6
    have c7 := hI.box.cell 7
    have f7 := hI.box.frozen 7
    have c8 := hI.box.cell 8
    have f8 := hI.box.frozen 8
    have c9 := hI.box.cell 9
    have f9 := hI.box.frozen 9
    have c10 := hI.box.cell 10
    have f10 := hI.box.frozen 10
    have c11 := hI.box.cell 11
    have f11 := hI.box.frozen 11
    have c12 := hI.box.cell 12
    have f12 := hI.box.frozen 12
    have c13 := hI.box.cell 13
    have f13 := hI.box.frozen 13
    have c14 := hI.box.cell 14
    have f14 := hI.box.frozen 14
    have c15 := hI.box.cell 15
    have f15 := hI.box.frozen 15
    simp [Bk.arr] at c3 c4 c5 c6 c7 c8 c9 c10 c11 c12 c13 c14 c15
    clear hI hIW
    go_enter Try.func15, Try.ntmps15
    go_wp2_with fail
    rw [← hW]
    clear hW
    refine HR.out.mono ?_
    rintro e w1 ⟨rfl, rfl⟩
    rw [hr]
    go_wp2_with fail
    obtain ⟨W2, hW2⟩ : ∃ W2, W2 = (((((((((((((w1.setCell ⟨b, 3, none⟩ (.int .i64 id)).setCell ⟨b, 4, none⟩ (.int .i64 0)).setCell ⟨b, 5, none⟩ (.int .i64 0)).setCell ⟨b, 6, none⟩ (.int .i64 0)).setCell ⟨b, 7, none⟩ (.int .i64 0)).setCell ⟨b, 8, none⟩ (.bool false)).setCell ⟨b, 9, none⟩ (.int .i64 0)).setCell ⟨b, 10, none⟩ (.slice none 0 0)).setCell ⟨b, 11, none⟩ (.slice none 0 0)).setCell ⟨b, 12, none⟩ (.slice none 0 0)).setCell ⟨b, 13, none⟩ (.slice none 0 0)).setCell ⟨b, 14, none⟩ (.slice none 0 0)).setCell ⟨b, 15, none⟩ (.slice none 0 0)) := ⟨_, rfl⟩
    rw [← hW2]
    have HS2 : Hid (SetLog w b K W2 (K.begin id)) := by rw [hW2]; exact (SetLog.same HI.out HB.out).trans (begin_any id w1 b K HIW.out hid0.1 hid0.2)
    clear hW2 c3 f3 c4 f4 c5 f5 c6 f6 c7 f7 c8 f8 c9 f9 c10 f10 c11 f11 c12 f12 c13 f13 c14 f14 c15 f15 cs s0 s1
    have HC := hid (shut_any i hi a num l q W2 (fun k => S k ∧ k < w.heap.size) b (K.begin id) HS2.out.inv (fun k hk e => HS.out k hk.1 (by rcases HS2.out.cs k e with h | h; exact h; omega)) ((HL.out.1.mono fun k hk hl => ⟨hk, hl⟩).kept HS2.out.but.size (fun k hk _ => HS2.out.but.block k hk.2 (HS.out k hk.1))) ((HL.out.2.1.mono fun k hk hl => ⟨hk, hl⟩).kept HS2.out.but.size (fun k hk _ => HS2.out.but.block k hk.2 (HS.out k hk.1))) HL.out.2.2.1 HL.out.2.2.2.1 ((HL.out.2.2.2.2.1.mono fun k hk hl => ⟨hk, hl⟩).kept HS2.out.but.size (fun k hk _ => HS2.out.but.block k hk.2 (HS.out k hk.1))) HL.out.2.2.2.2.2 (by show 0 ≤ _; omega))
    refine HC.out.mono ?_
    rintro e w4 ⟨K4, rfl, h4⟩
    have H4 := hid h4
    clear h4 HC
    go_wp2
    refine bodyPost_ret (v := .tuple #[.bool ((K.begin id).shutR i), .int .i64 0]) (by simp [results, Try.results15, go_sem]) rfl ⟨K4, _, by rw [hr], HS2.out.trans H4.out.b.s, fun h => (by rw [hmk] at h; cases h), fun _ => ⟨W2, by rw [hbs]; exact HS2.out, by rw [hbs, hti], by rw [hbs, hti]; exact H4.out⟩⟩
  · have hbs : K.base id = K := by rw [Bk.base, if_neg hgt]
    by_cases heq : id = K.now ∧ K.st i = 0
    · obtain ⟨rfl, hst⟩ := heq
      have hmk : K.marks i K.now = true := by simp [Bk.marks, hr, hti, hst]
      rw [hst] at cs
      have HC := hid (shut_any i hi a num l q W (fun k => S k ∧ k < w.heap.size) b K hIW (fun k hk => HS.out k hk.1) ((HL.out.1.mono fun k hk hl => ⟨hk, hl⟩).kept HB.out.size (fun k hk _ => HB.out.block k hk.2)) ((HL.out.2.1.mono fun k hk hl => ⟨hk, hl⟩).kept HB.out.size (fun k hk _ => HB.out.block k hk.2)) HL.out.2.2.1 HL.out.2.2.2.1 ((HL.out.2.2.2.2.1.mono fun k hk hl => ⟨hk, hl⟩).kept HB.out.size (fun k hk _ => HB.out.block k hk.2)) HL.out.2.2.2.2.2 (HN.out i hi))
      clear hIW
      go_enter Try.func15, Try.ntmps15
      go_wp2_with fail
      rw [← hW]
      clear hW
      refine HR.out.mono ?_
      rintro e w1 ⟨rfl, rfl⟩
      rw [hr]
      go_wp2_with fail
      refine HC.out.mono ?_
      rintro e w4 ⟨K4, rfl, h4⟩
      have H4 := hid h4
      clear h4 HC
      go_wp2
      refine bodyPost_ret (v := .tuple #[.bool (K.shutR i), .int .i64 0]) (by simp [results, Try.results15, go_sem]) rfl ⟨K4, _, by rw [hr], (SetLog.same HI.out HB.out).trans H4.out.b.s, fun h => (by rw [hmk] at h; cases h), fun _ => ⟨w1, by rw [hbs]; exact SetLog.same HI.out HB.out, by rw [hbs, hti], by rw [hbs, hti]; exact H4.out⟩⟩
    · have hmk : K.marks i id = false := by
        simp only [Bk.marks, hr, hti]
        simp only [beq_self_eq_true, Bool.true_and, Bool.or_eq_false_iff, decide_eq_false_iff_not, Bool.and_eq_false_iff, beq_eq_false_iff_ne]
        refine ⟨hgt, ?_⟩
        by_cases h : id = K.now
        · exact .inr (fun e => heq ⟨h, e⟩)
        · exact .inl h
      have hgt' : ¬ K.now < id := hgt
      clear hIW
      by_cases h : id = K.now
      · have h1 : (id == K.now) = true := by simp [h]
        have h2 : (K.st i == 0) = false := by simp; exact fun e => heq ⟨h, e⟩
        clear h heq
        go_enter Try.func15, Try.ntmps15
        go_wp2_with fail
        rw [← hW]
        clear hW
        refine HR.out.mono ?_
        rintro e w1 ⟨rfl, rfl⟩
        rw [hr]
        go_wp2
        refine bodyPost_ret (v := .tuple #[.bool false, .int .i64 0]) (by simp [results, Try.results15, go_sem]) rfl ⟨K, false, by rw [hr], SetLog.same HI.out HB.out, fun _ => ⟨rfl, rfl⟩, fun h => by rw [hmk] at h; cases h⟩
      · have h1 : (id == K.now) = false := by simp [h]
        clear h heq
        go_enter Try.func15, Try.ntmps15
        go_wp2_with fail
        rw [← hW]
        clear hW
        refine HR.out.mono ?_
        rintro e w1 ⟨rfl, rfl⟩
        rw [hr]
        go_wp2
        refine bodyPost_ret (v := .tuple #[.bool false, .int .i64 0]) (by simp [results, Try.results15, go_sem]) rfl ⟨K, false, by rw [hr], SetLog.same HI.out HB.out, fun _ => ⟨rfl, rfl⟩, fun h => by rw [hmk] at h; cases h⟩
end Go.Proofs.Ytdncnnjhfipokaa
