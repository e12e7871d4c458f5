import Derived.Test.YtikfpoabaaiegaaPack32
import Derived.Test.YtikfpoabaaiegaaWhSeg
import Derived.Test.YtikfpoabaaiegaaPack36
import Derived.Laws.ResultCell
import Derived.Deep.DeepCutAuto
import Derived.Test.YtikfpoabaaiegaaPack12
namespace Go.Proofs.Ytikfpoabaaiegaa
open Go.RowKit
set_option maxRecDepth 8000
set_option maxHeartbeats 8000000 in
theorem getSeg (w : World) (S : Nat → Prop) (p : Option Addr) (c : Nat) (B : List Int) (hB : Byts w S p B.length c (fun j => B.getD j 0)) (hS : ∀ b, S b → b < w.heap.size) : Calls Try.prog 30 #[.slice p B.length c] w fun x w' => ∃ t k, x = .returned (.tuple #[GT.val t, .int .i64 k]) ∧ GetP segS GT.val zGT GT.In GT.Is w B t k w' := by
  have ha : Below w.heap.size w (w.alloc (.cells #[.int .i64 0, .int .i64 0, .int .i64 0, .int .u32 0, .int .i64 0, .slice none 0 0, .int .i64 0, .slice none 0 0, .slice none 0 0, .slice none 0 0, .slice none 0 0] 38)) := (Below.refl _ _).alloc (Nat.le_refl _) _
  have hz0 : (w.alloc (.cells #[.int .i64 0, .int .i64 0, .int .i64 0, .int .u32 0, .int .i64 0, .slice none 0 0, .int .i64 0, .slice none 0 0, .slice none 0 0, .slice none 0 0, .slice none 0 0] 38)).heap.size = w.heap.size + 1 := by simp
  have HC := hid (wholeSeg (w.alloc (.cells #[.int .i64 0, .int .i64 0, .int .i64 0, .int .u32 0, .int .i64 0, .slice none 0 0, .int .i64 0, .slice none 0 0, .slice none 0 0, .slice none 0 0, .slice none 0 0] 38)) S p c B (hB.kept ha.size fun b _ hl => ha.block b hl) (fun b hb => by have := hS b hb; omega))
  have HA := hid ha
  have HV := hid (Box.new w #[.int .i64 0, .int .i64 0, .int .i64 0, .int .u32 0, .int .i64 0, .slice none 0 0, .int .i64 0, .slice none 0 0, .slice none 0 0, .slice none 0 0, .slice none 0 0] 38)
  clear hB hS ha
  obtain ⟨n, hn⟩ : ∃ n, n = B.length := ⟨_, rfl⟩
  rw [← hn] at HC ⊢
  clear hn
  go_enter Try.func30, Try.ntmps30
  go_wp2_with fail
  refine HC.out.mono ?_
  intro x w1 hP
  obtain ⟨t, k, rfl, hg⟩ := WholeP.get (zero := zGT) hP in_zGT
  have hb1 := hg.bel
  have hv := HV.out.below hb1
  have c0 := hv.cell 0
  have f0 := hv.frozen 0
  have c1 := hv.cell 1
  have f1 := hv.frozen 1
  have c2 := hv.cell 2
  have f2 := hv.frozen 2
  have c3 := hv.cell 3
  have f3 := hv.frozen 3
  have c4 := hv.cell 4
  have f4 := hv.frozen 4
  have c5 := hv.cell 5
  have f5 := hv.frozen 5
  have c6 := hv.cell 6
  have f6 := hv.frozen 6
  have c7 := hv.cell 7
  have f7 := hv.frozen 7
  have c8 := hv.cell 8
  have f8 := hv.frozen 8
  have c9 := hv.cell 9
  have f9 := hv.frozen 9
  have c10 := hv.cell 10
  have f10 := hv.frozen 10
  simp only [List.getElem?_toArray, List.getElem?_cons_zero, List.getElem?_cons_succ] at c0 c1 c2 c3 c4 c5 c6 c7 c8 c9 c10
  have zz := set11_box hv (.int .i64 (t.id : Int)) (.int .i64 (t.task : Int)) (.int .i64 (t.base : Int)) (.int .u32 (t.sum : Int)) (.int .i64 t.st.num) (.slice t.st.p t.st.n t.st.c) (.int .i64 (t.d.num : Int)) (.slice t.d.set.p t.d.set.n t.d.set.c) (.slice t.d.gone.p t.d.gone.n t.d.gone.c) (.slice t.logs.p t.logs.n t.logs.c) (.slice t.pend.p t.pend.n t.pend.c)
  have r0' := zz.cell 0
  have r1' := zz.cell 1
  have r2' := zz.cell 2
  have r3' := zz.cell 3
  have r4' := zz.cell 4
  have r5' := zz.cell 5
  have r6' := zz.cell 6
  have r7' := zz.cell 7
  have r8' := zz.cell 8
  have r9' := zz.cell 9
  have r10' := zz.cell 10
  simp only [List.getElem?_toArray, List.getElem?_cons_zero, List.getElem?_cons_succ] at r0' r1' r2' r3' r4' r5' r6' r7' r8' r9' r10'
  have HZ := hid (And.intro r0' (And.intro r1' (And.intro r2' (And.intro r3' (And.intro r4' (And.intro r5' (And.intro r6' (And.intro r7' (And.intro r8' (And.intro r9' (r10')))))))))))
  have HG := hid hg
  have HB1 := hid hb1
  clear hP hg hb1 hv HC zz r0' r1' r2' r3' r4' r5' r6' r7' r8' r9' r10'
  unfold GT.val
  go_wp2
  obtain ⟨r0', r1', r2', r3', r4', r5', r6', r7', r8', r9', r10'⟩ := HZ.out
  have hfin := But.sets11 w1 w.heap.size (.int .i64 (t.id : Int)) (.int .i64 (t.task : Int)) (.int .i64 (t.base : Int)) (.int .u32 (t.sum : Int)) (.int .i64 t.st.num) (.slice t.st.p t.st.n t.st.c) (.int .i64 (t.d.num : Int)) (.slice t.d.set.p t.d.set.n t.d.set.c) (.slice t.d.gone.p t.d.gone.n t.d.gone.c) (.slice t.logs.p t.logs.n t.logs.c) (.slice t.pend.p t.pend.n t.pend.c)
  have hbf : Below w.heap.size w _ := (HA.out.trans (HB1.out.mono (by omega))).trans (hfin.below (by have := HB1.out.size; omega) (fun k hk e => by omega))
  refine bodyPost_ret (v := .tuple #[GT.val t, .int .i64 k]) (by simp [results, Try.results30, go_sem, GT.val, r0', r1', r2', r3', r4', r5', r6', r7', r8', r9', r10']) rfl ⟨t, k, rfl, hbf, ?_, HG.out.good, HG.out.more, HG.out.bad⟩
  exact GT.In.mono (S := fun b => (w.alloc (.cells #[.int .i64 0, .int .i64 0, .int .i64 0, .int .u32 0, .int .i64 0, .slice none 0 0, .int .i64 0, .slice none 0 0, .slice none 0 0, .slice none 0 0, .slice none 0 0] 38)).heap.size ≤ b) (GT.In.but HG.out.inn hfin (fun b hb _ e => by omega)) (fun b hb _ => by omega)
end Go.Proofs.Ytikfpoabaaiegaa

namespace Go.Proofs.Ytikfpoabaaiegaa
open Go.RowKit
set_option maxRecDepth 8000
def thGT (k : Int) (t : GT) : Array Value := #[.int .i64 k, .string ⟨#[]⟩, .int .i64 0, .int .i64 0, .string ⟨#[]⟩, .slice none 0 0, .slice none 0 0, .int .i64 0, .slice none 0 0, .int .i64 (t.id : Int), .int .i64 (t.task : Int), .int .i64 (t.base : Int), .int .u32 (t.sum : Int), .int .i64 t.st.num, .slice t.st.p t.st.n t.st.c, .int .i64 (t.d.num : Int), .slice t.d.set.p t.d.set.n t.d.set.c, .slice t.d.gone.p t.d.gone.n t.d.gone.c, .slice t.logs.p t.logs.n t.logs.c, .slice t.pend.p t.pend.n t.pend.c, .int .i64 0, .int .u32 0, .slice none 0 0, .int .i64 0, .string ⟨#[]⟩, .int .i64 0, .int .i64 0, .string ⟨#[]⟩, .slice none 0 0, .slice none 0 0]
theorem thGT_size (k : Int) (t : GT) : (thGT k t).size = 30 := rfl
theorem thGT_one (k : Int) (t : GT) : (thGT k t).all (·.oneCell') = true := by simp [thGT, Value.oneCell']
set_option maxHeartbeats 8000000 in
theorem lawgetSeg (w : World) (b : Value) (Q : World → GT → Int → World → Prop) (hQ : ∀ W t k w', Q W t k w' → Below W.heap.size W w') (H : ∀ W, Below w.heap.size w W → Calls Try.prog 30 #[b] W fun x w' => ∃ t k, x = .returned (.tuple #[GT.val t, .int .i64 k]) ∧ Q W t k w') : Calls Try.prog 10 #[.int .i64 3, b] w fun x w' => ∃ t e W w1, x = .returned (.tuple #[.agg (thGT 3 t), .int .i64 e]) ∧ Below w.heap.size w W ∧ W.heap.size = w.heap.size + 2 ∧ Q W t e w1 ∧ But (fun y => y = w.heap.size ∨ y = w.heap.size + 1) w1 w' := by
  obtain ⟨hz0, hz1, hz2, hz3⟩ := start_thing w 3
  have hBx : Box ((w.alloc (.cells zC 45)).alloc (.cells zC 45)) (w.heap.size + 1) zC 45 := heap_alloc2_new w _ _
  have HBx := hid hBx
  have HC := hid (H _ hz2)
  have HR0 := hid hz0
  have HT0 := hid hz1
  have HB0 := hid hz2
  have HZ := hid hz3
  unfold GT.val at HC
  clear hBx hz0 hz1 hz2 hz3 H
  go_enter Try.func10, Try.ntmps10
  go_wp2_with (refine wpList_store_row rfl 45 (.tmp 6) (.tmp 9) rfl (w.heap.size + 1) (kC 3) rfl rfl 45 zC HBx.out (by rw [info45]; rfl) rfl (kC_one 3) ?_)
  refine HC.out.mono ?_
  generalize hW : ((w.alloc (.cells zC 45)).alloc (.cells zC 45)).setRow (w.heap.size + 1) (kC 3) = W at *
  rintro x w1 ⟨t, e, rfl, hq⟩
  have hb1 := hQ _ _ _ _ hq
  have ht1 := HT0.out.below hb1
  have hr1 := HR0.out.below hb1
  have c0 := ht1.cell 9
  have f0 := ht1.frozen 9
  have c1 := ht1.cell 10
  have f1 := ht1.frozen 10
  have c2 := ht1.cell 11
  have f2 := ht1.frozen 11
  have c3 := ht1.cell 12
  have f3 := ht1.frozen 12
  have c4 := ht1.cell 13
  have f4 := ht1.frozen 13
  have c5 := ht1.cell 14
  have f5 := ht1.frozen 14
  have c6 := ht1.cell 15
  have f6 := ht1.frozen 15
  have c7 := ht1.cell 16
  have f7 := ht1.frozen 16
  have c8 := ht1.cell 17
  have f8 := ht1.frozen 17
  have c9 := ht1.cell 18
  have f9 := ht1.frozen 18
  have c10 := ht1.cell 19
  have f10 := ht1.frozen 19
  simp [kC] at c0 c1 c2 c3 c4 c5 c6 c7 c8 c9 c10
  have ht2 : Box (((((((((((w1.setCell ⟨w.heap.size + 1, 9, none⟩ (.int .i64 (t.id : Int))).setCell ⟨w.heap.size + 1, 10, none⟩ (.int .i64 (t.task : Int))).setCell ⟨w.heap.size + 1, 11, none⟩ (.int .i64 (t.base : Int))).setCell ⟨w.heap.size + 1, 12, none⟩ (.int .u32 (t.sum : Int))).setCell ⟨w.heap.size + 1, 13, none⟩ (.int .i64 t.st.num)).setCell ⟨w.heap.size + 1, 14, none⟩ (.slice t.st.p t.st.n t.st.c)).setCell ⟨w.heap.size + 1, 15, none⟩ (.int .i64 (t.d.num : Int))).setCell ⟨w.heap.size + 1, 16, none⟩ (.slice t.d.set.p t.d.set.n t.d.set.c)).setCell ⟨w.heap.size + 1, 17, none⟩ (.slice t.d.gone.p t.d.gone.n t.d.gone.c)).setCell ⟨w.heap.size + 1, 18, none⟩ (.slice t.logs.p t.logs.n t.logs.c)).setCell ⟨w.heap.size + 1, 19, none⟩ (.slice t.pend.p t.pend.n t.pend.c)) (w.heap.size + 1) (thGT 3 t) 45 := by
    have h := (((((((((((ht1.set 9 (.int .i64 (t.id : Int))).set 10 (.int .i64 (t.task : Int))).set 11 (.int .i64 (t.base : Int))).set 12 (.int .u32 (t.sum : Int))).set 13 (.int .i64 t.st.num)).set 14 (.slice t.st.p t.st.n t.st.c)).set 15 (.int .i64 (t.d.num : Int))).set 16 (.slice t.d.set.p t.d.set.n t.d.set.c)).set 17 (.slice t.d.gone.p t.d.gone.n t.d.gone.c)).set 18 (.slice t.logs.p t.logs.n t.logs.c)).set 19 (.slice t.pend.p t.pend.n t.pend.c))
    simpa [kC, thGT] using h
  have hk2 : But (fun y => y = w.heap.size + 1) w1 (((((((((((w1.setCell ⟨w.heap.size + 1, 9, none⟩ (.int .i64 (t.id : Int))).setCell ⟨w.heap.size + 1, 10, none⟩ (.int .i64 (t.task : Int))).setCell ⟨w.heap.size + 1, 11, none⟩ (.int .i64 (t.base : Int))).setCell ⟨w.heap.size + 1, 12, none⟩ (.int .u32 (t.sum : Int))).setCell ⟨w.heap.size + 1, 13, none⟩ (.int .i64 t.st.num)).setCell ⟨w.heap.size + 1, 14, none⟩ (.slice t.st.p t.st.n t.st.c)).setCell ⟨w.heap.size + 1, 15, none⟩ (.int .i64 (t.d.num : Int))).setCell ⟨w.heap.size + 1, 16, none⟩ (.slice t.d.set.p t.d.set.n t.d.set.c)).setCell ⟨w.heap.size + 1, 17, none⟩ (.slice t.d.gone.p t.d.gone.n t.d.gone.c)).setCell ⟨w.heap.size + 1, 18, none⟩ (.slice t.logs.p t.logs.n t.logs.c)).setCell ⟨w.heap.size + 1, 19, none⟩ (.slice t.pend.p t.pend.n t.pend.c)) := (((((((((((But.one w1 (w.heap.size + 1)).setAt 9 (.int .i64 (t.id : Int))).setAt 10 (.int .i64 (t.task : Int))).setAt 11 (.int .i64 (t.base : Int))).setAt 12 (.int .u32 (t.sum : Int))).setAt 13 (.int .i64 t.st.num)).setAt 14 (.slice t.st.p t.st.n t.st.c)).setAt 15 (.int .i64 (t.d.num : Int))).setAt 16 (.slice t.d.set.p t.d.set.n t.d.set.c)).setAt 17 (.slice t.d.gone.p t.d.gone.n t.d.gone.c)).setAt 18 (.slice t.logs.p t.logs.n t.logs.c)).setAt 19 (.slice t.pend.p t.pend.n t.pend.c)
  have hr2 := hr1.but hk2 (by omega)
  have HR2 := hid hr2
  have HT2 := hid ht2
  have HK2 := hid hk2
  have HQ := hid hq
  clear ht1 hr1 ht2 hr2 hk2 HC hb1 hq
  go_wp2_with fail
  refine get_tail _ _ _ _ _ _ _ _ _ _ _ _ _ _ _ _ _ _ _ _ _ _ _ _ _ _ _ _ _ _ _ _ _ _ _ _ _ _ _ _ _ _ _ _ _ _ (w.heap.size + 1) w.heap.size (by omega) (thGT 3 t) (thGT_size _ _) (thGT_one _ _) e _ _ _ _ HT2.out HR2.out _ ?_
  intro w3 hb3 hk3
  have HB3 := hid hb3
  have HK3 := hid hk3
  clear hb3 hk3
  go_wp2
  refine bodyPost_ret (v := .tuple #[.agg (thGT 3 t), .int .i64 e]) ?_ rfl ⟨t, e, W, w1, rfl, HB0.out, HZ.out, HQ.out, (HK2.out.mono (fun b _ h => Or.inr h)).trans (HK3.out.mono (fun b _ h => Or.inl h))⟩
  rw [results_cell_tmp rfl]
  have hld := run_loadVar_row (P := Try.prog) w3 w.heap.size 45 45 (thGT 3 t) (0, 0) _ HB3.out Try.underlying45 rfl (by rw [thGT_size]; exact info45)
  simp [asAddr, Result.andThen, hld]
end Go.Proofs.Ytikfpoabaaiegaa

namespace Go.Proofs.Ytikfpoabaaiegaa
open Go.RowKit
set_option maxRecDepth 8000
set_option maxHeartbeats 8000000 in
theorem lawrgetSeg (w : World) (b : Value) (Q : World → GT → Int → World → Prop) (hQ : ∀ W t k w', Q W t k w' → Below W.heap.size W w') (H : ∀ W, Below w.heap.size w W → Calls Try.prog 25 #[b] W fun x w' => ∃ t k, x = .returned (.tuple #[GT.val t, .int .i64 k]) ∧ Q W t k w') : Calls Try.prog 9 #[.int .i64 3, b] w fun x w' => ∃ t e W w1, x = .returned (.tuple #[.agg (thGT 3 t), .int .i64 e]) ∧ Below w.heap.size w W ∧ W.heap.size = w.heap.size + 2 ∧ Q W t e w1 ∧ But (fun y => y = w.heap.size ∨ y = w.heap.size + 1) w1 w' := by
  obtain ⟨hz0, hz1, hz2, hz3⟩ := start_thing w 3
  have hBx : Box ((w.alloc (.cells zC 45)).alloc (.cells zC 45)) (w.heap.size + 1) zC 45 := heap_alloc2_new w _ _
  have HBx := hid hBx
  have HC := hid (H _ hz2)
  have HR0 := hid hz0
  have HT0 := hid hz1
  have HB0 := hid hz2
  have HZ := hid hz3
  unfold GT.val at HC
  clear hBx hz0 hz1 hz2 hz3 H
  go_enter Try.func9, Try.ntmps9
  go_wp2_with (refine wpList_store_row rfl 45 (.tmp 6) (.tmp 9) rfl (w.heap.size + 1) (kC 3) rfl rfl 45 zC HBx.out (by rw [info45]; rfl) rfl (kC_one 3) ?_)
  refine HC.out.mono ?_
  generalize hW : ((w.alloc (.cells zC 45)).alloc (.cells zC 45)).setRow (w.heap.size + 1) (kC 3) = W at *
  rintro x w1 ⟨t, e, rfl, hq⟩
  have hb1 := hQ _ _ _ _ hq
  have ht1 := HT0.out.below hb1
  have hr1 := HR0.out.below hb1
  have c0 := ht1.cell 9
  have f0 := ht1.frozen 9
  have c1 := ht1.cell 10
  have f1 := ht1.frozen 10
  have c2 := ht1.cell 11
  have f2 := ht1.frozen 11
  have c3 := ht1.cell 12
  have f3 := ht1.frozen 12
  have c4 := ht1.cell 13
  have f4 := ht1.frozen 13
  have c5 := ht1.cell 14
  have f5 := ht1.frozen 14
  have c6 := ht1.cell 15
  have f6 := ht1.frozen 15
  have c7 := ht1.cell 16
  have f7 := ht1.frozen 16
  have c8 := ht1.cell 17
  have f8 := ht1.frozen 17
  have c9 := ht1.cell 18
  have f9 := ht1.frozen 18
  have c10 := ht1.cell 19
  have f10 := ht1.frozen 19
  simp [kC] at c0 c1 c2 c3 c4 c5 c6 c7 c8 c9 c10
  have ht2 : Box (((((((((((w1.setCell ⟨w.heap.size + 1, 9, none⟩ (.int .i64 (t.id : Int))).setCell ⟨w.heap.size + 1, 10, none⟩ (.int .i64 (t.task : Int))).setCell ⟨w.heap.size + 1, 11, none⟩ (.int .i64 (t.base : Int))).setCell ⟨w.heap.size + 1, 12, none⟩ (.int .u32 (t.sum : Int))).setCell ⟨w.heap.size + 1, 13, none⟩ (.int .i64 t.st.num)).setCell ⟨w.heap.size + 1, 14, none⟩ (.slice t.st.p t.st.n t.st.c)).setCell ⟨w.heap.size + 1, 15, none⟩ (.int .i64 (t.d.num : Int))).setCell ⟨w.heap.size + 1, 16, none⟩ (.slice t.d.set.p t.d.set.n t.d.set.c)).setCell ⟨w.heap.size + 1, 17, none⟩ (.slice t.d.gone.p t.d.gone.n t.d.gone.c)).setCell ⟨w.heap.size + 1, 18, none⟩ (.slice t.logs.p t.logs.n t.logs.c)).setCell ⟨w.heap.size + 1, 19, none⟩ (.slice t.pend.p t.pend.n t.pend.c)) (w.heap.size + 1) (thGT 3 t) 45 := by
    have h := (((((((((((ht1.set 9 (.int .i64 (t.id : Int))).set 10 (.int .i64 (t.task : Int))).set 11 (.int .i64 (t.base : Int))).set 12 (.int .u32 (t.sum : Int))).set 13 (.int .i64 t.st.num)).set 14 (.slice t.st.p t.st.n t.st.c)).set 15 (.int .i64 (t.d.num : Int))).set 16 (.slice t.d.set.p t.d.set.n t.d.set.c)).set 17 (.slice t.d.gone.p t.d.gone.n t.d.gone.c)).set 18 (.slice t.logs.p t.logs.n t.logs.c)).set 19 (.slice t.pend.p t.pend.n t.pend.c))
    simpa [kC, thGT] using h
  have hk2 : But (fun y => y = w.heap.size + 1) w1 (((((((((((w1.setCell ⟨w.heap.size + 1, 9, none⟩ (.int .i64 (t.id : Int))).setCell ⟨w.heap.size + 1, 10, none⟩ (.int .i64 (t.task : Int))).setCell ⟨w.heap.size + 1, 11, none⟩ (.int .i64 (t.base : Int))).setCell ⟨w.heap.size + 1, 12, none⟩ (.int .u32 (t.sum : Int))).setCell ⟨w.heap.size + 1, 13, none⟩ (.int .i64 t.st.num)).setCell ⟨w.heap.size + 1, 14, none⟩ (.slice t.st.p t.st.n t.st.c)).setCell ⟨w.heap.size + 1, 15, none⟩ (.int .i64 (t.d.num : Int))).setCell ⟨w.heap.size + 1, 16, none⟩ (.slice t.d.set.p t.d.set.n t.d.set.c)).setCell ⟨w.heap.size + 1, 17, none⟩ (.slice t.d.gone.p t.d.gone.n t.d.gone.c)).setCell ⟨w.heap.size + 1, 18, none⟩ (.slice t.logs.p t.logs.n t.logs.c)).setCell ⟨w.heap.size + 1, 19, none⟩ (.slice t.pend.p t.pend.n t.pend.c)) := (((((((((((But.one w1 (w.heap.size + 1)).setAt 9 (.int .i64 (t.id : Int))).setAt 10 (.int .i64 (t.task : Int))).setAt 11 (.int .i64 (t.base : Int))).setAt 12 (.int .u32 (t.sum : Int))).setAt 13 (.int .i64 t.st.num)).setAt 14 (.slice t.st.p t.st.n t.st.c)).setAt 15 (.int .i64 (t.d.num : Int))).setAt 16 (.slice t.d.set.p t.d.set.n t.d.set.c)).setAt 17 (.slice t.d.gone.p t.d.gone.n t.d.gone.c)).setAt 18 (.slice t.logs.p t.logs.n t.logs.c)).setAt 19 (.slice t.pend.p t.pend.n t.pend.c)
  have hr2 := hr1.but hk2 (by omega)
  have HR2 := hid hr2
  have HT2 := hid ht2
  have HK2 := hid hk2
  have HQ := hid hq
  clear ht1 hr1 ht2 hr2 hk2 HC hb1 hq
  go_upto_region 13 with fail
  go_wp2_with (first | (refine wpList_load_row rfl 45 (.tmp 6) rfl (w.heap.size + 1) rfl 45 (thGT 3 t) (0, 0) _ HT2.out Try.underlying45 rfl (by rw [info45, thGT_size]) ?_) | (refine wpList_store_any rfl 45 (.tmp 4) (.tmp 49) rfl w.heap.size (thGT 3 t) rfl rfl 45 zC HR2.out (by rw [info45, thGT_size]) (by rw [thGT_size]; rfl) (thGT_one _ _) ?_))
  intro w3 hb3 hk3
  have HB3 := hid hb3
  have HK3 := hid hk3
  clear hb3 hk3
  go_wp2
  refine bodyPost_ret (v := .tuple #[.agg (thGT 3 t), .int .i64 e]) ?_ rfl ⟨t, e, W, w1, rfl, HB0.out, HZ.out, HQ.out, (HK2.out.mono (fun b _ h => Or.inr h)).trans (HK3.out.mono (fun b _ h => Or.inl h))⟩
  rw [results_cell_tmp rfl]
  have hld := run_loadVar_row (P := Try.prog) w3 w.heap.size 45 45 (thGT 3 t) (0, 0) _ HB3.out Try.underlying45 rfl (by rw [thGT_size]; exact info45)
  simp [asAddr, Result.andThen, hld]
end Go.Proofs.Ytikfpoabaaiegaa

namespace Go.Proofs.Ytikfpoabaaiegaa
open Go.RowKit
set_option maxRecDepth 8000
set_option maxHeartbeats 8000000 in
theorem wholeMan (w : World) (S : Nat → Prop) (p : Option Addr) (c : Nat) (B : List Int) (hB : Byts w S p B.length c (fun j => B.getD j 0)) (hS : ∀ b, S b → b < w.heap.size) : Calls Try.prog 78 #[.slice p B.length c, .func (.func 79) #[] #[]] w fun x w' => WholeP manS MT.val (.agg #[.int .i64 0, .int .u32 0, .slice none 0 0]) MT.In MT.Is w B x w' := by
  have hp : p = none → B.length = 0 := fun h => (hB.nil h).1
  obtain ⟨hrd, hv0, hb0, hz0⟩ := rdr_start (A := #[.int .i64 0, .int .u32 0, .slice none 0 0]) (t := 41) hB hS hp
  obtain ⟨W0, hW0⟩ : ∃ W0, W0 = (w.alloc (.cells #[.int .i64 0, .int .u32 0, .slice none 0 0] 41)).alloc (.cells #[.slice p B.length B.length, .int .i64 0] 187) := ⟨_, rfl⟩
  rw [← hW0] at hrd hv0 hb0 hz0
  have HC := hid (wrMan_any W0 S (w.heap.size + 1) B 0 (fun b hb => by have := hS b hb; omega) hrd)
  have HV0 := hid hv0
  have HB0 := hid hb0
  have HZ0 := hid hz0
  have hnc := hB.nc
  have hcc := hB.cc
  have hnil := hB.nil
  clear hB hrd hv0 hb0 hz0
  cases p with
  | none =>
    obtain ⟨h0, rfl⟩ := hnil rfl
    have hB0 : B = [] := List.eq_nil_of_length_eq_zero h0
    subst hB0
    clear hnc hcc hnil h0 hp
    simp only [List.length_nil] at hW0 ⊢
    rw [hW0] at HC
    go_enter Try.func78, Try.ntmps78
    go_wp2_with fail
    refine HC.out.mono ?_
    rw [← hW0]
    rintro x V ⟨t, R, e1, rfl, hin, ⟨hr, hd, hk⟩⟩
    clear HC
    have hvV := HV0.out.but hk (by omega)
    obtain ⟨⟨p2, hx2, hy2⟩, ho2⟩ := id hd
    have x0 := hx2.cell 0
    have x1 := hx2.cell 1
    simp at x0 x1
    have hsV := hk.size
    have hz0 := HZ0.out
    have hbt : Below V.heap.size V (V.alloc (.cells #[.int .i64 (t.id : Int), .int .u32 (t.sum : Int), .slice t.rows.p t.rows.n t.rows.c] 41)) := (Below.refl _ _).alloc (Nat.le_refl _) _
    have hbl : Below w.heap.size w (V.alloc (.cells #[.int .i64 (t.id : Int), .int .u32 (t.sum : Int), .slice t.rows.p t.rows.n t.rows.c] 41)) := (HB0.out.trans (hk.below (by omega) (fun k hk e => by omega))).trans (hbt.mono (by omega))
    have hxW := hx2.below hbt
    have x0 := hxW.cell 0
    have x1 := hxW.cell 1
    simp only [List.getElem?_toArray, List.getElem?_cons_zero, List.getElem?_cons_succ] at x0 x1
    have HxW := hid hxW
    clear hxW
    have hvW := hvV.below hbt
    have HVW := hid hvW
    have HvV := hid hvV
    have HRd := hid (hd.below hbt)
    have HRr := hid hr
    have HIn : Hid (MT.In (V.alloc (.cells #[.int .i64 (t.id : Int), .int .u32 (t.sum : Int), .slice t.rows.p t.rows.n t.rows.c] 41)) (fun b => w.heap.size + 2 ≤ b) t) := ((MT.In.mono (S' := fun b => w.heap.size + 2 ≤ b) hin (fun b hb _ => by omega)).below hbt)
    have HBl := hid hbl
    have hzt : (V.alloc (.cells #[.int .i64 (t.id : Int), .int .u32 (t.sum : Int), .slice t.rows.p t.rows.n t.rows.c] 41)).heap.size = V.heap.size + 1 := by simp
    obtain ⟨m, hm⟩ : ∃ m, m = R.length := ⟨_, rfl⟩
    rw [← hm] at x0
    have HMm := hid hm
    clear hm
    clear hd hx2 hy2 hbl hbt hvV hin hr hk
    unfold MT.val
    by_cases h1 : m = 0
    · have hR : R = [] := List.eq_nil_of_length_eq_zero (by rw [← HMm.out]; exact h1)
      subst hR
      subst h1
      by_cases he : e1 = 0
      · subst he
        have v0 := HVW.out.cell 0
        have vf0 := HVW.out.frozen 0
        simp at v0
        have v1 := HVW.out.cell 1
        have vf1 := HVW.out.frozen 1
        simp at v1
        have v2 := HVW.out.cell 2
        have vf2 := HVW.out.frozen 2
        simp at v2
        have zz := set3_box HVW.out (.int .i64 (t.id : Int)) (.int .u32 (t.sum : Int)) (.slice t.rows.p t.rows.n t.rows.c)
        have r0' := zz.cell 0
        have r1' := zz.cell 1
        have r2' := zz.cell 2
        simp only [List.getElem?_toArray, List.getElem?_cons_zero, List.getElem?_cons_succ] at r0' r1' r2'
        have HZ := hid (And.intro r0' (And.intro r1' (r2')))
        clear zz r0' r1' r2'
        clear hvW
        go_wp2
        obtain ⟨r0', r1', r2'⟩ := HZ.out
        have hfin := But.sets3 (V.alloc (.cells #[.int .i64 (t.id : Int), .int .u32 (t.sum : Int), .slice t.rows.p t.rows.n t.rows.c] 41)) w.heap.size (.int .i64 (t.id : Int)) (.int .u32 (t.sum : Int)) (.slice t.rows.p t.rows.n t.rows.c)
        have hbf : Below w.heap.size w _ := HBl.out.trans (hfin.below (by omega) (fun k hk e => by omega))
        refine bodyPost_ret (v := .tuple #[MT.val t, .int .i64 0]) (by simp [results, Try.results78, go_sem, MT.val, r0', r1', r2']) rfl ⟨hbf, fun y hy => ⟨t, rfl, MT.In.mono (S := fun b => w.heap.size + 2 ≤ b) (HIn.out.but hfin (fun b hb _ e => by omega)) (fun b hb _ => by omega), (HRr.out.good rfl y [] hy).2.2⟩, fun y z R hy => (by have := (HRr.out.good rfl y _ hy).1; cases this), fun k hk => absurd rfl (HRr.out.bad rfl k hk).2⟩
      · have he' : (e1 == 0) = false := by simpa using he
        have hxE := HxW.out
        have hbz := (Below.refl (V.alloc (.cells #[.int .i64 (t.id : Int), .int .u32 (t.sum : Int), .slice t.rows.p t.rows.n t.rows.c] 41)).heap.size (V.alloc (.cells #[.int .i64 (t.id : Int), .int .u32 (t.sum : Int), .slice t.rows.p t.rows.n t.rows.c] 41))).alloc (Nat.le_refl _) (.cells #[.int .i64 0, .int .u32 0, .slice none 0 0] 41)
        have HVz := hid (hvW.below hbz)
        have v0 := HVz.out.cell 0
        have vf0 := HVz.out.frozen 0
        simp at v0
        have v1 := HVz.out.cell 1
        have vf1 := HVz.out.frozen 1
        simp at v1
        have v2 := HVz.out.cell 2
        have vf2 := HVz.out.frozen 2
        simp at v2
        have z1 := (hxE.below hbz).cell 1
        simp only [List.getElem?_toArray, List.getElem?_cons_zero, List.getElem?_cons_succ] at z1
        have zz := set3_box HVz.out (.int .i64 0) (.int .u32 0) (.slice none 0 0)
        have r0' := zz.cell 0
        have r1' := zz.cell 1
        have r2' := zz.cell 2
        simp only [List.getElem?_toArray, List.getElem?_cons_zero, List.getElem?_cons_succ] at r0' r1' r2'
        have HZ := hid (And.intro r0' (And.intro r1' (r2')))
        clear zz r0' r1' r2'
        have HBz := hid hbz
        clear hbz hvW hxE
        go_wp2_with fail
        go_region
        go_wp2
        obtain ⟨r0', r1', r2'⟩ := HZ.out
        have hfin := (But.sets3 ((V.alloc (.cells #[.int .i64 (t.id : Int), .int .u32 (t.sum : Int), .slice t.rows.p t.rows.n t.rows.c] 41)).alloc (.cells #[.int .i64 0, .int .u32 0, .slice none 0 0] 41)) w.heap.size (.int .i64 0) (.int .u32 0) (.slice none 0 0)).drew
        have hbf : Below w.heap.size w _ := (HBl.out.trans (HBz.out.mono (by omega))).trans (hfin.below (by have := HBz.out.size; omega) (fun k hk e => by omega))
        refine bodyPost_ret (v := .tuple #[.agg #[.int .i64 0, .int .u32 0, .slice none 0 0], .int .i64 e1]) (by simp [results, Try.results78, go_sem, r0', r1', r2']) rfl ⟨hbf, fun y hy => absurd (HRr.out.good rfl y _ hy).2.1 he, fun y z R hy => absurd (HRr.out.good rfl y _ hy).2.1 he, fun k hk => ⟨by rw [(HRr.out.bad rfl k hk).1], fun h0 => he (by rw [(HRr.out.bad rfl k hk).1, h0]; rfl)⟩⟩
    · have h1' : (0 : Int) < (m : Int) := by omega
      have HF := hid (wrFail_any (V.alloc (.cells #[.int .i64 (t.id : Int), .int .u32 (t.sum : Int), .slice t.rows.p t.rows.n t.rows.c] 41)) S (w.heap.size + 1) R e1 44 HRd.out)
      go_wp2_with fail
      refine HF.out.mono ?_
      rintro x V2 ⟨rfl, hd2, hk2⟩
      clear HF hvW
      have hvW := HVW.out.but hk2 (by omega)
      obtain ⟨⟨p3, hx3, hy3⟩, ho3⟩ := id hd2
      have y1 := hx3.cell 1
      simp only [List.getElem?_toArray, List.getElem?_cons_zero, List.getElem?_cons_succ] at y1
      have hs2 := hk2.size
      have hbl2 : Below w.heap.size w V2 := HBl.out.trans (hk2.below (by omega) (fun k hk e => by omega))
      clear HBl
      have HBl := hid hbl2
      have hne : (if e1 = 0 then (44 : Int) else e1) ≠ 0 := by split <;> omega
      have hE : ∃ E, E = (if e1 = 0 then (44 : Int) else e1) := ⟨_, rfl⟩
      obtain ⟨E, hE⟩ := hE
      rw [← hE] at y1 hne hx3
      have hne' : (E == 0) = false := by simpa using hne
      have HE := hid hE
      clear hE
      have hxE := hx3
      clear hd2 hk2 hx3 hy3 hbl2 x0 x1
      have hbz := (Below.refl V2.heap.size V2).alloc (Nat.le_refl _) (.cells #[.int .i64 0, .int .u32 0, .slice none 0 0] 41)
      have HVz := hid (hvW.below hbz)
      have v0 := HVz.out.cell 0
      have vf0 := HVz.out.frozen 0
      simp at v0
      have v1 := HVz.out.cell 1
      have vf1 := HVz.out.frozen 1
      simp at v1
      have v2 := HVz.out.cell 2
      have vf2 := HVz.out.frozen 2
      simp at v2
      have z1 := (hxE.below hbz).cell 1
      simp only [List.getElem?_toArray, List.getElem?_cons_zero, List.getElem?_cons_succ] at z1
      have zz := set3_box HVz.out (.int .i64 0) (.int .u32 0) (.slice none 0 0)
      have r0' := zz.cell 0
      have r1' := zz.cell 1
      have r2' := zz.cell 2
      simp only [List.getElem?_toArray, List.getElem?_cons_zero, List.getElem?_cons_succ] at r0' r1' r2'
      have HZ := hid (And.intro r0' (And.intro r1' (r2')))
      clear zz r0' r1' r2'
      have HBz := hid hbz
      clear hbz hvW hxE
      go_wp2_with fail
      go_region
      go_wp2
      obtain ⟨r0', r1', r2'⟩ := HZ.out
      have hfin := (But.sets3 (V2.alloc (.cells #[.int .i64 0, .int .u32 0, .slice none 0 0] 41)) w.heap.size (.int .i64 0) (.int .u32 0) (.slice none 0 0)).drew
      have hbf : Below w.heap.size w _ := (HBl.out.trans (HBz.out.mono (by omega))).trans (hfin.below (by have := HBz.out.size; omega) (fun k hk e => by omega))
      refine bodyPost_ret (v := .tuple #[.agg #[.int .i64 0, .int .u32 0, .slice none 0 0], .int .i64 E]) (by simp [results, Try.results78, go_sem, r0', r1', r2']) rfl ⟨hbf, fun y hy => (by have h2 := (HRr.out.good rfl y _ hy).1; rw [h2] at HMm; exact absurd HMm.out h1), fun y z R2 hy => (by rw [HE.out, if_pos (HRr.out.good rfl y _ hy).2.1]), fun k hk => ⟨by rw [HE.out, if_neg (HRr.out.bad rfl k hk).2, (HRr.out.bad rfl k hk).1], fun h0 => (HRr.out.bad rfl k hk).2 (by rw [(HRr.out.bad rfl k hk).1, h0]; rfl)⟩⟩
  | some ad =>
    clear hnil hp
    obtain ⟨n, hn⟩ : ∃ n, n = B.length := ⟨_, rfl⟩
    rw [← hn] at hnc hW0 ⊢
    have HN := hid hn
    clear hn
    rw [hW0] at HC
    go_enter Try.func78, Try.ntmps78
    go_wp2_with fail
    refine HC.out.mono ?_
    rw [← hW0]
    rintro x V ⟨t, R, e1, rfl, hin, ⟨hr, hd, hk⟩⟩
    clear HC
    have hvV := HV0.out.but hk (by omega)
    obtain ⟨⟨p2, hx2, hy2⟩, ho2⟩ := id hd
    have x0 := hx2.cell 0
    have x1 := hx2.cell 1
    simp at x0 x1
    have hsV := hk.size
    have hz0 := HZ0.out
    have hbt : Below V.heap.size V (V.alloc (.cells #[.int .i64 (t.id : Int), .int .u32 (t.sum : Int), .slice t.rows.p t.rows.n t.rows.c] 41)) := (Below.refl _ _).alloc (Nat.le_refl _) _
    have hbl : Below w.heap.size w (V.alloc (.cells #[.int .i64 (t.id : Int), .int .u32 (t.sum : Int), .slice t.rows.p t.rows.n t.rows.c] 41)) := (HB0.out.trans (hk.below (by omega) (fun k hk e => by omega))).trans (hbt.mono (by omega))
    have hxW := hx2.below hbt
    have x0 := hxW.cell 0
    have x1 := hxW.cell 1
    simp only [List.getElem?_toArray, List.getElem?_cons_zero, List.getElem?_cons_succ] at x0 x1
    have HxW := hid hxW
    clear hxW
    have hvW := hvV.below hbt
    have HVW := hid hvW
    have HvV := hid hvV
    have HRd := hid (hd.below hbt)
    have HRr := hid hr
    have HIn : Hid (MT.In (V.alloc (.cells #[.int .i64 (t.id : Int), .int .u32 (t.sum : Int), .slice t.rows.p t.rows.n t.rows.c] 41)) (fun b => w.heap.size + 2 ≤ b) t) := ((MT.In.mono (S' := fun b => w.heap.size + 2 ≤ b) hin (fun b hb _ => by omega)).below hbt)
    have HBl := hid hbl
    have hzt : (V.alloc (.cells #[.int .i64 (t.id : Int), .int .u32 (t.sum : Int), .slice t.rows.p t.rows.n t.rows.c] 41)).heap.size = V.heap.size + 1 := by simp
    obtain ⟨m, hm⟩ : ∃ m, m = R.length := ⟨_, rfl⟩
    rw [← hm] at x0
    have HMm := hid hm
    clear hm
    clear hd hx2 hy2 hbl hbt hvV hin hr hk
    unfold MT.val
    by_cases h1 : m = 0
    · have hR : R = [] := List.eq_nil_of_length_eq_zero (by rw [← HMm.out]; exact h1)
      subst hR
      subst h1
      by_cases he : e1 = 0
      · subst he
        have v0 := HVW.out.cell 0
        have vf0 := HVW.out.frozen 0
        simp at v0
        have v1 := HVW.out.cell 1
        have vf1 := HVW.out.frozen 1
        simp at v1
        have v2 := HVW.out.cell 2
        have vf2 := HVW.out.frozen 2
        simp at v2
        have zz := set3_box HVW.out (.int .i64 (t.id : Int)) (.int .u32 (t.sum : Int)) (.slice t.rows.p t.rows.n t.rows.c)
        have r0' := zz.cell 0
        have r1' := zz.cell 1
        have r2' := zz.cell 2
        simp only [List.getElem?_toArray, List.getElem?_cons_zero, List.getElem?_cons_succ] at r0' r1' r2'
        have HZ := hid (And.intro r0' (And.intro r1' (r2')))
        clear zz r0' r1' r2'
        clear hvW
        go_wp2
        obtain ⟨r0', r1', r2'⟩ := HZ.out
        have hfin := But.sets3 (V.alloc (.cells #[.int .i64 (t.id : Int), .int .u32 (t.sum : Int), .slice t.rows.p t.rows.n t.rows.c] 41)) w.heap.size (.int .i64 (t.id : Int)) (.int .u32 (t.sum : Int)) (.slice t.rows.p t.rows.n t.rows.c)
        have hbf : Below w.heap.size w _ := HBl.out.trans (hfin.below (by omega) (fun k hk e => by omega))
        refine bodyPost_ret (v := .tuple #[MT.val t, .int .i64 0]) (by simp [results, Try.results78, go_sem, MT.val, r0', r1', r2']) rfl ⟨hbf, fun y hy => ⟨t, rfl, MT.In.mono (S := fun b => w.heap.size + 2 ≤ b) (HIn.out.but hfin (fun b hb _ e => by omega)) (fun b hb _ => by omega), (HRr.out.good rfl y [] hy).2.2⟩, fun y z R hy => (by have := (HRr.out.good rfl y _ hy).1; cases this), fun k hk => absurd rfl (HRr.out.bad rfl k hk).2⟩
      · have he' : (e1 == 0) = false := by simpa using he
        have hxE := HxW.out
        have hbz := (Below.refl (V.alloc (.cells #[.int .i64 (t.id : Int), .int .u32 (t.sum : Int), .slice t.rows.p t.rows.n t.rows.c] 41)).heap.size (V.alloc (.cells #[.int .i64 (t.id : Int), .int .u32 (t.sum : Int), .slice t.rows.p t.rows.n t.rows.c] 41))).alloc (Nat.le_refl _) (.cells #[.int .i64 0, .int .u32 0, .slice none 0 0] 41)
        have HVz := hid (hvW.below hbz)
        have v0 := HVz.out.cell 0
        have vf0 := HVz.out.frozen 0
        simp at v0
        have v1 := HVz.out.cell 1
        have vf1 := HVz.out.frozen 1
        simp at v1
        have v2 := HVz.out.cell 2
        have vf2 := HVz.out.frozen 2
        simp at v2
        have z1 := (hxE.below hbz).cell 1
        simp only [List.getElem?_toArray, List.getElem?_cons_zero, List.getElem?_cons_succ] at z1
        have zz := set3_box HVz.out (.int .i64 0) (.int .u32 0) (.slice none 0 0)
        have r0' := zz.cell 0
        have r1' := zz.cell 1
        have r2' := zz.cell 2
        simp only [List.getElem?_toArray, List.getElem?_cons_zero, List.getElem?_cons_succ] at r0' r1' r2'
        have HZ := hid (And.intro r0' (And.intro r1' (r2')))
        clear zz r0' r1' r2'
        have HBz := hid hbz
        clear hbz hvW hxE
        go_wp2_with fail
        go_region
        go_wp2
        obtain ⟨r0', r1', r2'⟩ := HZ.out
        have hfin := (But.sets3 ((V.alloc (.cells #[.int .i64 (t.id : Int), .int .u32 (t.sum : Int), .slice t.rows.p t.rows.n t.rows.c] 41)).alloc (.cells #[.int .i64 0, .int .u32 0, .slice none 0 0] 41)) w.heap.size (.int .i64 0) (.int .u32 0) (.slice none 0 0)).drew
        have hbf : Below w.heap.size w _ := (HBl.out.trans (HBz.out.mono (by omega))).trans (hfin.below (by have := HBz.out.size; omega) (fun k hk e => by omega))
        refine bodyPost_ret (v := .tuple #[.agg #[.int .i64 0, .int .u32 0, .slice none 0 0], .int .i64 e1]) (by simp [results, Try.results78, go_sem, r0', r1', r2']) rfl ⟨hbf, fun y hy => absurd (HRr.out.good rfl y _ hy).2.1 he, fun y z R hy => absurd (HRr.out.good rfl y _ hy).2.1 he, fun k hk => ⟨by rw [(HRr.out.bad rfl k hk).1], fun h0 => he (by rw [(HRr.out.bad rfl k hk).1, h0]; rfl)⟩⟩
    · have h1' : (0 : Int) < (m : Int) := by omega
      have HF := hid (wrFail_any (V.alloc (.cells #[.int .i64 (t.id : Int), .int .u32 (t.sum : Int), .slice t.rows.p t.rows.n t.rows.c] 41)) S (w.heap.size + 1) R e1 44 HRd.out)
      go_wp2_with fail
      refine HF.out.mono ?_
      rintro x V2 ⟨rfl, hd2, hk2⟩
      clear HF hvW
      have hvW := HVW.out.but hk2 (by omega)
      obtain ⟨⟨p3, hx3, hy3⟩, ho3⟩ := id hd2
      have y1 := hx3.cell 1
      simp only [List.getElem?_toArray, List.getElem?_cons_zero, List.getElem?_cons_succ] at y1
      have hs2 := hk2.size
      have hbl2 : Below w.heap.size w V2 := HBl.out.trans (hk2.below (by omega) (fun k hk e => by omega))
      clear HBl
      have HBl := hid hbl2
      have hne : (if e1 = 0 then (44 : Int) else e1) ≠ 0 := by split <;> omega
      have hE : ∃ E, E = (if e1 = 0 then (44 : Int) else e1) := ⟨_, rfl⟩
      obtain ⟨E, hE⟩ := hE
      rw [← hE] at y1 hne hx3
      have hne' : (E == 0) = false := by simpa using hne
      have HE := hid hE
      clear hE
      have hxE := hx3
      clear hd2 hk2 hx3 hy3 hbl2 x0 x1
      have hbz := (Below.refl V2.heap.size V2).alloc (Nat.le_refl _) (.cells #[.int .i64 0, .int .u32 0, .slice none 0 0] 41)
      have HVz := hid (hvW.below hbz)
      have v0 := HVz.out.cell 0
      have vf0 := HVz.out.frozen 0
      simp at v0
      have v1 := HVz.out.cell 1
      have vf1 := HVz.out.frozen 1
      simp at v1
      have v2 := HVz.out.cell 2
      have vf2 := HVz.out.frozen 2
      simp at v2
      have z1 := (hxE.below hbz).cell 1
      simp only [List.getElem?_toArray, List.getElem?_cons_zero, List.getElem?_cons_succ] at z1
      have zz := set3_box HVz.out (.int .i64 0) (.int .u32 0) (.slice none 0 0)
      have r0' := zz.cell 0
      have r1' := zz.cell 1
      have r2' := zz.cell 2
      simp only [List.getElem?_toArray, List.getElem?_cons_zero, List.getElem?_cons_succ] at r0' r1' r2'
      have HZ := hid (And.intro r0' (And.intro r1' (r2')))
      clear zz r0' r1' r2'
      have HBz := hid hbz
      clear hbz hvW hxE
      go_wp2_with fail
      go_region
      go_wp2
      obtain ⟨r0', r1', r2'⟩ := HZ.out
      have hfin := (But.sets3 (V2.alloc (.cells #[.int .i64 0, .int .u32 0, .slice none 0 0] 41)) w.heap.size (.int .i64 0) (.int .u32 0) (.slice none 0 0)).drew
      have hbf : Below w.heap.size w _ := (HBl.out.trans (HBz.out.mono (by omega))).trans (hfin.below (by have := HBz.out.size; omega) (fun k hk e => by omega))
      refine bodyPost_ret (v := .tuple #[.agg #[.int .i64 0, .int .u32 0, .slice none 0 0], .int .i64 E]) (by simp [results, Try.results78, go_sem, r0', r1', r2']) rfl ⟨hbf, fun y hy => (by have h2 := (HRr.out.good rfl y _ hy).1; rw [h2] at HMm; exact absurd HMm.out h1), fun y z R2 hy => (by rw [HE.out, if_pos (HRr.out.good rfl y _ hy).2.1]), fun k hk => ⟨by rw [HE.out, if_neg (HRr.out.bad rfl k hk).2, (HRr.out.bad rfl k hk).1], fun h0 => (HRr.out.bad rfl k hk).2 (by rw [(HRr.out.bad rfl k hk).1, h0]; rfl)⟩⟩
end Go.Proofs.Ytikfpoabaaiegaa

namespace Go.Proofs.Ytikfpoabaaiegaa
open Go.RowKit
set_option maxRecDepth 8000
set_option maxHeartbeats 8000000 in
theorem getMan (w : World) (S : Nat → Prop) (p : Option Addr) (c : Nat) (B : List Int) (hB : Byts w S p B.length c (fun j => B.getD j 0)) (hS : ∀ b, S b → b < w.heap.size) : Calls Try.prog 31 #[.slice p B.length c] w fun x w' => ∃ t k, x = .returned (.tuple #[MT.val t, .int .i64 k]) ∧ GetP manS MT.val zMT MT.In MT.Is w B t k w' := by
  have ha : Below w.heap.size w (w.alloc (.cells #[.int .i64 0, .int .u32 0, .slice none 0 0] 41)) := (Below.refl _ _).alloc (Nat.le_refl _) _
  have hz0 : (w.alloc (.cells #[.int .i64 0, .int .u32 0, .slice none 0 0] 41)).heap.size = w.heap.size + 1 := by simp
  have HC := hid (wholeMan (w.alloc (.cells #[.int .i64 0, .int .u32 0, .slice none 0 0] 41)) S p c B (hB.kept ha.size fun b _ hl => ha.block b hl) (fun b hb => by have := hS b hb; omega))
  have HA := hid ha
  have HV := hid (Box.new w #[.int .i64 0, .int .u32 0, .slice none 0 0] 41)
  clear hB hS ha
  obtain ⟨n, hn⟩ : ∃ n, n = B.length := ⟨_, rfl⟩
  rw [← hn] at HC ⊢
  clear hn
  go_enter Try.func31, Try.ntmps31
  go_wp2_with fail
  refine HC.out.mono ?_
  intro x w1 hP
  obtain ⟨t, k, rfl, hg⟩ := WholeP.get (zero := zMT) hP in_zMT
  have hb1 := hg.bel
  have hv := HV.out.below hb1
  have c0 := hv.cell 0
  have f0 := hv.frozen 0
  have c1 := hv.cell 1
  have f1 := hv.frozen 1
  have c2 := hv.cell 2
  have f2 := hv.frozen 2
  simp only [List.getElem?_toArray, List.getElem?_cons_zero, List.getElem?_cons_succ] at c0 c1 c2
  have zz := set3_box hv (.int .i64 (t.id : Int)) (.int .u32 (t.sum : Int)) (.slice t.rows.p t.rows.n t.rows.c)
  have r0' := zz.cell 0
  have r1' := zz.cell 1
  have r2' := zz.cell 2
  simp only [List.getElem?_toArray, List.getElem?_cons_zero, List.getElem?_cons_succ] at r0' r1' r2'
  have HZ := hid (And.intro r0' (And.intro r1' (r2')))
  have HG := hid hg
  have HB1 := hid hb1
  clear hP hg hb1 hv HC zz r0' r1' r2'
  unfold MT.val
  go_wp2
  obtain ⟨r0', r1', r2'⟩ := HZ.out
  have hfin := But.sets3 w1 w.heap.size (.int .i64 (t.id : Int)) (.int .u32 (t.sum : Int)) (.slice t.rows.p t.rows.n t.rows.c)
  have hbf : Below w.heap.size w _ := (HA.out.trans (HB1.out.mono (by omega))).trans (hfin.below (by have := HB1.out.size; omega) (fun k hk e => by omega))
  refine bodyPost_ret (v := .tuple #[MT.val t, .int .i64 k]) (by simp [results, Try.results31, go_sem, MT.val, r0', r1', r2']) rfl ⟨t, k, rfl, hbf, ?_, HG.out.good, HG.out.more, HG.out.bad⟩
  exact MT.In.mono (S := fun b => (w.alloc (.cells #[.int .i64 0, .int .u32 0, .slice none 0 0] 41)).heap.size ≤ b) (MT.In.but HG.out.inn hfin (fun b hb _ e => by omega)) (fun b hb _ => by omega)
end Go.Proofs.Ytikfpoabaaiegaa
