import Derived.Test.YtikfpoabaaiegaaPack36
import Derived.Test.YtikfpoabaaiegaaPack41
import Derived.Laws.ResultCell
import Derived.Deep.DeepCutAuto
namespace Go.Proofs.Ytikfpoabaaiegaa
open Go.RowKit
set_option maxRecDepth 8000
def thMT (k : Int) (t : MT) : Array Value := #[.int .i64 k, .string ⟨#[]⟩, .int .i64 0, .int .i64 0, .string ⟨#[]⟩, .slice none 0 0, .slice none 0 0, .int .i64 0, .slice none 0 0, .int .i64 0, .int .i64 0, .int .i64 0, .int .u32 0, .int .i64 0, .slice none 0 0, .int .i64 0, .slice none 0 0, .slice none 0 0, .slice none 0 0, .slice none 0 0, .int .i64 (t.id : Int), .int .u32 (t.sum : Int), .slice t.rows.p t.rows.n t.rows.c, .int .i64 0, .string ⟨#[]⟩, .int .i64 0, .int .i64 0, .string ⟨#[]⟩, .slice none 0 0, .slice none 0 0]
theorem thMT_size (k : Int) (t : MT) : (thMT k t).size = 30 := rfl
theorem thMT_one (k : Int) (t : MT) : (thMT k t).all (·.oneCell') = true := by simp [thMT, Value.oneCell']
set_option maxHeartbeats 8000000 in
theorem lawgetMan (w : World) (b : Value) (Q : World → MT → Int → World → Prop) (hQ : ∀ W t k w', Q W t k w' → Below W.heap.size W w') (H : ∀ W, Below w.heap.size w W → Calls Try.prog 31 #[b] W fun x w' => ∃ t k, x = .returned (.tuple #[MT.val t, .int .i64 k]) ∧ Q W t k w') : Calls Try.prog 10 #[.int .i64 4, b] w fun x w' => ∃ t e W w1, x = .returned (.tuple #[.agg (thMT 4 t), .int .i64 e]) ∧ Below w.heap.size w W ∧ W.heap.size = w.heap.size + 2 ∧ Q W t e w1 ∧ But (fun y => y = w.heap.size ∨ y = w.heap.size + 1) w1 w' := by
  obtain ⟨hz0, hz1, hz2, hz3⟩ := start_thing w 4
  have hBx : Box ((w.alloc (.cells zC 45)).alloc (.cells zC 45)) (w.heap.size + 1) zC 45 := heap_alloc2_new w _ _
  have HBx := hid hBx
  have HC := hid (H _ hz2)
  have HR0 := hid hz0
  have HT0 := hid hz1
  have HB0 := hid hz2
  have HZ := hid hz3
  unfold MT.val at HC
  clear hBx hz0 hz1 hz2 hz3 H
  go_enter Try.func10, Try.ntmps10
  go_wp2_with (refine wpList_store_row rfl 45 (.tmp 6) (.tmp 9) rfl (w.heap.size + 1) (kC 4) rfl rfl 45 zC HBx.out (by rw [info45]; rfl) rfl (kC_one 4) ?_)
  refine HC.out.mono ?_
  generalize hW : ((w.alloc (.cells zC 45)).alloc (.cells zC 45)).setRow (w.heap.size + 1) (kC 4) = W at *
  rintro x w1 ⟨t, e, rfl, hq⟩
  have hb1 := hQ _ _ _ _ hq
  have ht1 := HT0.out.below hb1
  have hr1 := HR0.out.below hb1
  have c0 := ht1.cell 20
  have f0 := ht1.frozen 20
  have c1 := ht1.cell 21
  have f1 := ht1.frozen 21
  have c2 := ht1.cell 22
  have f2 := ht1.frozen 22
  simp [kC] at c0 c1 c2
  have ht2 : Box (((w1.setCell ⟨w.heap.size + 1, 20, none⟩ (.int .i64 (t.id : Int))).setCell ⟨w.heap.size + 1, 21, none⟩ (.int .u32 (t.sum : Int))).setCell ⟨w.heap.size + 1, 22, none⟩ (.slice t.rows.p t.rows.n t.rows.c)) (w.heap.size + 1) (thMT 4 t) 45 := by
    have h := (((ht1.set 20 (.int .i64 (t.id : Int))).set 21 (.int .u32 (t.sum : Int))).set 22 (.slice t.rows.p t.rows.n t.rows.c))
    simpa [kC, thMT] using h
  have hk2 : But (fun y => y = w.heap.size + 1) w1 (((w1.setCell ⟨w.heap.size + 1, 20, none⟩ (.int .i64 (t.id : Int))).setCell ⟨w.heap.size + 1, 21, none⟩ (.int .u32 (t.sum : Int))).setCell ⟨w.heap.size + 1, 22, none⟩ (.slice t.rows.p t.rows.n t.rows.c)) := (((But.one w1 (w.heap.size + 1)).setAt 20 (.int .i64 (t.id : Int))).setAt 21 (.int .u32 (t.sum : Int))).setAt 22 (.slice t.rows.p t.rows.n t.rows.c)
  have hr2 := hr1.but hk2 (by omega)
  have HR2 := hid hr2
  have HT2 := hid ht2
  have HK2 := hid hk2
  have HQ := hid hq
  clear ht1 hr1 ht2 hr2 hk2 HC hb1 hq
  go_wp2_with fail
  refine get_tail _ _ _ _ _ _ _ _ _ _ _ _ _ _ _ _ _ _ _ _ _ _ _ _ _ _ _ _ _ _ _ _ _ _ _ _ _ _ _ _ _ _ _ _ _ _ (w.heap.size + 1) w.heap.size (by omega) (thMT 4 t) (thMT_size _ _) (thMT_one _ _) e _ _ _ _ HT2.out HR2.out _ ?_
  intro w3 hb3 hk3
  have HB3 := hid hb3
  have HK3 := hid hk3
  clear hb3 hk3
  go_wp2
  refine bodyPost_ret (v := .tuple #[.agg (thMT 4 t), .int .i64 e]) ?_ rfl ⟨t, e, W, w1, rfl, HB0.out, HZ.out, HQ.out, (HK2.out.mono (fun b _ h => Or.inr h)).trans (HK3.out.mono (fun b _ h => Or.inl h))⟩
  rw [results_cell_tmp rfl]
  have hld := run_loadVar_row (P := Try.prog) w3 w.heap.size 45 45 (thMT 4 t) (0, 0) _ HB3.out Try.underlying45 rfl (by rw [thMT_size]; exact info45)
  simp [asAddr, Result.andThen, hld]
end Go.Proofs.Ytikfpoabaaiegaa

namespace Go.Proofs.Ytikfpoabaaiegaa
open Go.RowKit
set_option maxRecDepth 8000
set_option maxHeartbeats 8000000 in
theorem lawrgetMan (w : World) (b : Value) (Q : World → MT → Int → World → Prop) (hQ : ∀ W t k w', Q W t k w' → Below W.heap.size W w') (H : ∀ W, Below w.heap.size w W → Calls Try.prog 26 #[b] W fun x w' => ∃ t k, x = .returned (.tuple #[MT.val t, .int .i64 k]) ∧ Q W t k w') : Calls Try.prog 9 #[.int .i64 4, b] w fun x w' => ∃ t e W w1, x = .returned (.tuple #[.agg (thMT 4 t), .int .i64 e]) ∧ Below w.heap.size w W ∧ W.heap.size = w.heap.size + 2 ∧ Q W t e w1 ∧ But (fun y => y = w.heap.size ∨ y = w.heap.size + 1) w1 w' := by
  obtain ⟨hz0, hz1, hz2, hz3⟩ := start_thing w 4
  have hBx : Box ((w.alloc (.cells zC 45)).alloc (.cells zC 45)) (w.heap.size + 1) zC 45 := heap_alloc2_new w _ _
  have HBx := hid hBx
  have HC := hid (H _ hz2)
  have HR0 := hid hz0
  have HT0 := hid hz1
  have HB0 := hid hz2
  have HZ := hid hz3
  unfold MT.val at HC
  clear hBx hz0 hz1 hz2 hz3 H
  go_enter Try.func9, Try.ntmps9
  go_wp2_with (refine wpList_store_row rfl 45 (.tmp 6) (.tmp 9) rfl (w.heap.size + 1) (kC 4) rfl rfl 45 zC HBx.out (by rw [info45]; rfl) rfl (kC_one 4) ?_)
  refine HC.out.mono ?_
  generalize hW : ((w.alloc (.cells zC 45)).alloc (.cells zC 45)).setRow (w.heap.size + 1) (kC 4) = W at *
  rintro x w1 ⟨t, e, rfl, hq⟩
  have hb1 := hQ _ _ _ _ hq
  have ht1 := HT0.out.below hb1
  have hr1 := HR0.out.below hb1
  have c0 := ht1.cell 20
  have f0 := ht1.frozen 20
  have c1 := ht1.cell 21
  have f1 := ht1.frozen 21
  have c2 := ht1.cell 22
  have f2 := ht1.frozen 22
  simp [kC] at c0 c1 c2
  have ht2 : Box (((w1.setCell ⟨w.heap.size + 1, 20, none⟩ (.int .i64 (t.id : Int))).setCell ⟨w.heap.size + 1, 21, none⟩ (.int .u32 (t.sum : Int))).setCell ⟨w.heap.size + 1, 22, none⟩ (.slice t.rows.p t.rows.n t.rows.c)) (w.heap.size + 1) (thMT 4 t) 45 := by
    have h := (((ht1.set 20 (.int .i64 (t.id : Int))).set 21 (.int .u32 (t.sum : Int))).set 22 (.slice t.rows.p t.rows.n t.rows.c))
    simpa [kC, thMT] using h
  have hk2 : But (fun y => y = w.heap.size + 1) w1 (((w1.setCell ⟨w.heap.size + 1, 20, none⟩ (.int .i64 (t.id : Int))).setCell ⟨w.heap.size + 1, 21, none⟩ (.int .u32 (t.sum : Int))).setCell ⟨w.heap.size + 1, 22, none⟩ (.slice t.rows.p t.rows.n t.rows.c)) := (((But.one w1 (w.heap.size + 1)).setAt 20 (.int .i64 (t.id : Int))).setAt 21 (.int .u32 (t.sum : Int))).setAt 22 (.slice t.rows.p t.rows.n t.rows.c)
  have hr2 := hr1.but hk2 (by omega)
  have HR2 := hid hr2
  have HT2 := hid ht2
  have HK2 := hid hk2
  have HQ := hid hq
  clear ht1 hr1 ht2 hr2 hk2 HC hb1 hq
  go_upto_region 13 with fail
  go_wp2_with (first | (refine wpList_load_row rfl 45 (.tmp 6) rfl (w.heap.size + 1) rfl 45 (thMT 4 t) (0, 0) _ HT2.out Try.underlying45 rfl (by rw [info45, thMT_size]) ?_) | (refine wpList_store_any rfl 45 (.tmp 4) (.tmp 49) rfl w.heap.size (thMT 4 t) rfl rfl 45 zC HR2.out (by rw [info45, thMT_size]) (by rw [thMT_size]; rfl) (thMT_one _ _) ?_))
  intro w3 hb3 hk3
  have HB3 := hid hb3
  have HK3 := hid hk3
  clear hb3 hk3
  go_wp2
  refine bodyPost_ret (v := .tuple #[.agg (thMT 4 t), .int .i64 e]) ?_ rfl ⟨t, e, W, w1, rfl, HB0.out, HZ.out, HQ.out, (HK2.out.mono (fun b _ h => Or.inr h)).trans (HK3.out.mono (fun b _ h => Or.inl h))⟩
  rw [results_cell_tmp rfl]
  have hld := run_loadVar_row (P := Try.prog) w3 w.heap.size 45 45 (thMT 4 t) (0, 0) _ HB3.out Try.underlying45 rfl (by rw [thMT_size]; exact info45)
  simp [asAddr, Result.andThen, hld]
end Go.Proofs.Ytikfpoabaaiegaa
