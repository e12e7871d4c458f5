import Derived.Test.YtfonicphdejdlaaGreatPack25
import Derived.Test.YtfonicphdejdlaaGreatWhSeg
import Derived.Laws.ResultCell
import Derived.Test.YtfonicphdejdlaaGreatWpI
namespace Go.Proofs.YtfonicphdejdlaaGreat
open Go.RowKit
set_option maxRecDepth 8000
set_option maxHeartbeats 8000000 in
theorem getSeg (w : World) (S : Nat → Prop) (p : Option Addr) (c : Nat) (B : List Int) (hB : Byts w S p B.length c (fun j => B.getD j 0)) (hS : ∀ b, S b → b < w.heap.size) : Calls Tryz.prog 25 #[.slice p B.length c] w fun x w' => ∃ t k, x = .returned (.tuple #[GT.val t, .int .i64 k]) ∧ GetP segS GT.val zGT GT.In GT.Is w B t k w' := by
  have ha : Below w.heap.size w (w.alloc (.cells #[.int .i64 0, .int .i64 0, .int .i64 0, .int .u32 0, .int .i64 0, .slice none 0 0, .int .i64 0, .slice none 0 0, .slice none 0 0, .slice none 0 0, .slice none 0 0] 38)) := (Below.refl _ _).alloc (Nat.le_refl _) _
  have hz0 : (w.alloc (.cells #[.int .i64 0, .int .i64 0, .int .i64 0, .int .u32 0, .int .i64 0, .slice none 0 0, .int .i64 0, .slice none 0 0, .slice none 0 0, .slice none 0 0, .slice none 0 0] 38)).heap.size = w.heap.size + 1 := by simp
  have HC := hid (wholeSeg (w.alloc (.cells #[.int .i64 0, .int .i64 0, .int .i64 0, .int .u32 0, .int .i64 0, .slice none 0 0, .int .i64 0, .slice none 0 0, .slice none 0 0, .slice none 0 0, .slice none 0 0] 38)) S p c B (hB.kept ha.size fun b _ hl => ha.block b hl) (fun b hb => by have := hS b hb; omega))
  have HA := hid ha
  have HV := hid (Box.new w #[.int .i64 0, .int .i64 0, .int .i64 0, .int .u32 0, .int .i64 0, .slice none 0 0, .int .i64 0, .slice none 0 0, .slice none 0 0, .slice none 0 0, .slice none 0 0] 38)
  clear hB hS ha
  obtain ⟨n, hn⟩ : ∃ n, n = B.length := ⟨_, rfl⟩
  rw [← hn] at HC ⊢
  clear hn
  go_enter Tryz.func25, Tryz.ntmps25
  go_wp2_with fail
  refine HC.out.mono ?_
  intro x w1 hP
  obtain ⟨t, k, rfl, hg⟩ := WholeP.get (zero := zGT) hP in_zGT
  have hb1 := hg.bel
  have hv := HV.out.below hb1
  have c0 := hv.cell 0
  have f0 := hv.frozen 0
  have c1 := hv.cell 1
  have f1 := hv.frozen 1
  have c2 := hv.cell 2
  have f2 := hv.frozen 2
  have c3 := hv.cell 3
  have f3 := hv.frozen 3
  have c4 := hv.cell 4
  have f4 := hv.frozen 4
  have c5 := hv.cell 5
  have f5 := hv.frozen 5
  have c6 := hv.cell 6
  have f6 := hv.frozen 6
  have c7 := hv.cell 7
  have f7 := hv.frozen 7
  have c8 := hv.cell 8
  have f8 := hv.frozen 8
  have c9 := hv.cell 9
  have f9 := hv.frozen 9
  have c10 := hv.cell 10
  have f10 := hv.frozen 10
  simp only [List.getElem?_toArray, List.getElem?_cons_zero, List.getElem?_cons_succ] at c0 c1 c2 c3 c4 c5 c6 c7 c8 c9 c10
  have zz := set11_box hv (.int .i64 (t.id : Int)) (.int .i64 (t.task : Int)) (.int .i64 (t.base : Int)) (.int .u32 (t.sum : Int)) (.int .i64 t.st.num) (.slice t.st.p t.st.n t.st.c) (.int .i64 (t.d.num : Int)) (.slice t.d.set.p t.d.set.n t.d.set.c) (.slice t.d.gone.p t.d.gone.n t.d.gone.c) (.slice t.logs.p t.logs.n t.logs.c) (.slice t.pend.p t.pend.n t.pend.c)
  have r0' := zz.cell 0
  have r1' := zz.cell 1
  have r2' := zz.cell 2
  have r3' := zz.cell 3
  have r4' := zz.cell 4
  have r5' := zz.cell 5
  have r6' := zz.cell 6
  have r7' := zz.cell 7
  have r8' := zz.cell 8
  have r9' := zz.cell 9
  have r10' := zz.cell 10
  simp only [List.getElem?_toArray, List.getElem?_cons_zero, List.getElem?_cons_succ] at r0' r1' r2' r3' r4' r5' r6' r7' r8' r9' r10'
  have HZ := hid (And.intro r0' (And.intro r1' (And.intro r2' (And.intro r3' (And.intro r4' (And.intro r5' (And.intro r6' (And.intro r7' (And.intro r8' (And.intro r9' (r10')))))))))))
  have HG := hid hg
  have HB1 := hid hb1
  clear hP hg hb1 hv HC zz r0' r1' r2' r3' r4' r5' r6' r7' r8' r9' r10'
  unfold GT.val
  go_wp2
  obtain ⟨r0', r1', r2', r3', r4', r5', r6', r7', r8', r9', r10'⟩ := HZ.out
  have hfin := But.sets11 w1 w.heap.size (.int .i64 (t.id : Int)) (.int .i64 (t.task : Int)) (.int .i64 (t.base : Int)) (.int .u32 (t.sum : Int)) (.int .i64 t.st.num) (.slice t.st.p t.st.n t.st.c) (.int .i64 (t.d.num : Int)) (.slice t.d.set.p t.d.set.n t.d.set.c) (.slice t.d.gone.p t.d.gone.n t.d.gone.c) (.slice t.logs.p t.logs.n t.logs.c) (.slice t.pend.p t.pend.n t.pend.c)
  have hbf : Below w.heap.size w _ := (HA.out.trans (HB1.out.mono (by omega))).trans (hfin.below (by have := HB1.out.size; omega) (fun k hk e => by omega))
  refine bodyPost_ret (v := .tuple #[GT.val t, .int .i64 k]) (by simp [results, Tryz.results25, go_sem, GT.val, r0', r1', r2', r3', r4', r5', r6', r7', r8', r9', r10']) rfl ⟨t, k, rfl, hbf, ?_, HG.out.good, HG.out.more, HG.out.bad⟩
  exact GT.In.mono (S := fun b => (w.alloc (.cells #[.int .i64 0, .int .i64 0, .int .i64 0, .int .u32 0, .int .i64 0, .slice none 0 0, .int .i64 0, .slice none 0 0, .slice none 0 0, .slice none 0 0, .slice none 0 0] 38)).heap.size ≤ b) (GT.In.but HG.out.inn hfin (fun b hb _ e => by omega)) (fun b hb _ => by omega)
end Go.Proofs.YtfonicphdejdlaaGreat

namespace Go.Proofs.YtfonicphdejdlaaGreat
open Go.RowKit
set_option maxRecDepth 8000
/-- the thing with what was read -/
def thGT (k : Int) (t : GT) : Array Value := #[.int .i64 k, .string ⟨#[]⟩, .int .i64 0, .int .i64 0, .string ⟨#[]⟩, .slice none 0 0, .slice none 0 0, .int .i64 0, .slice none 0 0, .int .i64 (t.id : Int), .int .i64 (t.task : Int), .int .i64 (t.base : Int), .int .u32 (t.sum : Int), .int .i64 t.st.num, .slice t.st.p t.st.n t.st.c, .int .i64 (t.d.num : Int), .slice t.d.set.p t.d.set.n t.d.set.c, .slice t.d.gone.p t.d.gone.n t.d.gone.c, .slice t.logs.p t.logs.n t.logs.c, .slice t.pend.p t.pend.n t.pend.c, .int .i64 0, .int .u32 0, .slice none 0 0, .int .i64 0, .string ⟨#[]⟩, .int .i64 0, .int .i64 0, .string ⟨#[]⟩, .slice none 0 0, .slice none 0 0]
theorem thGT_size (k : Int) (t : GT) : (thGT k t).size = 30 := rfl
theorem thGT_one (k : Int) (t : GT) : (thGT k t).all (·.oneCell') = true := by simp [thGT, Value.oneCell']
set_option maxHeartbeats 8000000 in
theorem lawgetSeg (w : World) (b : Value) (Q : World → GT → Int → World → Prop) (hQ : ∀ W t k w', Q W t k w' → Below W.heap.size W w') (H : ∀ W, Below w.heap.size w W → Calls Tryz.prog 25 #[b] W fun x w' => ∃ t k, x = .returned (.tuple #[GT.val t, .int .i64 k]) ∧ Q W t k w') : Calls Tryz.prog 12 #[.int .i64 3, b] w fun x w' => ∃ t e W w1, x = .returned (.tuple #[.agg (thGT 3 t), .int .i64 e]) ∧ Below w.heap.size w W ∧ W.heap.size = w.heap.size + 2 ∧ Q W t e w1 ∧ But (fun y => y = w.heap.size ∨ y = w.heap.size + 1) w1 w' := by
  obtain ⟨hz0, hz1, hz2, hz3⟩ := start_thing w 3
  have hBx : Box ((w.alloc (.cells zC 45)).alloc (.cells zC 45)) (w.heap.size + 1) zC 45 := heap_alloc2_new w _ _
  have HBx := hid hBx
  have HC := hid (H _ hz2)
  have HR0 := hid hz0
  have HT0 := hid hz1
  have HB0 := hid hz2
  have HZ := hid hz3
  unfold GT.val at HC
  clear hBx hz0 hz1 hz2 hz3 H
  go_enter Tryz.func12, Tryz.ntmps12
  go_wp2_with (refine wpList_store_row rfl 45 (.tmp 6) (.tmp 9) rfl (w.heap.size + 1) (kC 3) rfl rfl 45 zC HBx.out (by rw [info45]; rfl) rfl (kC_one 3) ?_)
  refine HC.out.mono ?_
  generalize hW : ((w.alloc (.cells zC 45)).alloc (.cells zC 45)).setRow (w.heap.size + 1) (kC 3) = W at *
  rintro x w1 ⟨t, e, rfl, hq⟩
  have hb1 := hQ _ _ _ _ hq
  have ht1 := HT0.out.below hb1
  have hr1 := HR0.out.below hb1
  have c0 := ht1.cell 9
  have f0 := ht1.frozen 9
  have c1 := ht1.cell 10
  have f1 := ht1.frozen 10
  have c2 := ht1.cell 11
  have f2 := ht1.frozen 11
  have c3 := ht1.cell 12
  have f3 := ht1.frozen 12
  have c4 := ht1.cell 13
  have f4 := ht1.frozen 13
  have c5 := ht1.cell 14
  have f5 := ht1.frozen 14
  have c6 := ht1.cell 15
  have f6 := ht1.frozen 15
  have c7 := ht1.cell 16
  have f7 := ht1.frozen 16
  have c8 := ht1.cell 17
  have f8 := ht1.frozen 17
  have c9 := ht1.cell 18
  have f9 := ht1.frozen 18
  have c10 := ht1.cell 19
  have f10 := ht1.frozen 19
  simp [kC] at c0 c1 c2 c3 c4 c5 c6 c7 c8 c9 c10
  have ht2 : Box (((((((((((w1.setCell ⟨w.heap.size + 1, 9, none⟩ (.int .i64 (t.id : Int))).setCell ⟨w.heap.size + 1, 10, none⟩ (.int .i64 (t.task : Int))).setCell ⟨w.heap.size + 1, 11, none⟩ (.int .i64 (t.base : Int))).setCell ⟨w.heap.size + 1, 12, none⟩ (.int .u32 (t.sum : Int))).setCell ⟨w.heap.size + 1, 13, none⟩ (.int .i64 t.st.num)).setCell ⟨w.heap.size + 1, 14, none⟩ (.slice t.st.p t.st.n t.st.c)).setCell ⟨w.heap.size + 1, 15, none⟩ (.int .i64 (t.d.num : Int))).setCell ⟨w.heap.size + 1, 16, none⟩ (.slice t.d.set.p t.d.set.n t.d.set.c)).setCell ⟨w.heap.size + 1, 17, none⟩ (.slice t.d.gone.p t.d.gone.n t.d.gone.c)).setCell ⟨w.heap.size + 1, 18, none⟩ (.slice t.logs.p t.logs.n t.logs.c)).setCell ⟨w.heap.size + 1, 19, none⟩ (.slice t.pend.p t.pend.n t.pend.c)) (w.heap.size + 1) (thGT 3 t) 45 := by
    have h := (((((((((((ht1.set 9 (.int .i64 (t.id : Int))).set 10 (.int .i64 (t.task : Int))).set 11 (.int .i64 (t.base : Int))).set 12 (.int .u32 (t.sum : Int))).set 13 (.int .i64 t.st.num)).set 14 (.slice t.st.p t.st.n t.st.c)).set 15 (.int .i64 (t.d.num : Int))).set 16 (.slice t.d.set.p t.d.set.n t.d.set.c)).set 17 (.slice t.d.gone.p t.d.gone.n t.d.gone.c)).set 18 (.slice t.logs.p t.logs.n t.logs.c)).set 19 (.slice t.pend.p t.pend.n t.pend.c))
    simpa [kC, thGT] using h
  have hk2 : But (fun y => y = w.heap.size + 1) w1 (((((((((((w1.setCell ⟨w.heap.size + 1, 9, none⟩ (.int .i64 (t.id : Int))).setCell ⟨w.heap.size + 1, 10, none⟩ (.int .i64 (t.task : Int))).setCell ⟨w.heap.size + 1, 11, none⟩ (.int .i64 (t.base : Int))).setCell ⟨w.heap.size + 1, 12, none⟩ (.int .u32 (t.sum : Int))).setCell ⟨w.heap.size + 1, 13, none⟩ (.int .i64 t.st.num)).setCell ⟨w.heap.size + 1, 14, none⟩ (.slice t.st.p t.st.n t.st.c)).setCell ⟨w.heap.size + 1, 15, none⟩ (.int .i64 (t.d.num : Int))).setCell ⟨w.heap.size + 1, 16, none⟩ (.slice t.d.set.p t.d.set.n t.d.set.c)).setCell ⟨w.heap.size + 1, 17, none⟩ (.slice t.d.gone.p t.d.gone.n t.d.gone.c)).setCell ⟨w.heap.size + 1, 18, none⟩ (.slice t.logs.p t.logs.n t.logs.c)).setCell ⟨w.heap.size + 1, 19, none⟩ (.slice t.pend.p t.pend.n t.pend.c)) := (((((((((((But.one w1 (w.heap.size + 1)).setAt 9 (.int .i64 (t.id : Int))).setAt 10 (.int .i64 (t.task : Int))).setAt 11 (.int .i64 (t.base : Int))).setAt 12 (.int .u32 (t.sum : Int))).setAt 13 (.int .i64 t.st.num)).setAt 14 (.slice t.st.p t.st.n t.st.c)).setAt 15 (.int .i64 (t.d.num : Int))).setAt 16 (.slice t.d.set.p t.d.set.n t.d.set.c)).setAt 17 (.slice t.d.gone.p t.d.gone.n t.d.gone.c)).setAt 18 (.slice t.logs.p t.logs.n t.logs.c)).setAt 19 (.slice t.pend.p t.pend.n t.pend.c)
  have hr2 := hr1.but hk2 (by omega)
  have HR2 := hid hr2
  have HT2 := hid ht2
  have HK2 := hid hk2
  have HQ := hid hq
  clear ht1 hr1 ht2 hr2 hk2 HC hb1 hq
  go_wp2_with fail
  refine get_tail _ _ _ _ _ _ _ _ _ _ _ _ _ _ _ _ _ _ _ _ _ _ _ _ _ _ _ _ _ _ _ _ _ _ _ _ _ _ _ _ _ _ _ _ _ _ (w.heap.size + 1) w.heap.size (by omega) (thGT 3 t) (thGT_size _ _) (thGT_one _ _) e _ _ _ _ HT2.out HR2.out _ ?_
  intro w3 hb3 hk3
  have HB3 := hid hb3
  have HK3 := hid hk3
  clear hb3 hk3
  go_wp2
  refine bodyPost_ret (v := .tuple #[.agg (thGT 3 t), .int .i64 e]) ?_ rfl ⟨t, e, W, w1, rfl, HB0.out, HZ.out, HQ.out, (HK2.out.mono (fun b _ h => Or.inr h)).trans (HK3.out.mono (fun b _ h => Or.inl h))⟩
  rw [results_cell_tmp rfl]
  have hld := run_loadVar_row (P := Tryz.prog) w3 w.heap.size 45 45 (thGT 3 t) (0, 0) _ HB3.out Tryz.underlying45 rfl (by rw [thGT_size]; exact info45)
  simp [asAddr, Result.andThen, hld]
end Go.Proofs.YtfonicphdejdlaaGreat

namespace Go.Proofs.YtfonicphdejdlaaGreat
open Go.RowKit
set_option maxRecDepth 8000
set_option maxHeartbeats 4000000 in
theorem lawputSeg (t : GT) (w : World) (S : Nat → Prop) (hin : GT.In w S t) (hr : FG t) (hS : ∀ b, S b → b < w.heap.size) : Calls Tryz.prog 11 #[.agg (thGT 3 t)] w fun x w' => PutP (segB t) w x w' := by
  have ha : Below w.heap.size w (w.alloc (.cells (thGT 3 t) 45)) := (Below.refl _ _).alloc (Nat.le_refl _) _
  have hbx := Box.new w (thGT 3 t) 45
  have cc := (hbx.cell 0).trans (show (thGT 3 t)[0]? = some (.int .i64 3) from rfl)
  have c0 := (hbx.cell 9).trans (show (thGT 3 t)[9]? = some (.int .i64 (t.id : Int)) from rfl)
  have c1 := (hbx.cell 10).trans (show (thGT 3 t)[10]? = some (.int .i64 (t.task : Int)) from rfl)
  have c2 := (hbx.cell 11).trans (show (thGT 3 t)[11]? = some (.int .i64 (t.base : Int)) from rfl)
  have c3 := (hbx.cell 12).trans (show (thGT 3 t)[12]? = some (.int .u32 (t.sum : Int)) from rfl)
  have c4 := (hbx.cell 13).trans (show (thGT 3 t)[13]? = some (.int .i64 t.st.num) from rfl)
  have c5 := (hbx.cell 14).trans (show (thGT 3 t)[14]? = some (.slice t.st.p t.st.n t.st.c) from rfl)
  have c6 := (hbx.cell 15).trans (show (thGT 3 t)[15]? = some (.int .i64 (t.d.num : Int)) from rfl)
  have c7 := (hbx.cell 16).trans (show (thGT 3 t)[16]? = some (.slice t.d.set.p t.d.set.n t.d.set.c) from rfl)
  have c8 := (hbx.cell 17).trans (show (thGT 3 t)[17]? = some (.slice t.d.gone.p t.d.gone.n t.d.gone.c) from rfl)
  have c9 := (hbx.cell 18).trans (show (thGT 3 t)[18]? = some (.slice t.logs.p t.logs.n t.logs.c) from rfl)
  have c10 := (hbx.cell 19).trans (show (thGT 3 t)[19]? = some (.slice t.pend.p t.pend.n t.pend.c) from rfl)
  have HC := hid (putSeg_any t _ S (hin.below ha) hr (fun b hb => by have := hS b hb; have := ha.size; omega))
  have HA := hid ha
  unfold GT.val at HC
  clear hbx ha hS
  obtain ⟨cT, hcT⟩ : ∃ cT, cT = thGT 3 t := ⟨_, rfl⟩
  rw [← hcT] at HC HA ⊢
  rw [← hcT] at cc c0 c1 c2 c3 c4 c5 c6 c7 c8 c9 c10
  clear hcT
  go_enter Tryz.func11, Tryz.ntmps11
  go_wp2_with fail
  refine HC.out.mono ?_
  rintro x w1 ⟨v1, rfl, ho1, hb1⟩
  have HF := hid (And.intro (ho1.mono HA.out.size) (HA.out.trans (hb1.mono HA.out.size)))
  have HN := fun W => num_any 0 W
  clear ho1 hb1 HC
  go_wp2_with fail
  refine (HN _).mono ?_
  rintro x w2 ⟨rfl, hw2⟩
  subst w2
  go_wp2
  refine bodyPost_ret (v := .tuple #[v1, .int .i64 0]) (by simp [results, Tryz.results11, go_sem]) rfl ?_
  exact ⟨v1, rfl, HF.out.1, HF.out.2⟩
end Go.Proofs.YtfonicphdejdlaaGreat
