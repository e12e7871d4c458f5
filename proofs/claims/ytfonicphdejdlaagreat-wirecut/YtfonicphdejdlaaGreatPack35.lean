import Derived.Test.YtfonicphdejdlaaGreatPack25
import Derived.Test.YtfonicphdejdlaaGreatWhMan
import Derived.Laws.ResultCell
import Derived.Test.YtfonicphdejdlaaGreatWpI
namespace Go.Proofs.YtfonicphdejdlaaGreat
open Go.RowKit
set_option maxRecDepth 8000
set_option maxHeartbeats 8000000 in
theorem getMan (w : World) (S : Nat → Prop) (p : Option Addr) (c : Nat) (B : List Int) (hB : Byts w S p B.length c (fun j => B.getD j 0)) (hS : ∀ b, S b → b < w.heap.size) : Calls Tryz.prog 26 #[.slice p B.length c] w fun x w' => ∃ t k, x = .returned (.tuple #[MT.val t, .int .i64 k]) ∧ GetP manS MT.val zMT MT.In MT.Is w B t k w' := by
  have ha : Below w.heap.size w (w.alloc (.cells #[.int .i64 0, .int .u32 0, .slice none 0 0] 41)) := (Below.refl _ _).alloc (Nat.le_refl _) _
  have hz0 : (w.alloc (.cells #[.int .i64 0, .int .u32 0, .slice none 0 0] 41)).heap.size = w.heap.size + 1 := by simp
  have HC := hid (wholeMan (w.alloc (.cells #[.int .i64 0, .int .u32 0, .slice none 0 0] 41)) S p c B (hB.kept ha.size fun b _ hl => ha.block b hl) (fun b hb => by have := hS b hb; omega))
  have HA := hid ha
  have HV := hid (Box.new w #[.int .i64 0, .int .u32 0, .slice none 0 0] 41)
  clear hB hS ha
  obtain ⟨n, hn⟩ : ∃ n, n = B.length := ⟨_, rfl⟩
  rw [← hn] at HC ⊢
  clear hn
  go_enter Tryz.func26, Tryz.ntmps26
  go_wp2_with fail
  refine HC.out.mono ?_
  intro x w1 hP
  obtain ⟨t, k, rfl, hg⟩ := WholeP.get (zero := zMT) hP in_zMT
  have hb1 := hg.bel
  have hv := HV.out.below hb1
  have c0 := hv.cell 0
  have f0 := hv.frozen 0
  have c1 := hv.cell 1
  have f1 := hv.frozen 1
  have c2 := hv.cell 2
  have f2 := hv.frozen 2
  simp only [List.getElem?_toArray, List.getElem?_cons_zero, List.getElem?_cons_succ] at c0 c1 c2
  have zz := set3_box hv (.int .i64 (t.id : Int)) (.int .u32 (t.sum : Int)) (.slice t.rows.p t.rows.n t.rows.c)
  have r0' := zz.cell 0
  have r1' := zz.cell 1
  have r2' := zz.cell 2
  simp only [List.getElem?_toArray, List.getElem?_cons_zero, List.getElem?_cons_succ] at r0' r1' r2'
  have HZ := hid (And.intro r0' (And.intro r1' (r2')))
  have HG := hid hg
  have HB1 := hid hb1
  clear hP hg hb1 hv HC zz r0' r1' r2'
  unfold MT.val
  go_wp2
  obtain ⟨r0', r1', r2'⟩ := HZ.out
  have hfin := But.sets3 w1 w.heap.size (.int .i64 (t.id : Int)) (.int .u32 (t.sum : Int)) (.slice t.rows.p t.rows.n t.rows.c)
  have hbf : Below w.heap.size w _ := (HA.out.trans (HB1.out.mono (by omega))).trans (hfin.below (by have := HB1.out.size; omega) (fun k hk e => by omega))
  refine bodyPost_ret (v := .tuple #[MT.val t, .int .i64 k]) (by simp [results, Tryz.results26, go_sem, MT.val, r0', r1', r2']) rfl ⟨t, k, rfl, hbf, ?_, HG.out.good, HG.out.more, HG.out.bad⟩
  exact MT.In.mono (S := fun b => (w.alloc (.cells #[.int .i64 0, .int .u32 0, .slice none 0 0] 41)).heap.size ≤ b) (MT.In.but HG.out.inn hfin (fun b hb _ e => by omega)) (fun b hb _ => by omega)
end Go.Proofs.YtfonicphdejdlaaGreat

namespace Go.Proofs.YtfonicphdejdlaaGreat
open Go.RowKit
set_option maxRecDepth 8000
/-- the thing with what was read -/
def thMT (k : Int) (t : MT) : Array Value := #[.int .i64 k, .string ⟨#[]⟩, .int .i64 0, .int .i64 0, .string ⟨#[]⟩, .slice none 0 0, .slice none 0 0, .int .i64 0, .slice none 0 0, .int .i64 0, .int .i64 0, .int .i64 0, .int .u32 0, .int .i64 0, .slice none 0 0, .int .i64 0, .slice none 0 0, .slice none 0 0, .slice none 0 0, .slice none 0 0, .int .i64 (t.id : Int), .int .u32 (t.sum : Int), .slice t.rows.p t.rows.n t.rows.c, .int .i64 0, .string ⟨#[]⟩, .int .i64 0, .int .i64 0, .string ⟨#[]⟩, .slice none 0 0, .slice none 0 0]
theorem thMT_size (k : Int) (t : MT) : (thMT k t).size = 30 := rfl
theorem thMT_one (k : Int) (t : MT) : (thMT k t).all (·.oneCell') = true := by simp [thMT, Value.oneCell']
set_option maxHeartbeats 8000000 in
theorem lawgetMan (w : World) (b : Value) (Q : World → MT → Int → World → Prop) (hQ : ∀ W t k w', Q W t k w' → Below W.heap.size W w') (H : ∀ W, Below w.heap.size w W → Calls Tryz.prog 26 #[b] W fun x w' => ∃ t k, x = .returned (.tuple #[MT.val t, .int .i64 k]) ∧ Q W t k w') : Calls Tryz.prog 12 #[.int .i64 4, b] w fun x w' => ∃ t e W w1, x = .returned (.tuple #[.agg (thMT 4 t), .int .i64 e]) ∧ Below w.heap.size w W ∧ W.heap.size = w.heap.size + 2 ∧ Q W t e w1 ∧ But (fun y => y = w.heap.size ∨ y = w.heap.size + 1) w1 w' := by
  obtain ⟨hz0, hz1, hz2, hz3⟩ := start_thing w 4
  have hBx : Box ((w.alloc (.cells zC 45)).alloc (.cells zC 45)) (w.heap.size + 1) zC 45 := heap_alloc2_new w _ _
  have HBx := hid hBx
  have HC := hid (H _ hz2)
  have HR0 := hid hz0
  have HT0 := hid hz1
  have HB0 := hid hz2
  have HZ := hid hz3
  unfold MT.val at HC
  clear hBx hz0 hz1 hz2 hz3 H
  go_enter Tryz.func12, Tryz.ntmps12
  go_wp2_with (refine wpList_store_row rfl 45 (.tmp 6) (.tmp 9) rfl (w.heap.size + 1) (kC 4) rfl rfl 45 zC HBx.out (by rw [info45]; rfl) rfl (kC_one 4) ?_)
  refine HC.out.mono ?_
  generalize hW : ((w.alloc (.cells zC 45)).alloc (.cells zC 45)).setRow (w.heap.size + 1) (kC 4) = W at *
  rintro x w1 ⟨t, e, rfl, hq⟩
  have hb1 := hQ _ _ _ _ hq
  have ht1 := HT0.out.below hb1
  have hr1 := HR0.out.below hb1
  have c0 := ht1.cell 20
  have f0 := ht1.frozen 20
  have c1 := ht1.cell 21
  have f1 := ht1.frozen 21
  have c2 := ht1.cell 22
  have f2 := ht1.frozen 22
  simp [kC] at c0 c1 c2
  have ht2 : Box (((w1.setCell ⟨w.heap.size + 1, 20, none⟩ (.int .i64 (t.id : Int))).setCell ⟨w.heap.size + 1, 21, none⟩ (.int .u32 (t.sum : Int))).setCell ⟨w.heap.size + 1, 22, none⟩ (.slice t.rows.p t.rows.n t.rows.c)) (w.heap.size + 1) (thMT 4 t) 45 := by
    have h := (((ht1.set 20 (.int .i64 (t.id : Int))).set 21 (.int .u32 (t.sum : Int))).set 22 (.slice t.rows.p t.rows.n t.rows.c))
    simpa [kC, thMT] using h
  have hk2 : But (fun y => y = w.heap.size + 1) w1 (((w1.setCell ⟨w.heap.size + 1, 20, none⟩ (.int .i64 (t.id : Int))).setCell ⟨w.heap.size + 1, 21, none⟩ (.int .u32 (t.sum : Int))).setCell ⟨w.heap.size + 1, 22, none⟩ (.slice t.rows.p t.rows.n t.rows.c)) := (((But.one w1 (w.heap.size + 1)).setAt 20 (.int .i64 (t.id : Int))).setAt 21 (.int .u32 (t.sum : Int))).setAt 22 (.slice t.rows.p t.rows.n t.rows.c)
  have hr2 := hr1.but hk2 (by omega)
  have HR2 := hid hr2
  have HT2 := hid ht2
  have HK2 := hid hk2
  have HQ := hid hq
  clear ht1 hr1 ht2 hr2 hk2 HC hb1 hq
  go_wp2_with fail
  refine get_tail _ _ _ _ _ _ _ _ _ _ _ _ _ _ _ _ _ _ _ _ _ _ _ _ _ _ _ _ _ _ _ _ _ _ _ _ _ _ _ _ _ _ _ _ _ _ (w.heap.size + 1) w.heap.size (by omega) (thMT 4 t) (thMT_size _ _) (thMT_one _ _) e _ _ _ _ HT2.out HR2.out _ ?_
  intro w3 hb3 hk3
  have HB3 := hid hb3
  have HK3 := hid hk3
  clear hb3 hk3
  go_wp2
  refine bodyPost_ret (v := .tuple #[.agg (thMT 4 t), .int .i64 e]) ?_ rfl ⟨t, e, W, w1, rfl, HB0.out, HZ.out, HQ.out, (HK2.out.mono (fun b _ h => Or.inr h)).trans (HK3.out.mono (fun b _ h => Or.inl h))⟩
  rw [results_cell_tmp rfl]
  have hld := run_loadVar_row (P := Tryz.prog) w3 w.heap.size 45 45 (thMT 4 t) (0, 0) _ HB3.out Tryz.underlying45 rfl (by rw [thMT_size]; exact info45)
  simp [asAddr, Result.andThen, hld]
end Go.Proofs.YtfonicphdejdlaaGreat

namespace Go.Proofs.YtfonicphdejdlaaGreat
open Go.RowKit
set_option maxRecDepth 8000
set_option maxHeartbeats 4000000 in
theorem lawputMan (t : MT) (w : World) (S : Nat → Prop) (hin : LT.In elRow w S t.rows) (hr : VM t) (hS : ∀ b, S b → b < w.heap.size) : Calls Tryz.prog 11 #[.agg (thMT 4 t)] w fun x w' => PutP (manB t) w x w' := by
  have ha : Below w.heap.size w (w.alloc (.cells (thMT 4 t) 45)) := (Below.refl _ _).alloc (Nat.le_refl _) _
  have hbx := Box.new w (thMT 4 t) 45
  have cc := (hbx.cell 0).trans (show (thMT 4 t)[0]? = some (.int .i64 4) from rfl)
  have c0 := (hbx.cell 20).trans (show (thMT 4 t)[20]? = some (.int .i64 (t.id : Int)) from rfl)
  have c1 := (hbx.cell 21).trans (show (thMT 4 t)[21]? = some (.int .u32 (t.sum : Int)) from rfl)
  have c2 := (hbx.cell 22).trans (show (thMT 4 t)[22]? = some (.slice t.rows.p t.rows.n t.rows.c) from rfl)
  have HC := hid (putMan_any t _ S (hin.below ha) hr (fun b hb => by have := hS b hb; have := ha.size; omega))
  have HA := hid ha
  unfold MT.val at HC
  clear hbx ha hS
  obtain ⟨cT, hcT⟩ : ∃ cT, cT = thMT 4 t := ⟨_, rfl⟩
  rw [← hcT] at HC HA ⊢
  rw [← hcT] at cc c0 c1 c2
  clear hcT
  go_enter Tryz.func11, Tryz.ntmps11
  go_wp2_with fail
  refine HC.out.mono ?_
  rintro x w1 ⟨v1, rfl, ho1, hb1⟩
  have HF := hid (And.intro (ho1.mono HA.out.size) (HA.out.trans (hb1.mono HA.out.size)))
  have HN := fun W => num_any 0 W
  clear ho1 hb1 HC
  go_wp2_with fail
  refine (HN _).mono ?_
  rintro x w2 ⟨rfl, hw2⟩
  subst w2
  go_wp2
  refine bodyPost_ret (v := .tuple #[v1, .int .i64 0]) (by simp [results, Tryz.results11, go_sem]) rfl ?_
  exact ⟨v1, rfl, HF.out.1, HF.out.2⟩
end Go.Proofs.YtfonicphdejdlaaGreat
