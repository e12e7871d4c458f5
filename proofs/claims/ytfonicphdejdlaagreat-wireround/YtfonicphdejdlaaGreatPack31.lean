import Derived.Test.YtfonicphdejdlaaGreatPack25
import Derived.Test.YtfonicphdejdlaaGreatWhSt
import Derived.Laws.ResultCell
import Derived.Test.YtfonicphdejdlaaGreatWpI
namespace Go.Proofs.YtfonicphdejdlaaGreat
open Go.RowKit
set_option maxRecDepth 8000
set_option maxHeartbeats 8000000 in
theorem getSt (w : World) (S : Nat → Prop) (p : Option Addr) (c : Nat) (B : List Int) (hB : Byts w S p B.length c (fun j => B.getD j 0)) (hS : ∀ b, S b → b < w.heap.size) : Calls Tryz.prog 24 #[.slice p B.length c] w fun x w' => ∃ t k, x = .returned (.tuple #[ST.val t, .int .i64 k]) ∧ GetP stateS ST.val noS ST.In2 (fun t y => ST.Alike y t) w B t k w' := by
  have ha : Below w.heap.size w (w.alloc (.cells #[.int .i64 0, .slice none 0 0] 30)) := (Below.refl _ _).alloc (Nat.le_refl _) _
  have hz0 : (w.alloc (.cells #[.int .i64 0, .slice none 0 0] 30)).heap.size = w.heap.size + 1 := by simp
  have HC := hid (wholeSt (w.alloc (.cells #[.int .i64 0, .slice none 0 0] 30)) S p c B (hB.kept ha.size fun b _ hl => ha.block b hl) (fun b hb => by have := hS b hb; omega))
  have HA := hid ha
  have HV := hid (Box.new w #[.int .i64 0, .slice none 0 0] 30)
  clear hB hS ha
  obtain ⟨n, hn⟩ : ∃ n, n = B.length := ⟨_, rfl⟩
  rw [← hn] at HC ⊢
  clear hn
  go_enter Tryz.func24, Tryz.ntmps24
  go_wp2_with fail
  refine HC.out.mono ?_
  intro x w1 hP
  obtain ⟨t, k, rfl, hg⟩ := WholeP.get (zero := noS) hP in_noS
  have hb1 := hg.bel
  have hv := HV.out.below hb1
  have c0 := hv.cell 0
  have f0 := hv.frozen 0
  have c1 := hv.cell 1
  have f1 := hv.frozen 1
  simp only [List.getElem?_toArray, List.getElem?_cons_zero, List.getElem?_cons_succ] at c0 c1
  have zz := set2_box hv (.int .i64 t.num) (.slice t.p t.n t.c)
  have r0' := zz.cell 0
  have r1' := zz.cell 1
  simp only [List.getElem?_toArray, List.getElem?_cons_zero, List.getElem?_cons_succ] at r0' r1'
  have HZ := hid (And.intro r0' (r1'))
  have HG := hid hg
  have HB1 := hid hb1
  clear hP hg hb1 hv HC zz r0' r1'
  unfold ST.val
  go_wp2
  obtain ⟨r0', r1'⟩ := HZ.out
  have hfin := But.sets2 w1 w.heap.size (.int .i64 t.num) (.slice t.p t.n t.c)
  have hbf : Below w.heap.size w _ := (HA.out.trans (HB1.out.mono (by omega))).trans (hfin.below (by have := HB1.out.size; omega) (fun k hk e => by omega))
  refine bodyPost_ret (v := .tuple #[ST.val t, .int .i64 k]) (by simp [results, Tryz.results24, go_sem, ST.val, r0', r1']) rfl ⟨t, k, rfl, hbf, ?_, HG.out.good, HG.out.more, HG.out.bad⟩
  exact ST.In2.mono (S := fun b => (w.alloc (.cells #[.int .i64 0, .slice none 0 0] 30)).heap.size ≤ b) (ST.In2.but HG.out.inn hfin (fun b hb _ e => by omega)) (fun b hb _ => by omega)
end Go.Proofs.YtfonicphdejdlaaGreat

namespace Go.Proofs.YtfonicphdejdlaaGreat
open Go.RowKit
set_option maxRecDepth 8000
/-- the thing with what was read -/
def thST (k : Int) (t : ST) : Array Value := #[.int .i64 k, .string ⟨#[]⟩, .int .i64 0, .int .i64 0, .string ⟨#[]⟩, .slice none 0 0, .slice none 0 0, .int .i64 t.num, .slice t.p t.n t.c, .int .i64 0, .int .i64 0, .int .i64 0, .int .u32 0, .int .i64 0, .slice none 0 0, .int .i64 0, .slice none 0 0, .slice none 0 0, .slice none 0 0, .slice none 0 0, .int .i64 0, .int .u32 0, .slice none 0 0, .int .i64 0, .string ⟨#[]⟩, .int .i64 0, .int .i64 0, .string ⟨#[]⟩, .slice none 0 0, .slice none 0 0]
theorem thST_size (k : Int) (t : ST) : (thST k t).size = 30 := rfl
theorem thST_one (k : Int) (t : ST) : (thST k t).all (·.oneCell') = true := by simp [thST, Value.oneCell']
set_option maxHeartbeats 8000000 in
theorem lawgetSt (w : World) (b : Value) (Q : World → ST → Int → World → Prop) (hQ : ∀ W t k w', Q W t k w' → Below W.heap.size W w') (H : ∀ W, Below w.heap.size w W → Calls Tryz.prog 24 #[b] W fun x w' => ∃ t k, x = .returned (.tuple #[ST.val t, .int .i64 k]) ∧ Q W t k w') : Calls Tryz.prog 12 #[.int .i64 2, b] w fun x w' => ∃ t e W w1, x = .returned (.tuple #[.agg (thST 2 t), .int .i64 e]) ∧ Below w.heap.size w W ∧ W.heap.size = w.heap.size + 2 ∧ Q W t e w1 ∧ But (fun y => y = w.heap.size ∨ y = w.heap.size + 1) w1 w' := by
  obtain ⟨hz0, hz1, hz2, hz3⟩ := start_thing w 2
  have hBx : Box ((w.alloc (.cells zC 45)).alloc (.cells zC 45)) (w.heap.size + 1) zC 45 := heap_alloc2_new w _ _
  have HBx := hid hBx
  have HC := hid (H _ hz2)
  have HR0 := hid hz0
  have HT0 := hid hz1
  have HB0 := hid hz2
  have HZ := hid hz3
  unfold ST.val at HC
  clear hBx hz0 hz1 hz2 hz3 H
  go_enter Tryz.func12, Tryz.ntmps12
  go_wp2_with (refine wpList_store_row rfl 45 (.tmp 6) (.tmp 9) rfl (w.heap.size + 1) (kC 2) rfl rfl 45 zC HBx.out (by rw [info45]; rfl) rfl (kC_one 2) ?_)
  refine HC.out.mono ?_
  generalize hW : ((w.alloc (.cells zC 45)).alloc (.cells zC 45)).setRow (w.heap.size + 1) (kC 2) = W at *
  rintro x w1 ⟨t, e, rfl, hq⟩
  have hb1 := hQ _ _ _ _ hq
  have ht1 := HT0.out.below hb1
  have hr1 := HR0.out.below hb1
  have c0 := ht1.cell 7
  have f0 := ht1.frozen 7
  have c1 := ht1.cell 8
  have f1 := ht1.frozen 8
  simp [kC] at c0 c1
  have ht2 : Box ((w1.setCell ⟨w.heap.size + 1, 7, none⟩ (.int .i64 t.num)).setCell ⟨w.heap.size + 1, 8, none⟩ (.slice t.p t.n t.c)) (w.heap.size + 1) (thST 2 t) 45 := by
    have h := ((ht1.set 7 (.int .i64 t.num)).set 8 (.slice t.p t.n t.c))
    simpa [kC, thST] using h
  have hk2 : But (fun y => y = w.heap.size + 1) w1 ((w1.setCell ⟨w.heap.size + 1, 7, none⟩ (.int .i64 t.num)).setCell ⟨w.heap.size + 1, 8, none⟩ (.slice t.p t.n t.c)) := ((But.one w1 (w.heap.size + 1)).setAt 7 (.int .i64 t.num)).setAt 8 (.slice t.p t.n t.c)
  have hr2 := hr1.but hk2 (by omega)
  have HR2 := hid hr2
  have HT2 := hid ht2
  have HK2 := hid hk2
  have HQ := hid hq
  clear ht1 hr1 ht2 hr2 hk2 HC hb1 hq
  go_wp2_with fail
  refine get_tail _ _ _ _ _ _ _ _ _ _ _ _ _ _ _ _ _ _ _ _ _ _ _ _ _ _ _ _ _ _ _ _ _ _ _ _ _ _ _ _ _ _ _ _ _ _ (w.heap.size + 1) w.heap.size (by omega) (thST 2 t) (thST_size _ _) (thST_one _ _) e _ _ _ _ HT2.out HR2.out _ ?_
  intro w3 hb3 hk3
  have HB3 := hid hb3
  have HK3 := hid hk3
  clear hb3 hk3
  go_wp2
  refine bodyPost_ret (v := .tuple #[.agg (thST 2 t), .int .i64 e]) ?_ rfl ⟨t, e, W, w1, rfl, HB0.out, HZ.out, HQ.out, (HK2.out.mono (fun b _ h => Or.inr h)).trans (HK3.out.mono (fun b _ h => Or.inl h))⟩
  rw [results_cell_tmp rfl]
  have hld := run_loadVar_row (P := Tryz.prog) w3 w.heap.size 45 45 (thST 2 t) (0, 0) _ HB3.out Tryz.underlying45 rfl (by rw [thST_size]; exact info45)
  simp [asAddr, Result.andThen, hld]
end Go.Proofs.YtfonicphdejdlaaGreat

namespace Go.Proofs.YtfonicphdejdlaaGreat
open Go.RowKit
set_option maxRecDepth 8000
set_option maxHeartbeats 4000000 in
theorem lawputSt (t : ST) (w : World) (S : Nat → Prop) (hin : ST.In2 w S t) (hr : chkState t = 0) (hS : ∀ b, S b → b < w.heap.size) : Calls Tryz.prog 11 #[.agg (thST 2 t)] w fun x w' => PutP (stateB t) w x w' := by
  have ha : Below w.heap.size w (w.alloc (.cells (thST 2 t) 45)) := (Below.refl _ _).alloc (Nat.le_refl _) _
  have hbx := Box.new w (thST 2 t) 45
  have cc := (hbx.cell 0).trans (show (thST 2 t)[0]? = some (.int .i64 2) from rfl)
  have c0 := (hbx.cell 7).trans (show (thST 2 t)[7]? = some (.int .i64 t.num) from rfl)
  have c1 := (hbx.cell 8).trans (show (thST 2 t)[8]? = some (.slice t.p t.n t.c) from rfl)
  have HC := hid (putSt_any t _ S (hin.below ha) hr (fun b hb => by have := hS b hb; have := ha.size; omega))
  have HA := hid ha
  unfold ST.val at HC
  clear hbx ha hS
  obtain ⟨cT, hcT⟩ : ∃ cT, cT = thST 2 t := ⟨_, rfl⟩
  rw [← hcT] at HC HA ⊢
  rw [← hcT] at cc c0 c1
  clear hcT
  go_enter Tryz.func11, Tryz.ntmps11
  go_wp2_with fail
  refine HC.out.mono ?_
  rintro x w1 ⟨v1, rfl, ho1, hb1⟩
  have HF := hid (And.intro (ho1.mono HA.out.size) (HA.out.trans (hb1.mono HA.out.size)))
  have HN := fun W => num_any 0 W
  clear ho1 hb1 HC
  go_wp2_with fail
  refine (HN _).mono ?_
  rintro x w2 ⟨rfl, hw2⟩
  subst w2
  go_wp2
  refine bodyPost_ret (v := .tuple #[v1, .int .i64 0]) (by simp [results, Tryz.results11, go_sem]) rfl ?_
  exact ⟨v1, rfl, HF.out.1, HF.out.2⟩
end Go.Proofs.YtfonicphdejdlaaGreat
