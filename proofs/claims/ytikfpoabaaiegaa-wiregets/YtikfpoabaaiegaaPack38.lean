import Derived.Test.YtikfpoabaaiegaaPack32
import Derived.Test.YtikfpoabaaiegaaWhRec
import Derived.Test.YtikfpoabaaiegaaPack36
import Derived.Laws.ResultCell
import Derived.Deep.DeepCutAuto
import Derived.Test.YtikfpoabaaiegaaPack12
namespace Go.Proofs.Ytikfpoabaaiegaa
open Go.RowKit
set_option maxRecDepth 8000
set_option maxHeartbeats 8000000 in
theorem getRec (w : World) (S : Nat → Prop) (p : Option Addr) (c : Nat) (B : List Int) (hB : Byts w S p B.length c (fun j => B.getD j 0)) (hS : ∀ b, S b → b < w.heap.size) : Calls Try.prog 33 #[.slice p B.length c] w fun x w' => ∃ t k, x = .returned (.tuple #[RT.val t, .int .i64 k]) ∧ GetP recS RT.val zRT RT.In (fun t y => RT.Alike y t) w B t k w' := by
  have ha : Below w.heap.size w (w.alloc (.cells #[.string ⟨#[]⟩, .int .i64 0, .int .i64 0, .string ⟨#[]⟩, .slice none 0 0, .slice none 0 0] 27)) := (Below.refl _ _).alloc (Nat.le_refl _) _
  have hz0 : (w.alloc (.cells #[.string ⟨#[]⟩, .int .i64 0, .int .i64 0, .string ⟨#[]⟩, .slice none 0 0, .slice none 0 0] 27)).heap.size = w.heap.size + 1 := by simp
  have HC := hid (wholeRec (w.alloc (.cells #[.string ⟨#[]⟩, .int .i64 0, .int .i64 0, .string ⟨#[]⟩, .slice none 0 0, .slice none 0 0] 27)) S p c B (hB.kept ha.size fun b _ hl => ha.block b hl) (fun b hb => by have := hS b hb; omega))
  have HA := hid ha
  have HV := hid (Box.new w #[.string ⟨#[]⟩, .int .i64 0, .int .i64 0, .string ⟨#[]⟩, .slice none 0 0, .slice none 0 0] 27)
  clear hB hS ha
  obtain ⟨n, hn⟩ : ∃ n, n = B.length := ⟨_, rfl⟩
  rw [← hn] at HC ⊢
  clear hn
  go_enter Try.func33, Try.ntmps33
  go_wp2_with fail
  refine HC.out.mono ?_
  intro x w1 hP
  obtain ⟨t, k, rfl, hg⟩ := WholeP.get (zero := zRT) hP in_zRT
  have hb1 := hg.bel
  have hv := HV.out.below hb1
  have c0 := hv.cell 0
  have f0 := hv.frozen 0
  have c1 := hv.cell 1
  have f1 := hv.frozen 1
  have c2 := hv.cell 2
  have f2 := hv.frozen 2
  have c3 := hv.cell 3
  have f3 := hv.frozen 3
  have c4 := hv.cell 4
  have f4 := hv.frozen 4
  have c5 := hv.cell 5
  have f5 := hv.frozen 5
  simp only [List.getElem?_toArray, List.getElem?_cons_zero, List.getElem?_cons_succ] at c0 c1 c2 c3 c4 c5
  have zz := set6_box hv (.string t.key) (.int .i64 t.v.kind) (.int .i64 t.v.int) (.string t.v.text) (.slice t.v.p t.v.n t.v.c) (.slice t.p t.n t.c)
  have r0' := zz.cell 0
  have r1' := zz.cell 1
  have r2' := zz.cell 2
  have r3' := zz.cell 3
  have r4' := zz.cell 4
  have r5' := zz.cell 5
  simp only [List.getElem?_toArray, List.getElem?_cons_zero, List.getElem?_cons_succ] at r0' r1' r2' r3' r4' r5'
  have HZ := hid (And.intro r0' (And.intro r1' (And.intro r2' (And.intro r3' (And.intro r4' (r5'))))))
  have HG := hid hg
  have HB1 := hid hb1
  clear hP hg hb1 hv HC zz r0' r1' r2' r3' r4' r5'
  unfold RT.val
  go_wp2
  obtain ⟨r0', r1', r2', r3', r4', r5'⟩ := HZ.out
  have hfin := But.sets6 w1 w.heap.size (.string t.key) (.int .i64 t.v.kind) (.int .i64 t.v.int) (.string t.v.text) (.slice t.v.p t.v.n t.v.c) (.slice t.p t.n t.c)
  have hbf : Below w.heap.size w _ := (HA.out.trans (HB1.out.mono (by omega))).trans (hfin.below (by have := HB1.out.size; omega) (fun k hk e => by omega))
  refine bodyPost_ret (v := .tuple #[RT.val t, .int .i64 k]) (by simp [results, Try.results33, go_sem, RT.val, r0', r1', r2', r3', r4', r5']) rfl ⟨t, k, rfl, hbf, ?_, HG.out.good, HG.out.more, HG.out.bad⟩
  exact RT.In.mono (S := fun b => (w.alloc (.cells #[.string ⟨#[]⟩, .int .i64 0, .int .i64 0, .string ⟨#[]⟩, .slice none 0 0, .slice none 0 0] 27)).heap.size ≤ b) (RT.In.but HG.out.inn hfin (fun b hb _ e => by omega)) (fun b hb _ => by omega)
end Go.Proofs.Ytikfpoabaaiegaa

namespace Go.Proofs.Ytikfpoabaaiegaa
open Go.RowKit
set_option maxRecDepth 8000
def thRT (k : Int) (t : RT) : Array Value := #[.int .i64 k, .string t.key, .int .i64 t.v.kind, .int .i64 t.v.int, .string t.v.text, .slice t.v.p t.v.n t.v.c, .slice t.p t.n t.c, .int .i64 0, .slice none 0 0, .int .i64 0, .int .i64 0, .int .i64 0, .int .u32 0, .int .i64 0, .slice none 0 0, .int .i64 0, .slice none 0 0, .slice none 0 0, .slice none 0 0, .slice none 0 0, .int .i64 0, .int .u32 0, .slice none 0 0, .int .i64 0, .string ⟨#[]⟩, .int .i64 0, .int .i64 0, .string ⟨#[]⟩, .slice none 0 0, .slice none 0 0]
theorem thRT_size (k : Int) (t : RT) : (thRT k t).size = 30 := rfl
theorem thRT_one (k : Int) (t : RT) : (thRT k t).all (·.oneCell') = true := by simp [thRT, Value.oneCell']
set_option maxHeartbeats 8000000 in
theorem lawgetRec (k : Int) (hk2 : k ≠ 2) (hk3 : k ≠ 3) (hk4 : k ≠ 4) (hk5 : k ≠ 5) (w : World) (b : Value) (Q : World → RT → Int → World → Prop) (hQ : ∀ W t k w', Q W t k w' → Below W.heap.size W w') (H : ∀ W, Below w.heap.size w W → Calls Try.prog 33 #[b] W fun x w' => ∃ t k, x = .returned (.tuple #[RT.val t, .int .i64 k]) ∧ Q W t k w') : Calls Try.prog 10 #[.int .i64 k, b] w fun x w' => ∃ t e W w1, x = .returned (.tuple #[.agg (thRT k t), .int .i64 e]) ∧ Below w.heap.size w W ∧ W.heap.size = w.heap.size + 2 ∧ Q W t e w1 ∧ But (fun y => y = w.heap.size ∨ y = w.heap.size + 1) w1 w' := by
  obtain ⟨hz0, hz1, hz2, hz3⟩ := start_thing w k
  have hBx : Box ((w.alloc (.cells zC 45)).alloc (.cells zC 45)) (w.heap.size + 1) zC 45 := heap_alloc2_new w _ _
  have HBx := hid hBx
  have HC := hid (H _ hz2)
  have HR0 := hid hz0
  have HT0 := hid hz1
  have HB0 := hid hz2
  have HZ := hid hz3
  have q2 : (k == 2) = false := by simpa using hk2
  have q3 : (k == 3) = false := by simpa using hk3
  have q4 : (k == 4) = false := by simpa using hk4
  have q5 : (k == 5) = false := by simpa using hk5
  unfold RT.val at HC
  clear hBx hz0 hz1 hz2 hz3 H hk2 hk3 hk4 hk5
  go_enter Try.func10, Try.ntmps10
  go_wp2_with (refine wpList_store_row rfl 45 (.tmp 6) (.tmp 9) rfl (w.heap.size + 1) (kC k) rfl rfl 45 zC HBx.out (by rw [info45]; rfl) rfl (kC_one k) ?_)
  refine HC.out.mono ?_
  generalize hW : ((w.alloc (.cells zC 45)).alloc (.cells zC 45)).setRow (w.heap.size + 1) (kC k) = W at *
  rintro x w1 ⟨t, e, rfl, hq⟩
  have hb1 := hQ _ _ _ _ hq
  have ht1 := HT0.out.below hb1
  have hr1 := HR0.out.below hb1
  have c0 := ht1.cell 1
  have f0 := ht1.frozen 1
  have c1 := ht1.cell 2
  have f1 := ht1.frozen 2
  have c2 := ht1.cell 3
  have f2 := ht1.frozen 3
  have c3 := ht1.cell 4
  have f3 := ht1.frozen 4
  have c4 := ht1.cell 5
  have f4 := ht1.frozen 5
  have c5 := ht1.cell 6
  have f5 := ht1.frozen 6
  simp [kC] at c0 c1 c2 c3 c4 c5
  have ht2 : Box ((((((w1.setCell ⟨w.heap.size + 1, 1, none⟩ (.string t.key)).setCell ⟨w.heap.size + 1, 2, none⟩ (.int .i64 t.v.kind)).setCell ⟨w.heap.size + 1, 3, none⟩ (.int .i64 t.v.int)).setCell ⟨w.heap.size + 1, 4, none⟩ (.string t.v.text)).setCell ⟨w.heap.size + 1, 5, none⟩ (.slice t.v.p t.v.n t.v.c)).setCell ⟨w.heap.size + 1, 6, none⟩ (.slice t.p t.n t.c)) (w.heap.size + 1) (thRT k t) 45 := by
    have h := ((((((ht1.set 1 (.string t.key)).set 2 (.int .i64 t.v.kind)).set 3 (.int .i64 t.v.int)).set 4 (.string t.v.text)).set 5 (.slice t.v.p t.v.n t.v.c)).set 6 (.slice t.p t.n t.c))
    simpa [kC, thRT] using h
  have hk2 : But (fun y => y = w.heap.size + 1) w1 ((((((w1.setCell ⟨w.heap.size + 1, 1, none⟩ (.string t.key)).setCell ⟨w.heap.size + 1, 2, none⟩ (.int .i64 t.v.kind)).setCell ⟨w.heap.size + 1, 3, none⟩ (.int .i64 t.v.int)).setCell ⟨w.heap.size + 1, 4, none⟩ (.string t.v.text)).setCell ⟨w.heap.size + 1, 5, none⟩ (.slice t.v.p t.v.n t.v.c)).setCell ⟨w.heap.size + 1, 6, none⟩ (.slice t.p t.n t.c)) := ((((((But.one w1 (w.heap.size + 1)).setAt 1 (.string t.key)).setAt 2 (.int .i64 t.v.kind)).setAt 3 (.int .i64 t.v.int)).setAt 4 (.string t.v.text)).setAt 5 (.slice t.v.p t.v.n t.v.c)).setAt 6 (.slice t.p t.n t.c)
  have hr2 := hr1.but hk2 (by omega)
  have HR2 := hid hr2
  have HT2 := hid ht2
  have HK2 := hid hk2
  have HQ := hid hq
  clear ht1 hr1 ht2 hr2 hk2 HC hb1 hq
  go_wp2_with fail
  refine get_tail _ _ _ _ _ _ _ _ _ _ _ _ _ _ _ _ _ _ _ _ _ _ _ _ _ _ _ _ _ _ _ _ _ _ _ _ _ _ _ _ _ _ _ _ _ _ (w.heap.size + 1) w.heap.size (by omega) (thRT k t) (thRT_size _ _) (thRT_one _ _) e _ _ _ _ HT2.out HR2.out _ ?_
  intro w3 hb3 hk3
  have HB3 := hid hb3
  have HK3 := hid hk3
  clear hb3 hk3
  go_wp2
  refine bodyPost_ret (v := .tuple #[.agg (thRT k t), .int .i64 e]) ?_ rfl ⟨t, e, W, w1, rfl, HB0.out, HZ.out, HQ.out, (HK2.out.mono (fun b _ h => Or.inr h)).trans (HK3.out.mono (fun b _ h => Or.inl h))⟩
  rw [results_cell_tmp rfl]
  have hld := run_loadVar_row (P := Try.prog) w3 w.heap.size 45 45 (thRT k t) (0, 0) _ HB3.out Try.underlying45 rfl (by rw [thRT_size]; exact info45)
  simp [asAddr, Result.andThen, hld]
end Go.Proofs.Ytikfpoabaaiegaa

namespace Go.Proofs.Ytikfpoabaaiegaa
open Go.RowKit
set_option maxRecDepth 8000
set_option maxHeartbeats 8000000 in
theorem lawrgetRec (k : Int) (hk2 : k ≠ 2) (hk3 : k ≠ 3) (hk4 : k ≠ 4) (hk5 : k ≠ 5) (w : World) (b : Value) (Q : World → RT → Int → World → Prop) (hQ : ∀ W t k w', Q W t k w' → Below W.heap.size W w') (H : ∀ W, Below w.heap.size w W → Calls Try.prog 28 #[b] W fun x w' => ∃ t k, x = .returned (.tuple #[RT.val t, .int .i64 k]) ∧ Q W t k w') : Calls Try.prog 9 #[.int .i64 k, b] w fun x w' => ∃ t e W w1, x = .returned (.tuple #[.agg (thRT k t), .int .i64 e]) ∧ Below w.heap.size w W ∧ W.heap.size = w.heap.size + 2 ∧ Q W t e w1 ∧ But (fun y => y = w.heap.size ∨ y = w.heap.size + 1) w1 w' := by
  obtain ⟨hz0, hz1, hz2, hz3⟩ := start_thing w k
  have hBx : Box ((w.alloc (.cells zC 45)).alloc (.cells zC 45)) (w.heap.size + 1) zC 45 := heap_alloc2_new w _ _
  have HBx := hid hBx
  have HC := hid (H _ hz2)
  have HR0 := hid hz0
  have HT0 := hid hz1
  have HB0 := hid hz2
  have HZ := hid hz3
  have q2 : (k == 2) = false := by simpa using hk2
  have q3 : (k == 3) = false := by simpa using hk3
  have q4 : (k == 4) = false := by simpa using hk4
  have q5 : (k == 5) = false := by simpa using hk5
  unfold RT.val at HC
  clear hBx hz0 hz1 hz2 hz3 H hk2 hk3 hk4 hk5
  go_enter Try.func9, Try.ntmps9
  go_wp2_with (refine wpList_store_row rfl 45 (.tmp 6) (.tmp 9) rfl (w.heap.size + 1) (kC k) rfl rfl 45 zC HBx.out (by rw [info45]; rfl) rfl (kC_one k) ?_)
  refine HC.out.mono ?_
  generalize hW : ((w.alloc (.cells zC 45)).alloc (.cells zC 45)).setRow (w.heap.size + 1) (kC k) = W at *
  rintro x w1 ⟨t, e, rfl, hq⟩
  have hb1 := hQ _ _ _ _ hq
  have ht1 := HT0.out.below hb1
  have hr1 := HR0.out.below hb1
  have c0 := ht1.cell 1
  have f0 := ht1.frozen 1
  have c1 := ht1.cell 2
  have f1 := ht1.frozen 2
  have c2 := ht1.cell 3
  have f2 := ht1.frozen 3
  have c3 := ht1.cell 4
  have f3 := ht1.frozen 4
  have c4 := ht1.cell 5
  have f4 := ht1.frozen 5
  have c5 := ht1.cell 6
  have f5 := ht1.frozen 6
  simp [kC] at c0 c1 c2 c3 c4 c5
  have ht2 : Box ((((((w1.setCell ⟨w.heap.size + 1, 1, none⟩ (.string t.key)).setCell ⟨w.heap.size + 1, 2, none⟩ (.int .i64 t.v.kind)).setCell ⟨w.heap.size + 1, 3, none⟩ (.int .i64 t.v.int)).setCell ⟨w.heap.size + 1, 4, none⟩ (.string t.v.text)).setCell ⟨w.heap.size + 1, 5, none⟩ (.slice t.v.p t.v.n t.v.c)).setCell ⟨w.heap.size + 1, 6, none⟩ (.slice t.p t.n t.c)) (w.heap.size + 1) (thRT k t) 45 := by
    have h := ((((((ht1.set 1 (.string t.key)).set 2 (.int .i64 t.v.kind)).set 3 (.int .i64 t.v.int)).set 4 (.string t.v.text)).set 5 (.slice t.v.p t.v.n t.v.c)).set 6 (.slice t.p t.n t.c))
    simpa [kC, thRT] using h
  have hk2 : But (fun y => y = w.heap.size + 1) w1 ((((((w1.setCell ⟨w.heap.size + 1, 1, none⟩ (.string t.key)).setCell ⟨w.heap.size + 1, 2, none⟩ (.int .i64 t.v.kind)).setCell ⟨w.heap.size + 1, 3, none⟩ (.int .i64 t.v.int)).setCell ⟨w.heap.size + 1, 4, none⟩ (.string t.v.text)).setCell ⟨w.heap.size + 1, 5, none⟩ (.slice t.v.p t.v.n t.v.c)).setCell ⟨w.heap.size + 1, 6, none⟩ (.slice t.p t.n t.c)) := ((((((But.one w1 (w.heap.size + 1)).setAt 1 (.string t.key)).setAt 2 (.int .i64 t.v.kind)).setAt 3 (.int .i64 t.v.int)).setAt 4 (.string t.v.text)).setAt 5 (.slice t.v.p t.v.n t.v.c)).setAt 6 (.slice t.p t.n t.c)
  have hr2 := hr1.but hk2 (by omega)
  have HR2 := hid hr2
  have HT2 := hid ht2
  have HK2 := hid hk2
  have HQ := hid hq
  clear ht1 hr1 ht2 hr2 hk2 HC hb1 hq
  go_upto_region 13 with fail
  go_wp2_with (first | (refine wpList_load_row rfl 45 (.tmp 6) rfl (w.heap.size + 1) rfl 45 (thRT k t) (0, 0) _ HT2.out Try.underlying45 rfl (by rw [info45, thRT_size]) ?_) | (refine wpList_store_any rfl 45 (.tmp 4) (.tmp 49) rfl w.heap.size (thRT k t) rfl rfl 45 zC HR2.out (by rw [info45, thRT_size]) (by rw [thRT_size]; rfl) (thRT_one _ _) ?_))
  intro w3 hb3 hk3
  have HB3 := hid hb3
  have HK3 := hid hk3
  clear hb3 hk3
  go_wp2
  refine bodyPost_ret (v := .tuple #[.agg (thRT k t), .int .i64 e]) ?_ rfl ⟨t, e, W, w1, rfl, HB0.out, HZ.out, HQ.out, (HK2.out.mono (fun b _ h => Or.inr h)).trans (HK3.out.mono (fun b _ h => Or.inl h))⟩
  rw [results_cell_tmp rfl]
  have hld := run_loadVar_row (P := Try.prog) w3 w.heap.size 45 45 (thRT k t) (0, 0) _ HB3.out Try.underlying45 rfl (by rw [thRT_size]; exact info45)
  simp [asAddr, Result.andThen, hld]
end Go.Proofs.Ytikfpoabaaiegaa

namespace Go.Proofs.Ytikfpoabaaiegaa
open Go.RowKit
set_option maxRecDepth 8000
set_option maxHeartbeats 8000000 in
theorem wholeSt (w : World) (S : Nat → Prop) (p : Option Addr) (c : Nat) (B : List Int) (hB : Byts w S p B.length c (fun j => B.getD j 0)) (hS : ∀ b, S b → b < w.heap.size) : Calls Try.prog 74 #[.slice p B.length c, .func (.func 75) #[] #[]] w fun x w' => WholeP stateS ST.val (.agg #[.int .i64 0, .slice none 0 0]) ST.In2 (fun t y => ST.Alike y t) w B x w' := by
  have hp : p = none → B.length = 0 := fun h => (hB.nil h).1
  obtain ⟨hrd, hv0, hb0, hz0⟩ := rdr_start (A := #[.int .i64 0, .slice none 0 0]) (t := 30) hB hS hp
  obtain ⟨W0, hW0⟩ : ∃ W0, W0 = (w.alloc (.cells #[.int .i64 0, .slice none 0 0] 30)).alloc (.cells #[.slice p B.length B.length, .int .i64 0] 187) := ⟨_, rfl⟩
  rw [← hW0] at hrd hv0 hb0 hz0
  have HC := hid (wrState_any W0 S (w.heap.size + 1) B 0 (fun b hb => by have := hS b hb; omega) hrd)
  have HV0 := hid hv0
  have HB0 := hid hb0
  have HZ0 := hid hz0
  have hnc := hB.nc
  have hcc := hB.cc
  have hnil := hB.nil
  clear hB hrd hv0 hb0 hz0
  cases p with
  | none =>
    obtain ⟨h0, rfl⟩ := hnil rfl
    have hB0 : B = [] := List.eq_nil_of_length_eq_zero h0
    subst hB0
    clear hnc hcc hnil h0 hp
    simp only [List.length_nil] at hW0 ⊢
    rw [hW0] at HC
    go_enter Try.func74, Try.ntmps74
    go_wp2_with fail
    refine HC.out.mono ?_
    rw [← hW0]
    rintro x V ⟨t, R, e1, rfl, hin, ⟨hr, hd, hk⟩⟩
    clear HC
    have hvV := HV0.out.but hk (by omega)
    obtain ⟨⟨p2, hx2, hy2⟩, ho2⟩ := id hd
    have x0 := hx2.cell 0
    have x1 := hx2.cell 1
    simp at x0 x1
    have hsV := hk.size
    have hz0 := HZ0.out
    have hbt : Below V.heap.size V (V.alloc (.cells #[.int .i64 t.num, .slice t.p t.n t.c] 30)) := (Below.refl _ _).alloc (Nat.le_refl _) _
    have hbl : Below w.heap.size w (V.alloc (.cells #[.int .i64 t.num, .slice t.p t.n t.c] 30)) := (HB0.out.trans (hk.below (by omega) (fun k hk e => by omega))).trans (hbt.mono (by omega))
    have hxW := hx2.below hbt
    have x0 := hxW.cell 0
    have x1 := hxW.cell 1
    simp only [List.getElem?_toArray, List.getElem?_cons_zero, List.getElem?_cons_succ] at x0 x1
    have HxW := hid hxW
    clear hxW
    have hvW := hvV.below hbt
    have HVW := hid hvW
    have HvV := hid hvV
    have HRd := hid (hd.below hbt)
    have HRr := hid hr
    have HIn : Hid (ST.In2 (V.alloc (.cells #[.int .i64 t.num, .slice t.p t.n t.c] 30)) (fun b => w.heap.size + 2 ≤ b) t) := ((ST.In2.mono (S' := fun b => w.heap.size + 2 ≤ b) hin (fun b hb _ => by omega)).below hbt)
    have HBl := hid hbl
    have hzt : (V.alloc (.cells #[.int .i64 t.num, .slice t.p t.n t.c] 30)).heap.size = V.heap.size + 1 := by simp
    obtain ⟨m, hm⟩ : ∃ m, m = R.length := ⟨_, rfl⟩
    rw [← hm] at x0
    have HMm := hid hm
    clear hm
    clear hd hx2 hy2 hbl hbt hvV hin hr hk
    unfold ST.val
    by_cases h1 : m = 0
    · have hR : R = [] := List.eq_nil_of_length_eq_zero (by rw [← HMm.out]; exact h1)
      subst hR
      subst h1
      by_cases he : e1 = 0
      · subst he
        have v0 := HVW.out.cell 0
        have vf0 := HVW.out.frozen 0
        simp at v0
        have v1 := HVW.out.cell 1
        have vf1 := HVW.out.frozen 1
        simp at v1
        have zz := set2_box HVW.out (.int .i64 t.num) (.slice t.p t.n t.c)
        have r0' := zz.cell 0
        have r1' := zz.cell 1
        simp only [List.getElem?_toArray, List.getElem?_cons_zero, List.getElem?_cons_succ] at r0' r1'
        have HZ := hid (And.intro r0' (r1'))
        clear zz r0' r1'
        clear hvW
        go_wp2
        obtain ⟨r0', r1'⟩ := HZ.out
        have hfin := But.sets2 (V.alloc (.cells #[.int .i64 t.num, .slice t.p t.n t.c] 30)) w.heap.size (.int .i64 t.num) (.slice t.p t.n t.c)
        have hbf : Below w.heap.size w _ := HBl.out.trans (hfin.below (by omega) (fun k hk e => by omega))
        refine bodyPost_ret (v := .tuple #[ST.val t, .int .i64 0]) (by simp [results, Try.results74, go_sem, ST.val, r0', r1']) rfl ⟨hbf, fun y hy => ⟨t, rfl, ST.In2.mono (S := fun b => w.heap.size + 2 ≤ b) (HIn.out.but hfin (fun b hb _ e => by omega)) (fun b hb _ => by omega), (HRr.out.good rfl y [] hy).2.2⟩, fun y z R hy => (by have := (HRr.out.good rfl y _ hy).1; cases this), fun k hk => absurd rfl (HRr.out.bad rfl k hk).2⟩
      · have he' : (e1 == 0) = false := by simpa using he
        have hxE := HxW.out
        have hbz := (Below.refl (V.alloc (.cells #[.int .i64 t.num, .slice t.p t.n t.c] 30)).heap.size (V.alloc (.cells #[.int .i64 t.num, .slice t.p t.n t.c] 30))).alloc (Nat.le_refl _) (.cells #[.int .i64 0, .slice none 0 0] 30)
        have HVz := hid (hvW.below hbz)
        have v0 := HVz.out.cell 0
        have vf0 := HVz.out.frozen 0
        simp at v0
        have v1 := HVz.out.cell 1
        have vf1 := HVz.out.frozen 1
        simp at v1
        have z1 := (hxE.below hbz).cell 1
        simp only [List.getElem?_toArray, List.getElem?_cons_zero, List.getElem?_cons_succ] at z1
        have zz := set2_box HVz.out (.int .i64 0) (.slice none 0 0)
        have r0' := zz.cell 0
        have r1' := zz.cell 1
        simp only [List.getElem?_toArray, List.getElem?_cons_zero, List.getElem?_cons_succ] at r0' r1'
        have HZ := hid (And.intro r0' (r1'))
        clear zz r0' r1'
        have HBz := hid hbz
        clear hbz hvW hxE
        go_wp2_with fail
        go_region
        go_wp2
        obtain ⟨r0', r1'⟩ := HZ.out
        have hfin := (But.sets2 ((V.alloc (.cells #[.int .i64 t.num, .slice t.p t.n t.c] 30)).alloc (.cells #[.int .i64 0, .slice none 0 0] 30)) w.heap.size (.int .i64 0) (.slice none 0 0)).drew
        have hbf : Below w.heap.size w _ := (HBl.out.trans (HBz.out.mono (by omega))).trans (hfin.below (by have := HBz.out.size; omega) (fun k hk e => by omega))
        refine bodyPost_ret (v := .tuple #[.agg #[.int .i64 0, .slice none 0 0], .int .i64 e1]) (by simp [results, Try.results74, go_sem, r0', r1']) rfl ⟨hbf, fun y hy => absurd (HRr.out.good rfl y _ hy).2.1 he, fun y z R hy => absurd (HRr.out.good rfl y _ hy).2.1 he, fun k hk => ⟨by rw [(HRr.out.bad rfl k hk).1], fun h0 => he (by rw [(HRr.out.bad rfl k hk).1, h0]; rfl)⟩⟩
    · have h1' : (0 : Int) < (m : Int) := by omega
      have HF := hid (wrFail_any (V.alloc (.cells #[.int .i64 t.num, .slice t.p t.n t.c] 30)) S (w.heap.size + 1) R e1 44 HRd.out)
      go_wp2_with fail
      refine HF.out.mono ?_
      rintro x V2 ⟨rfl, hd2, hk2⟩
      clear HF hvW
      have hvW := HVW.out.but hk2 (by omega)
      obtain ⟨⟨p3, hx3, hy3⟩, ho3⟩ := id hd2
      have y1 := hx3.cell 1
      simp only [List.getElem?_toArray, List.getElem?_cons_zero, List.getElem?_cons_succ] at y1
      have hs2 := hk2.size
      have hbl2 : Below w.heap.size w V2 := HBl.out.trans (hk2.below (by omega) (fun k hk e => by omega))
      clear HBl
      have HBl := hid hbl2
      have hne : (if e1 = 0 then (44 : Int) else e1) ≠ 0 := by split <;> omega
      have hE : ∃ E, E = (if e1 = 0 then (44 : Int) else e1) := ⟨_, rfl⟩
      obtain ⟨E, hE⟩ := hE
      rw [← hE] at y1 hne hx3
      have hne' : (E == 0) = false := by simpa using hne
      have HE := hid hE
      clear hE
      have hxE := hx3
      clear hd2 hk2 hx3 hy3 hbl2 x0 x1
      have hbz := (Below.refl V2.heap.size V2).alloc (Nat.le_refl _) (.cells #[.int .i64 0, .slice none 0 0] 30)
      have HVz := hid (hvW.below hbz)
      have v0 := HVz.out.cell 0
      have vf0 := HVz.out.frozen 0
      simp at v0
      have v1 := HVz.out.cell 1
      have vf1 := HVz.out.frozen 1
      simp at v1
      have z1 := (hxE.below hbz).cell 1
      simp only [List.getElem?_toArray, List.getElem?_cons_zero, List.getElem?_cons_succ] at z1
      have zz := set2_box HVz.out (.int .i64 0) (.slice none 0 0)
      have r0' := zz.cell 0
      have r1' := zz.cell 1
      simp only [List.getElem?_toArray, List.getElem?_cons_zero, List.getElem?_cons_succ] at r0' r1'
      have HZ := hid (And.intro r0' (r1'))
      clear zz r0' r1'
      have HBz := hid hbz
      clear hbz hvW hxE
      go_wp2_with fail
      go_region
      go_wp2
      obtain ⟨r0', r1'⟩ := HZ.out
      have hfin := (But.sets2 (V2.alloc (.cells #[.int .i64 0, .slice none 0 0] 30)) w.heap.size (.int .i64 0) (.slice none 0 0)).drew
      have hbf : Below w.heap.size w _ := (HBl.out.trans (HBz.out.mono (by omega))).trans (hfin.below (by have := HBz.out.size; omega) (fun k hk e => by omega))
      refine bodyPost_ret (v := .tuple #[.agg #[.int .i64 0, .slice none 0 0], .int .i64 E]) (by simp [results, Try.results74, go_sem, r0', r1']) rfl ⟨hbf, fun y hy => (by have h2 := (HRr.out.good rfl y _ hy).1; rw [h2] at HMm; exact absurd HMm.out h1), fun y z R2 hy => (by rw [HE.out, if_pos (HRr.out.good rfl y _ hy).2.1]), fun k hk => ⟨by rw [HE.out, if_neg (HRr.out.bad rfl k hk).2, (HRr.out.bad rfl k hk).1], fun h0 => (HRr.out.bad rfl k hk).2 (by rw [(HRr.out.bad rfl k hk).1, h0]; rfl)⟩⟩
  | some ad =>
    clear hnil hp
    obtain ⟨n, hn⟩ : ∃ n, n = B.length := ⟨_, rfl⟩
    rw [← hn] at hnc hW0 ⊢
    have HN := hid hn
    clear hn
    rw [hW0] at HC
    go_enter Try.func74, Try.ntmps74
    go_wp2_with fail
    refine HC.out.mono ?_
    rw [← hW0]
    rintro x V ⟨t, R, e1, rfl, hin, ⟨hr, hd, hk⟩⟩
    clear HC
    have hvV := HV0.out.but hk (by omega)
    obtain ⟨⟨p2, hx2, hy2⟩, ho2⟩ := id hd
    have x0 := hx2.cell 0
    have x1 := hx2.cell 1
    simp at x0 x1
    have hsV := hk.size
    have hz0 := HZ0.out
    have hbt : Below V.heap.size V (V.alloc (.cells #[.int .i64 t.num, .slice t.p t.n t.c] 30)) := (Below.refl _ _).alloc (Nat.le_refl _) _
    have hbl : Below w.heap.size w (V.alloc (.cells #[.int .i64 t.num, .slice t.p t.n t.c] 30)) := (HB0.out.trans (hk.below (by omega) (fun k hk e => by omega))).trans (hbt.mono (by omega))
    have hxW := hx2.below hbt
    have x0 := hxW.cell 0
    have x1 := hxW.cell 1
    simp only [List.getElem?_toArray, List.getElem?_cons_zero, List.getElem?_cons_succ] at x0 x1
    have HxW := hid hxW
    clear hxW
    have hvW := hvV.below hbt
    have HVW := hid hvW
    have HvV := hid hvV
    have HRd := hid (hd.below hbt)
    have HRr := hid hr
    have HIn : Hid (ST.In2 (V.alloc (.cells #[.int .i64 t.num, .slice t.p t.n t.c] 30)) (fun b => w.heap.size + 2 ≤ b) t) := ((ST.In2.mono (S' := fun b => w.heap.size + 2 ≤ b) hin (fun b hb _ => by omega)).below hbt)
    have HBl := hid hbl
    have hzt : (V.alloc (.cells #[.int .i64 t.num, .slice t.p t.n t.c] 30)).heap.size = V.heap.size + 1 := by simp
    obtain ⟨m, hm⟩ : ∃ m, m = R.length := ⟨_, rfl⟩
    rw [← hm] at x0
    have HMm := hid hm
    clear hm
    clear hd hx2 hy2 hbl hbt hvV hin hr hk
    unfold ST.val
    by_cases h1 : m = 0
    · have hR : R = [] := List.eq_nil_of_length_eq_zero (by rw [← HMm.out]; exact h1)
      subst hR
      subst h1
      by_cases he : e1 = 0
      · subst he
        have v0 := HVW.out.cell 0
        have vf0 := HVW.out.frozen 0
        simp at v0
        have v1 := HVW.out.cell 1
        have vf1 := HVW.out.frozen 1
        simp at v1
        have zz := set2_box HVW.out (.int .i64 t.num) (.slice t.p t.n t.c)
        have r0' := zz.cell 0
        have r1' := zz.cell 1
        simp only [List.getElem?_toArray, List.getElem?_cons_zero, List.getElem?_cons_succ] at r0' r1'
        have HZ := hid (And.intro r0' (r1'))
        clear zz r0' r1'
        clear hvW
        go_wp2
        obtain ⟨r0', r1'⟩ := HZ.out
        have hfin := But.sets2 (V.alloc (.cells #[.int .i64 t.num, .slice t.p t.n t.c] 30)) w.heap.size (.int .i64 t.num) (.slice t.p t.n t.c)
        have hbf : Below w.heap.size w _ := HBl.out.trans (hfin.below (by omega) (fun k hk e => by omega))
        refine bodyPost_ret (v := .tuple #[ST.val t, .int .i64 0]) (by simp [results, Try.results74, go_sem, ST.val, r0', r1']) rfl ⟨hbf, fun y hy => ⟨t, rfl, ST.In2.mono (S := fun b => w.heap.size + 2 ≤ b) (HIn.out.but hfin (fun b hb _ e => by omega)) (fun b hb _ => by omega), (HRr.out.good rfl y [] hy).2.2⟩, fun y z R hy => (by have := (HRr.out.good rfl y _ hy).1; cases this), fun k hk => absurd rfl (HRr.out.bad rfl k hk).2⟩
      · have he' : (e1 == 0) = false := by simpa using he
        have hxE := HxW.out
        have hbz := (Below.refl (V.alloc (.cells #[.int .i64 t.num, .slice t.p t.n t.c] 30)).heap.size (V.alloc (.cells #[.int .i64 t.num, .slice t.p t.n t.c] 30))).alloc (Nat.le_refl _) (.cells #[.int .i64 0, .slice none 0 0] 30)
        have HVz := hid (hvW.below hbz)
        have v0 := HVz.out.cell 0
        have vf0 := HVz.out.frozen 0
        simp at v0
        have v1 := HVz.out.cell 1
        have vf1 := HVz.out.frozen 1
        simp at v1
        have z1 := (hxE.below hbz).cell 1
        simp only [List.getElem?_toArray, List.getElem?_cons_zero, List.getElem?_cons_succ] at z1
        have zz := set2_box HVz.out (.int .i64 0) (.slice none 0 0)
        have r0' := zz.cell 0
        have r1' := zz.cell 1
        simp only [List.getElem?_toArray, List.getElem?_cons_zero, List.getElem?_cons_succ] at r0' r1'
        have HZ := hid (And.intro r0' (r1'))
        clear zz r0' r1'
        have HBz := hid hbz
        clear hbz hvW hxE
        go_wp2_with fail
        go_region
        go_wp2
        obtain ⟨r0', r1'⟩ := HZ.out
        have hfin := (But.sets2 ((V.alloc (.cells #[.int .i64 t.num, .slice t.p t.n t.c] 30)).alloc (.cells #[.int .i64 0, .slice none 0 0] 30)) w.heap.size (.int .i64 0) (.slice none 0 0)).drew
        have hbf : Below w.heap.size w _ := (HBl.out.trans (HBz.out.mono (by omega))).trans (hfin.below (by have := HBz.out.size; omega) (fun k hk e => by omega))
        refine bodyPost_ret (v := .tuple #[.agg #[.int .i64 0, .slice none 0 0], .int .i64 e1]) (by simp [results, Try.results74, go_sem, r0', r1']) rfl ⟨hbf, fun y hy => absurd (HRr.out.good rfl y _ hy).2.1 he, fun y z R hy => absurd (HRr.out.good rfl y _ hy).2.1 he, fun k hk => ⟨by rw [(HRr.out.bad rfl k hk).1], fun h0 => he (by rw [(HRr.out.bad rfl k hk).1, h0]; rfl)⟩⟩
    · have h1' : (0 : Int) < (m : Int) := by omega
      have HF := hid (wrFail_any (V.alloc (.cells #[.int .i64 t.num, .slice t.p t.n t.c] 30)) S (w.heap.size + 1) R e1 44 HRd.out)
      go_wp2_with fail
      refine HF.out.mono ?_
      rintro x V2 ⟨rfl, hd2, hk2⟩
      clear HF hvW
      have hvW := HVW.out.but hk2 (by omega)
      obtain ⟨⟨p3, hx3, hy3⟩, ho3⟩ := id hd2
      have y1 := hx3.cell 1
      simp only [List.getElem?_toArray, List.getElem?_cons_zero, List.getElem?_cons_succ] at y1
      have hs2 := hk2.size
      have hbl2 : Below w.heap.size w V2 := HBl.out.trans (hk2.below (by omega) (fun k hk e => by omega))
      clear HBl
      have HBl := hid hbl2
      have hne : (if e1 = 0 then (44 : Int) else e1) ≠ 0 := by split <;> omega
      have hE : ∃ E, E = (if e1 = 0 then (44 : Int) else e1) := ⟨_, rfl⟩
      obtain ⟨E, hE⟩ := hE
      rw [← hE] at y1 hne hx3
      have hne' : (E == 0) = false := by simpa using hne
      have HE := hid hE
      clear hE
      have hxE := hx3
      clear hd2 hk2 hx3 hy3 hbl2 x0 x1
      have hbz := (Below.refl V2.heap.size V2).alloc (Nat.le_refl _) (.cells #[.int .i64 0, .slice none 0 0] 30)
      have HVz := hid (hvW.below hbz)
      have v0 := HVz.out.cell 0
      have vf0 := HVz.out.frozen 0
      simp at v0
      have v1 := HVz.out.cell 1
      have vf1 := HVz.out.frozen 1
      simp at v1
      have z1 := (hxE.below hbz).cell 1
      simp only [List.getElem?_toArray, List.getElem?_cons_zero, List.getElem?_cons_succ] at z1
      have zz := set2_box HVz.out (.int .i64 0) (.slice none 0 0)
      have r0' := zz.cell 0
      have r1' := zz.cell 1
      simp only [List.getElem?_toArray, List.getElem?_cons_zero, List.getElem?_cons_succ] at r0' r1'
      have HZ := hid (And.intro r0' (r1'))
      clear zz r0' r1'
      have HBz := hid hbz
      clear hbz hvW hxE
      go_wp2_with fail
      go_region
      go_wp2
      obtain ⟨r0', r1'⟩ := HZ.out
      have hfin := (But.sets2 (V2.alloc (.cells #[.int .i64 0, .slice none 0 0] 30)) w.heap.size (.int .i64 0) (.slice none 0 0)).drew
      have hbf : Below w.heap.size w _ := (HBl.out.trans (HBz.out.mono (by omega))).trans (hfin.below (by have := HBz.out.size; omega) (fun k hk e => by omega))
      refine bodyPost_ret (v := .tuple #[.agg #[.int .i64 0, .slice none 0 0], .int .i64 E]) (by simp [results, Try.results74, go_sem, r0', r1']) rfl ⟨hbf, fun y hy => (by have h2 := (HRr.out.good rfl y _ hy).1; rw [h2] at HMm; exact absurd HMm.out h1), fun y z R2 hy => (by rw [HE.out, if_pos (HRr.out.good rfl y _ hy).2.1]), fun k hk => ⟨by rw [HE.out, if_neg (HRr.out.bad rfl k hk).2, (HRr.out.bad rfl k hk).1], fun h0 => (HRr.out.bad rfl k hk).2 (by rw [(HRr.out.bad rfl k hk).1, h0]; rfl)⟩⟩
end Go.Proofs.Ytikfpoabaaiegaa

namespace Go.Proofs.Ytikfpoabaaiegaa
open Go.RowKit
set_option maxRecDepth 8000
set_option maxHeartbeats 8000000 in
theorem getSt (w : World) (S : Nat → Prop) (p : Option Addr) (c : Nat) (B : List Int) (hB : Byts w S p B.length c (fun j => B.getD j 0)) (hS : ∀ b, S b → b < w.heap.size) : Calls Try.prog 29 #[.slice p B.length c] w fun x w' => ∃ t k, x = .returned (.tuple #[ST.val t, .int .i64 k]) ∧ GetP stateS ST.val noS ST.In2 (fun t y => ST.Alike y t) w B t k w' := by
  have ha : Below w.heap.size w (w.alloc (.cells #[.int .i64 0, .slice none 0 0] 30)) := (Below.refl _ _).alloc (Nat.le_refl _) _
  have hz0 : (w.alloc (.cells #[.int .i64 0, .slice none 0 0] 30)).heap.size = w.heap.size + 1 := by simp
  have HC := hid (wholeSt (w.alloc (.cells #[.int .i64 0, .slice none 0 0] 30)) S p c B (hB.kept ha.size fun b _ hl => ha.block b hl) (fun b hb => by have := hS b hb; omega))
  have HA := hid ha
  have HV := hid (Box.new w #[.int .i64 0, .slice none 0 0] 30)
  clear hB hS ha
  obtain ⟨n, hn⟩ : ∃ n, n = B.length := ⟨_, rfl⟩
  rw [← hn] at HC ⊢
  clear hn
  go_enter Try.func29, Try.ntmps29
  go_wp2_with fail
  refine HC.out.mono ?_
  intro x w1 hP
  obtain ⟨t, k, rfl, hg⟩ := WholeP.get (zero := noS) hP in_noS
  have hb1 := hg.bel
  have hv := HV.out.below hb1
  have c0 := hv.cell 0
  have f0 := hv.frozen 0
  have c1 := hv.cell 1
  have f1 := hv.frozen 1
  simp only [List.getElem?_toArray, List.getElem?_cons_zero, List.getElem?_cons_succ] at c0 c1
  have zz := set2_box hv (.int .i64 t.num) (.slice t.p t.n t.c)
  have r0' := zz.cell 0
  have r1' := zz.cell 1
  simp only [List.getElem?_toArray, List.getElem?_cons_zero, List.getElem?_cons_succ] at r0' r1'
  have HZ := hid (And.intro r0' (r1'))
  have HG := hid hg
  have HB1 := hid hb1
  clear hP hg hb1 hv HC zz r0' r1'
  unfold ST.val
  go_wp2
  obtain ⟨r0', r1'⟩ := HZ.out
  have hfin := But.sets2 w1 w.heap.size (.int .i64 t.num) (.slice t.p t.n t.c)
  have hbf : Below w.heap.size w _ := (HA.out.trans (HB1.out.mono (by omega))).trans (hfin.below (by have := HB1.out.size; omega) (fun k hk e => by omega))
  refine bodyPost_ret (v := .tuple #[ST.val t, .int .i64 k]) (by simp [results, Try.results29, go_sem, ST.val, r0', r1']) rfl ⟨t, k, rfl, hbf, ?_, HG.out.good, HG.out.more, HG.out.bad⟩
  exact ST.In2.mono (S := fun b => (w.alloc (.cells #[.int .i64 0, .slice none 0 0] 30)).heap.size ≤ b) (ST.In2.but HG.out.inn hfin (fun b hb _ e => by omega)) (fun b hb _ => by omega)
end Go.Proofs.Ytikfpoabaaiegaa
