import Derived.Test.YtikfpoabaaiegaaPack32
import Derived.Test.YtikfpoabaaiegaaWhRow
import Derived.Test.YtikfpoabaaiegaaPack36
import Derived.Laws.ResultCell
import Derived.Deep.DeepCutAuto
import Derived.Test.YtikfpoabaaiegaaPack0
import Derived.Lib.Strings
import Derived.Test.YtikfpoabaaiegaaWrM
namespace Go.Proofs.Ytikfpoabaaiegaa
open Go.RowKit
set_option maxRecDepth 8000
set_option maxHeartbeats 8000000 in
theorem getRow (w : World) (S : Nat → Prop) (p : Option Addr) (c : Nat) (B : List Int) (hB : Byts w S p B.length c (fun j => B.getD j 0)) (hS : ∀ b, S b → b < w.heap.size) : Calls Try.prog 32 #[.slice p B.length c] w fun x w' => ∃ t k, x = .returned (.tuple #[OT.val t, .int .i64 k]) ∧ GetP outS OT.val zOT OT.In (fun o y => o.num = y.1 ∧ RT.Alike y.2 o.rec_) w B t k w' := by
  have ha : Below w.heap.size w (w.alloc (.cells #[.int .i64 0, .string ⟨#[]⟩, .int .i64 0, .int .i64 0, .string ⟨#[]⟩, .slice none 0 0, .slice none 0 0] 43)) := (Below.refl _ _).alloc (Nat.le_refl _) _
  have hz0 : (w.alloc (.cells #[.int .i64 0, .string ⟨#[]⟩, .int .i64 0, .int .i64 0, .string ⟨#[]⟩, .slice none 0 0, .slice none 0 0] 43)).heap.size = w.heap.size + 1 := by simp
  have HC := hid (wholeRow (w.alloc (.cells #[.int .i64 0, .string ⟨#[]⟩, .int .i64 0, .int .i64 0, .string ⟨#[]⟩, .slice none 0 0, .slice none 0 0] 43)) S p c B (hB.kept ha.size fun b _ hl => ha.block b hl) (fun b hb => by have := hS b hb; omega))
  have HA := hid ha
  have HV := hid (Box.new w #[.int .i64 0, .string ⟨#[]⟩, .int .i64 0, .int .i64 0, .string ⟨#[]⟩, .slice none 0 0, .slice none 0 0] 43)
  clear hB hS ha
  obtain ⟨n, hn⟩ : ∃ n, n = B.length := ⟨_, rfl⟩
  rw [← hn] at HC ⊢
  clear hn
  go_enter Try.func32, Try.ntmps32
  go_wp2_with fail
  refine HC.out.mono ?_
  intro x w1 hP
  obtain ⟨t, k, rfl, hg⟩ := WholeP.get (zero := zOT) hP in_zOT
  have hb1 := hg.bel
  have hv := HV.out.below hb1
  have c0 := hv.cell 0
  have f0 := hv.frozen 0
  have c1 := hv.cell 1
  have f1 := hv.frozen 1
  have c2 := hv.cell 2
  have f2 := hv.frozen 2
  have c3 := hv.cell 3
  have f3 := hv.frozen 3
  have c4 := hv.cell 4
  have f4 := hv.frozen 4
  have c5 := hv.cell 5
  have f5 := hv.frozen 5
  have c6 := hv.cell 6
  have f6 := hv.frozen 6
  simp only [List.getElem?_toArray, List.getElem?_cons_zero, List.getElem?_cons_succ] at c0 c1 c2 c3 c4 c5 c6
  have zz := set7_box hv (.int .i64 (t.num : Int)) (.string t.rec_.key) (.int .i64 t.rec_.v.kind) (.int .i64 t.rec_.v.int) (.string t.rec_.v.text) (.slice t.rec_.v.p t.rec_.v.n t.rec_.v.c) (.slice t.rec_.p t.rec_.n t.rec_.c)
  have r0' := zz.cell 0
  have r1' := zz.cell 1
  have r2' := zz.cell 2
  have r3' := zz.cell 3
  have r4' := zz.cell 4
  have r5' := zz.cell 5
  have r6' := zz.cell 6
  simp only [List.getElem?_toArray, List.getElem?_cons_zero, List.getElem?_cons_succ] at r0' r1' r2' r3' r4' r5' r6'
  have HZ := hid (And.intro r0' (And.intro r1' (And.intro r2' (And.intro r3' (And.intro r4' (And.intro r5' (r6')))))))
  have HG := hid hg
  have HB1 := hid hb1
  clear hP hg hb1 hv HC zz r0' r1' r2' r3' r4' r5' r6'
  unfold OT.val
  go_wp2
  obtain ⟨r0', r1', r2', r3', r4', r5', r6'⟩ := HZ.out
  have hfin := But.sets7 w1 w.heap.size (.int .i64 (t.num : Int)) (.string t.rec_.key) (.int .i64 t.rec_.v.kind) (.int .i64 t.rec_.v.int) (.string t.rec_.v.text) (.slice t.rec_.v.p t.rec_.v.n t.rec_.v.c) (.slice t.rec_.p t.rec_.n t.rec_.c)
  have hbf : Below w.heap.size w _ := (HA.out.trans (HB1.out.mono (by omega))).trans (hfin.below (by have := HB1.out.size; omega) (fun k hk e => by omega))
  refine bodyPost_ret (v := .tuple #[OT.val t, .int .i64 k]) (by simp [results, Try.results32, go_sem, OT.val, r0', r1', r2', r3', r4', r5', r6']) rfl ⟨t, k, rfl, hbf, ?_, HG.out.good, HG.out.more, HG.out.bad⟩
  exact OT.In.mono (S := fun b => (w.alloc (.cells #[.int .i64 0, .string ⟨#[]⟩, .int .i64 0, .int .i64 0, .string ⟨#[]⟩, .slice none 0 0, .slice none 0 0] 43)).heap.size ≤ b) (OT.In.but HG.out.inn hfin (fun b hb _ e => by omega)) (fun b hb _ => by omega)
end Go.Proofs.Ytikfpoabaaiegaa

namespace Go.Proofs.Ytikfpoabaaiegaa
open Go.RowKit
set_option maxRecDepth 8000
def thOT (k : Int) (t : OT) : Array Value := #[.int .i64 k, .string ⟨#[]⟩, .int .i64 0, .int .i64 0, .string ⟨#[]⟩, .slice none 0 0, .slice none 0 0, .int .i64 0, .slice none 0 0, .int .i64 0, .int .i64 0, .int .i64 0, .int .u32 0, .int .i64 0, .slice none 0 0, .int .i64 0, .slice none 0 0, .slice none 0 0, .slice none 0 0, .slice none 0 0, .int .i64 0, .int .u32 0, .slice none 0 0, .int .i64 (t.num : Int), .string t.rec_.key, .int .i64 t.rec_.v.kind, .int .i64 t.rec_.v.int, .string t.rec_.v.text, .slice t.rec_.v.p t.rec_.v.n t.rec_.v.c, .slice t.rec_.p t.rec_.n t.rec_.c]
theorem thOT_size (k : Int) (t : OT) : (thOT k t).size = 30 := rfl
theorem thOT_one (k : Int) (t : OT) : (thOT k t).all (·.oneCell') = true := by simp [thOT, Value.oneCell']
set_option maxHeartbeats 8000000 in
theorem lawgetRow (w : World) (b : Value) (Q : World → OT → Int → World → Prop) (hQ : ∀ W t k w', Q W t k w' → Below W.heap.size W w') (H : ∀ W, Below w.heap.size w W → Calls Try.prog 32 #[b] W fun x w' => ∃ t k, x = .returned (.tuple #[OT.val t, .int .i64 k]) ∧ Q W t k w') : Calls Try.prog 10 #[.int .i64 5, b] w fun x w' => ∃ t e W w1, x = .returned (.tuple #[.agg (thOT 5 t), .int .i64 e]) ∧ Below w.heap.size w W ∧ W.heap.size = w.heap.size + 2 ∧ Q W t e w1 ∧ But (fun y => y = w.heap.size ∨ y = w.heap.size + 1) w1 w' := by
  obtain ⟨hz0, hz1, hz2, hz3⟩ := start_thing w 5
  have hBx : Box ((w.alloc (.cells zC 45)).alloc (.cells zC 45)) (w.heap.size + 1) zC 45 := heap_alloc2_new w _ _
  have HBx := hid hBx
  have HC := hid (H _ hz2)
  have HR0 := hid hz0
  have HT0 := hid hz1
  have HB0 := hid hz2
  have HZ := hid hz3
  unfold OT.val at HC
  clear hBx hz0 hz1 hz2 hz3 H
  go_enter Try.func10, Try.ntmps10
  go_wp2_with (refine wpList_store_row rfl 45 (.tmp 6) (.tmp 9) rfl (w.heap.size + 1) (kC 5) rfl rfl 45 zC HBx.out (by rw [info45]; rfl) rfl (kC_one 5) ?_)
  refine HC.out.mono ?_
  generalize hW : ((w.alloc (.cells zC 45)).alloc (.cells zC 45)).setRow (w.heap.size + 1) (kC 5) = W at *
  rintro x w1 ⟨t, e, rfl, hq⟩
  have hb1 := hQ _ _ _ _ hq
  have ht1 := HT0.out.below hb1
  have hr1 := HR0.out.below hb1
  have c0 := ht1.cell 23
  have f0 := ht1.frozen 23
  have c1 := ht1.cell 24
  have f1 := ht1.frozen 24
  have c2 := ht1.cell 25
  have f2 := ht1.frozen 25
  have c3 := ht1.cell 26
  have f3 := ht1.frozen 26
  have c4 := ht1.cell 27
  have f4 := ht1.frozen 27
  have c5 := ht1.cell 28
  have f5 := ht1.frozen 28
  have c6 := ht1.cell 29
  have f6 := ht1.frozen 29
  simp [kC] at c0 c1 c2 c3 c4 c5 c6
  have ht2 : Box (((((((w1.setCell ⟨w.heap.size + 1, 23, none⟩ (.int .i64 (t.num : Int))).setCell ⟨w.heap.size + 1, 24, none⟩ (.string t.rec_.key)).setCell ⟨w.heap.size + 1, 25, none⟩ (.int .i64 t.rec_.v.kind)).setCell ⟨w.heap.size + 1, 26, none⟩ (.int .i64 t.rec_.v.int)).setCell ⟨w.heap.size + 1, 27, none⟩ (.string t.rec_.v.text)).setCell ⟨w.heap.size + 1, 28, none⟩ (.slice t.rec_.v.p t.rec_.v.n t.rec_.v.c)).setCell ⟨w.heap.size + 1, 29, none⟩ (.slice t.rec_.p t.rec_.n t.rec_.c)) (w.heap.size + 1) (thOT 5 t) 45 := by
    have h := (((((((ht1.set 23 (.int .i64 (t.num : Int))).set 24 (.string t.rec_.key)).set 25 (.int .i64 t.rec_.v.kind)).set 26 (.int .i64 t.rec_.v.int)).set 27 (.string t.rec_.v.text)).set 28 (.slice t.rec_.v.p t.rec_.v.n t.rec_.v.c)).set 29 (.slice t.rec_.p t.rec_.n t.rec_.c))
    simpa [kC, thOT] using h
  have hk2 : But (fun y => y = w.heap.size + 1) w1 (((((((w1.setCell ⟨w.heap.size + 1, 23, none⟩ (.int .i64 (t.num : Int))).setCell ⟨w.heap.size + 1, 24, none⟩ (.string t.rec_.key)).setCell ⟨w.heap.size + 1, 25, none⟩ (.int .i64 t.rec_.v.kind)).setCell ⟨w.heap.size + 1, 26, none⟩ (.int .i64 t.rec_.v.int)).setCell ⟨w.heap.size + 1, 27, none⟩ (.string t.rec_.v.text)).setCell ⟨w.heap.size + 1, 28, none⟩ (.slice t.rec_.v.p t.rec_.v.n t.rec_.v.c)).setCell ⟨w.heap.size + 1, 29, none⟩ (.slice t.rec_.p t.rec_.n t.rec_.c)) := (((((((But.one w1 (w.heap.size + 1)).setAt 23 (.int .i64 (t.num : Int))).setAt 24 (.string t.rec_.key)).setAt 25 (.int .i64 t.rec_.v.kind)).setAt 26 (.int .i64 t.rec_.v.int)).setAt 27 (.string t.rec_.v.text)).setAt 28 (.slice t.rec_.v.p t.rec_.v.n t.rec_.v.c)).setAt 29 (.slice t.rec_.p t.rec_.n t.rec_.c)
  have hr2 := hr1.but hk2 (by omega)
  have HR2 := hid hr2
  have HT2 := hid ht2
  have HK2 := hid hk2
  have HQ := hid hq
  clear ht1 hr1 ht2 hr2 hk2 HC hb1 hq
  go_wp2_with fail
  refine get_tail _ _ _ _ _ _ _ _ _ _ _ _ _ _ _ _ _ _ _ _ _ _ _ _ _ _ _ _ _ _ _ _ _ _ _ _ _ _ _ _ _ _ _ _ _ _ (w.heap.size + 1) w.heap.size (by omega) (thOT 5 t) (thOT_size _ _) (thOT_one _ _) e _ _ _ _ HT2.out HR2.out _ ?_
  intro w3 hb3 hk3
  have HB3 := hid hb3
  have HK3 := hid hk3
  clear hb3 hk3
  go_wp2
  refine bodyPost_ret (v := .tuple #[.agg (thOT 5 t), .int .i64 e]) ?_ rfl ⟨t, e, W, w1, rfl, HB0.out, HZ.out, HQ.out, (HK2.out.mono (fun b _ h => Or.inr h)).trans (HK3.out.mono (fun b _ h => Or.inl h))⟩
  rw [results_cell_tmp rfl]
  have hld := run_loadVar_row (P := Try.prog) w3 w.heap.size 45 45 (thOT 5 t) (0, 0) _ HB3.out Try.underlying45 rfl (by rw [thOT_size]; exact info45)
  simp [asAddr, Result.andThen, hld]
end Go.Proofs.Ytikfpoabaaiegaa

namespace Go.Proofs.Ytikfpoabaaiegaa
open Go.RowKit
set_option maxRecDepth 8000
set_option maxHeartbeats 8000000 in
theorem lawrgetRow (w : World) (b : Value) (Q : World → OT → Int → World → Prop) (hQ : ∀ W t k w', Q W t k w' → Below W.heap.size W w') (H : ∀ W, Below w.heap.size w W → Calls Try.prog 27 #[b] W fun x w' => ∃ t k, x = .returned (.tuple #[OT.val t, .int .i64 k]) ∧ Q W t k w') : Calls Try.prog 9 #[.int .i64 5, b] w fun x w' => ∃ t e W w1, x = .returned (.tuple #[.agg (thOT 5 t), .int .i64 e]) ∧ Below w.heap.size w W ∧ W.heap.size = w.heap.size + 2 ∧ Q W t e w1 ∧ But (fun y => y = w.heap.size ∨ y = w.heap.size + 1) w1 w' := by
  obtain ⟨hz0, hz1, hz2, hz3⟩ := start_thing w 5
  have hBx : Box ((w.alloc (.cells zC 45)).alloc (.cells zC 45)) (w.heap.size + 1) zC 45 := heap_alloc2_new w _ _
  have HBx := hid hBx
  have HC := hid (H _ hz2)
  have HR0 := hid hz0
  have HT0 := hid hz1
  have HB0 := hid hz2
  have HZ := hid hz3
  unfold OT.val at HC
  clear hBx hz0 hz1 hz2 hz3 H
  go_enter Try.func9, Try.ntmps9
  go_wp2_with (refine wpList_store_row rfl 45 (.tmp 6) (.tmp 9) rfl (w.heap.size + 1) (kC 5) rfl rfl 45 zC HBx.out (by rw [info45]; rfl) rfl (kC_one 5) ?_)
  refine HC.out.mono ?_
  generalize hW : ((w.alloc (.cells zC 45)).alloc (.cells zC 45)).setRow (w.heap.size + 1) (kC 5) = W at *
  rintro x w1 ⟨t, e, rfl, hq⟩
  have hb1 := hQ _ _ _ _ hq
  have ht1 := HT0.out.below hb1
  have hr1 := HR0.out.below hb1
  have c0 := ht1.cell 23
  have f0 := ht1.frozen 23
  have c1 := ht1.cell 24
  have f1 := ht1.frozen 24
  have c2 := ht1.cell 25
  have f2 := ht1.frozen 25
  have c3 := ht1.cell 26
  have f3 := ht1.frozen 26
  have c4 := ht1.cell 27
  have f4 := ht1.frozen 27
  have c5 := ht1.cell 28
  have f5 := ht1.frozen 28
  have c6 := ht1.cell 29
  have f6 := ht1.frozen 29
  simp [kC] at c0 c1 c2 c3 c4 c5 c6
  have ht2 : Box (((((((w1.setCell ⟨w.heap.size + 1, 23, none⟩ (.int .i64 (t.num : Int))).setCell ⟨w.heap.size + 1, 24, none⟩ (.string t.rec_.key)).setCell ⟨w.heap.size + 1, 25, none⟩ (.int .i64 t.rec_.v.kind)).setCell ⟨w.heap.size + 1, 26, none⟩ (.int .i64 t.rec_.v.int)).setCell ⟨w.heap.size + 1, 27, none⟩ (.string t.rec_.v.text)).setCell ⟨w.heap.size + 1, 28, none⟩ (.slice t.rec_.v.p t.rec_.v.n t.rec_.v.c)).setCell ⟨w.heap.size + 1, 29, none⟩ (.slice t.rec_.p t.rec_.n t.rec_.c)) (w.heap.size + 1) (thOT 5 t) 45 := by
    have h := (((((((ht1.set 23 (.int .i64 (t.num : Int))).set 24 (.string t.rec_.key)).set 25 (.int .i64 t.rec_.v.kind)).set 26 (.int .i64 t.rec_.v.int)).set 27 (.string t.rec_.v.text)).set 28 (.slice t.rec_.v.p t.rec_.v.n t.rec_.v.c)).set 29 (.slice t.rec_.p t.rec_.n t.rec_.c))
    simpa [kC, thOT] using h
  have hk2 : But (fun y => y = w.heap.size + 1) w1 (((((((w1.setCell ⟨w.heap.size + 1, 23, none⟩ (.int .i64 (t.num : Int))).setCell ⟨w.heap.size + 1, 24, none⟩ (.string t.rec_.key)).setCell ⟨w.heap.size + 1, 25, none⟩ (.int .i64 t.rec_.v.kind)).setCell ⟨w.heap.size + 1, 26, none⟩ (.int .i64 t.rec_.v.int)).setCell ⟨w.heap.size + 1, 27, none⟩ (.string t.rec_.v.text)).setCell ⟨w.heap.size + 1, 28, none⟩ (.slice t.rec_.v.p t.rec_.v.n t.rec_.v.c)).setCell ⟨w.heap.size + 1, 29, none⟩ (.slice t.rec_.p t.rec_.n t.rec_.c)) := (((((((But.one w1 (w.heap.size + 1)).setAt 23 (.int .i64 (t.num : Int))).setAt 24 (.string t.rec_.key)).setAt 25 (.int .i64 t.rec_.v.kind)).setAt 26 (.int .i64 t.rec_.v.int)).setAt 27 (.string t.rec_.v.text)).setAt 28 (.slice t.rec_.v.p t.rec_.v.n t.rec_.v.c)).setAt 29 (.slice t.rec_.p t.rec_.n t.rec_.c)
  have hr2 := hr1.but hk2 (by omega)
  have HR2 := hid hr2
  have HT2 := hid ht2
  have HK2 := hid hk2
  have HQ := hid hq
  clear ht1 hr1 ht2 hr2 hk2 HC hb1 hq
  go_upto_region 13 with fail
  go_wp2_with (first | (refine wpList_load_row rfl 45 (.tmp 6) rfl (w.heap.size + 1) rfl 45 (thOT 5 t) (0, 0) _ HT2.out Try.underlying45 rfl (by rw [info45, thOT_size]) ?_) | (refine wpList_store_any rfl 45 (.tmp 4) (.tmp 49) rfl w.heap.size (thOT 5 t) rfl rfl 45 zC HR2.out (by rw [info45, thOT_size]) (by rw [thOT_size]; rfl) (thOT_one _ _) ?_))
  intro w3 hb3 hk3
  have HB3 := hid hb3
  have HK3 := hid hk3
  clear hb3 hk3
  go_wp2
  refine bodyPost_ret (v := .tuple #[.agg (thOT 5 t), .int .i64 e]) ?_ rfl ⟨t, e, W, w1, rfl, HB0.out, HZ.out, HQ.out, (HK2.out.mono (fun b _ h => Or.inr h)).trans (HK3.out.mono (fun b _ h => Or.inl h))⟩
  rw [results_cell_tmp rfl]
  have hld := run_loadVar_row (P := Try.prog) w3 w.heap.size 45 45 (thOT 5 t) (0, 0) _ HB3.out Try.underlying45 rfl (by rw [thOT_size]; exact info45)
  simp [asAddr, Result.andThen, hld]
end Go.Proofs.Ytikfpoabaaiegaa

namespace Go.Proofs.Ytikfpoabaaiegaa
open Go.RowKit
set_option maxRecDepth 8000
def YesNo (P : Prop) (e : Ending) (w w' : World) : Prop := ∃ r : Bool, e = .returned (.bool r) ∧ (r = true ↔ P) ∧ Below w.heap.size w w'
theorem yn_no {P : Prop} {w w' : World} (h : ¬ P) (hb : Below w.heap.size w w') : YesNo P (.returned (.bool false)) w w' := ⟨false, rfl, ⟨fun e => (by cases e), fun e => absurd e h⟩, hb⟩
theorem yn_yes {P : Prop} {w w' : World} (h : P) (hb : Below w.heap.size w w') : YesNo P (.returned (.bool true)) w w' := ⟨true, rfl, ⟨fun _ => h, fun _ => rfl⟩, hb⟩

set_option maxHeartbeats 1000000 in
theorem yValue (t : VT) : ∀ (u : VT) (w : World) (S R : Nat → Prop), VT.In w S t → VT.In w R u →
    Calls Try.prog 84 #[t.val, u.val] w fun e w' => YesNo (VT.Alike t u) e w w' := by
  induction t with
  | nil => intro u w S R hin; exact hin.elim
  | mk k i s n p c f ih =>
    intro u w S R hin hiu
    obtain ⟨k2, i2, s2, n2, p2, c2, f2, rfl⟩ := hiu.mk_
    by_cases h1 : k = k2
    case neg =>
      have HN := hid (fun h : VT.Alike (.mk k i s n p c f) (.mk k2 i2 s2 n2 p2 c2 f2) => h1 h.1.symm)
      simp only [VT.val, VT.kind_mk, VT.int_mk, VT.text_mk, VT.p_mk, VT.n_mk, VT.c_mk]
      clear hin hiu ih
      go_enter Try.func84, Try.ntmps84
      go_wp2
      go_ret
      exact yn_no HN.out (((Below.refl _ _).alloc (Nat.le_refl _) _).alloc (by simp) _)
    by_cases h2 : i = i2
    case neg =>
      have HN := hid (fun h : VT.Alike (.mk k i s n p c f) (.mk k2 i2 s2 n2 p2 c2 f2) => h2 h.2.1.symm)
      simp only [VT.val, VT.kind_mk, VT.int_mk, VT.text_mk, VT.p_mk, VT.n_mk, VT.c_mk]
      subst h1
      clear hin hiu ih
      go_enter Try.func84, Try.ntmps84
      go_wp2
      go_ret
      exact yn_no HN.out (((Below.refl _ _).alloc (Nat.le_refl _) _).alloc (by simp) _)
    by_cases h3 : s = s2
    case neg =>
      have HN := hid (fun h : VT.Alike (.mk k i s n p c f) (.mk k2 i2 s2 n2 p2 c2 f2) => h3 h.2.2.1.symm)
      have h3b : (s.toList == s2.toList) = false := by
        rw [beq_eq_false_iff_ne]
        intro h
        rw [Go.Lib.toList_data, Go.Lib.toList_data] at h
        exact h3 (ByteArray.ext (Array.ext' h))
      simp only [VT.val, VT.kind_mk, VT.int_mk, VT.text_mk, VT.p_mk, VT.n_mk, VT.c_mk]
      subst h1 h2
      clear hin hiu ih
      go_enter Try.func84, Try.ntmps84
      go_wp2
      go_ret
      exact yn_no HN.out (((Below.refl _ _).alloc (Nat.le_refl _) _).alloc (by simp) _)
    by_cases h4 : n = n2
    case neg =>
      have HN := hid (fun h : VT.Alike (.mk k i s n p c f) (.mk k2 i2 s2 n2 p2 c2 f2) => h4 h.2.2.2.1.symm)
      have h4' : ((n : Int) != (n2 : Int)) = true := by rw [bne_iff_ne]; omega
      simp only [VT.val, VT.kind_mk, VT.int_mk, VT.text_mk, VT.p_mk, VT.n_mk, VT.c_mk]
      subst h1 h2 h3
      clear hin hiu ih
      go_enter Try.func84, Try.ntmps84
      go_wp2
      go_ret
      exact yn_no HN.out (((Below.refl _ _).alloc (Nat.le_refl _) _).alloc (by simp) _)
    subst h1 h2 h3 h4
    have hnn := hin.fit.nn
    simp only [VT.n_mk] at hnn
    simp only [VT.val, VT.kind_mk, VT.int_mk, VT.text_mk, VT.p_mk, VT.n_mk, VT.c_mk]
    have HI : Hid (VT.In w S (.mk k i s n p c f)) := hin
    have HU : Hid (VT.In w R (.mk k i s n p2 c2 f2)) := hiu
    clear hin hiu
    go_enter Try.func84, Try.ntmps84
    go_wp2_with fail
    have hS1 : Box (w.alloc (.cells #[.int .i64 k, .int .i64 i, .string s, .slice p n c] 24)) w.heap.size #[.int .i64 k, .int .i64 i, .string s, .slice p n c] 24 := Box.new _ _ _
    have hS2 := hS1.below ((Below.refl _ _).alloc (Nat.le_refl _) (.cells #[.int .i64 k, .int .i64 i, .string s, .slice p2 n c2] 24))
    have hS3 : Box ((w.alloc (.cells #[.int .i64 k, .int .i64 i, .string s, .slice p n c] 24)).alloc (.cells #[.int .i64 k, .int .i64 i, .string s, .slice p2 n c2] 24)) (w.heap.size + 1) #[.int .i64 k, .int .i64 i, .string s, .slice p2 n c2] 24 := by
      have := Box.new (w.alloc (.cells #[.int .i64 k, .int .i64 i, .string s, .slice p n c] 24)) #[.int .i64 k, .int .i64 i, .string s, .slice p2 n c2] 24
      simpa using this
    have hS4 : Below w.heap.size w ((w.alloc (.cells #[.int .i64 k, .int .i64 i, .string s, .slice p n c] 24)).alloc (.cells #[.int .i64 k, .int .i64 i, .string s, .slice p2 n c2] 24)) := ((Below.refl _ _).alloc (Nat.le_refl _) _).alloc (by simp) _
    go_loopw [5] (fun x wr => ∃ j : Nat, j ≤ n ∧ x = .int .i64 j ∧ (∀ q, q < j → VT.Alike (f q) (f2 q)) ∧ Box wr w.heap.size #[.int .i64 k, .int .i64 i, .string s, .slice p n c] 24 ∧ Box wr (w.heap.size + 1) #[.int .i64 k, .int .i64 i, .string s, .slice p2 n c2] 24 ∧ Below w.heap.size w wr) (fun x _ => n - (intOf x).toNat)
    case atStart => exact ⟨0, Nat.zero_le _, rfl, fun q hq => absurd hq (by omega), hS2, hS3, hS4⟩
    case round =>
      obtain ⟨j, hj, rfl, hA, hB0, hB1, hbel⟩ := hrel
      have HA := hid hA
      clear hA
      clear hS1 hS2 hS3 hS4
      have x3 := hB0.cell 3
      have y3 := hB1.cell 3
      simp at x3 y3
      by_cases hlt : j < n
      · have hlt' : (j : Int) < (n : Int) := by omega
        obtain ⟨bb, o, hp, hSb, hbl, hat⟩ := HI.out.at_ (show 0 < (VT.mk k i s n p c f).n from by simp only [VT.n]; omega)
        obtain ⟨bb2, o2, hp2, hSb2, hbl2, hat2⟩ := HU.out.at_ (show 0 < (VT.mk k i s n p2 c2 f2).n from by simp only [VT.n]; omega)
        simp only [VT.p_mk] at hp hp2
        subst hp hp2
        obtain ⟨a0, a1, a2, a3⟩ := (hat j hlt).kept (hbel.block bb hbl)
        obtain ⟨b0, b1, b2, b3⟩ := (hat2 j hlt).kept (hbel.block bb2 hbl2)
        simp only [VT.item_mk] at a0 a1 a2 a3 b0 b1 b2 b3
        have HC : Hid (∀ W, Below wr.heap.size wr W → Calls Try.prog 84 #[(f j).val, (f2 j).val] W fun e w' => YesNo (VT.Alike (f j) (f2 j)) e W w') := fun W hW =>
          ih j (f2 j) W (fun b => S b ∧ b < w.heap.size) (fun b => R b ∧ b < w.heap.size) ((((HI.out.sub hlt).mono fun b hb hl => ⟨hb, hl⟩).kept hbel.size (fun b hb _ => hbel.block b hb.2)).below hW) ((((HU.out.sub hlt).mono fun b hb hl => ⟨hb, hl⟩).kept hbel.size (fun b hb _ => hbel.block b hb.2)).below hW)
        unfold VT.val at HC
        have HB : Hid (Box wr w.heap.size #[.int .i64 k, .int .i64 i, .string s, .slice (some ⟨bb, o, none⟩) n c] 24 ∧ Box wr (w.heap.size + 1) #[.int .i64 k, .int .i64 i, .string s, .slice (some ⟨bb2, o2, none⟩) n c2] 24) := ⟨hB0, hB1⟩
        have HFG := hid (show True from trivial)
        obtain ⟨xk, xi, xs, xn, xp, xc, xf, hx⟩ := (HI.out.sub hlt).mk_
        obtain ⟨yk, yi, ys, yn, yp, yc, yf, hy⟩ := (HU.out.sub hlt).mk_
        simp only [VT.item_mk] at hx hy
        clear hat hat2 ih HI HU hB0 hB1
        simp only [hx, hy, VT.kind_mk, VT.int_mk, VT.text_mk, VT.p_mk, VT.n_mk, VT.c_mk] at a0 a1 a2 a3 b0 b1 b2 b3
        have HC2 : Hid (∀ W, Below wr.heap.size wr W → Calls Try.prog 84 #[.agg #[.int .i64 xk, .int .i64 xi, .string xs, .slice xp xn xc], .agg #[.int .i64 yk, .int .i64 yi, .string ys, .slice yp yn yc]] W fun e w' => YesNo (VT.Alike (f j) (f2 j)) e W w') := fun W hW => by
          have h := HC.out W hW
          simp only [hx, hy, VT.kind_mk, VT.int_mk, VT.text_mk, VT.p_mk, VT.n_mk, VT.c_mk] at h ⊢
          exact h
        clear hx hy HC HFG
        have HW : Hid (∀ w4, Below wr.heap.size wr.drew w4 → Box w4 w.heap.size #[.int .i64 k, .int .i64 i, .string s, .slice (some ⟨bb, o, none⟩) n c] 24 ∧ Box w4 (w.heap.size + 1) #[.int .i64 k, .int .i64 i, .string s, .slice (some ⟨bb2, o2, none⟩) n c2] 24 ∧ Below w.heap.size w w4) := fun w4 hb4 => by
          have hk : Below wr.heap.size wr w4 := (Below.refl wr.heap.size wr).drew.trans hb4
          exact ⟨HB.out.1.below hk, HB.out.2.below hk, hbel.trans (hk.mono hbel.size)⟩
        go_wp2_with fail
        go_region_with (go_at_call 84; refine (HC2.out _ ?_).mono ?_; exact (Below.refl _ _).drew; intro e w4 hP4; obtain ⟨r4, rfl, hr4, hb4⟩ := hP4)
        all_goals
          cases r4 with
          | false =>
            have HN : Hid (¬ VT.Alike (.mk k i s n (some ⟨bb, o, none⟩) c f) (.mk k i s n (some ⟨bb2, o2, none⟩) c2 f2)) := fun h => absurd (hr4.2 (h.2.2.2.2 j hlt)) (by decide)
            have HBe := hid (HW.out w4 hb4).2.2
            clear hr4 hb4
            go_wp2
            go_ret
            exact yn_no HN.out HBe.out
          | true =>
            have HA2 : Hid (∀ q, q < j + 1 → VT.Alike (f q) (f2 q)) := fun q hq => by
              by_cases h : q < j
              · exact HA.out q h
              · obtain rfl : q = j := by omega
                exact hr4.1 rfl
            have HBe := hid (HW.out w4 hb4)
            clear hr4 hb4
            go_wp2
            go_roundw
            case rel => exact ⟨j + 1, by omega, by go_num, HA2.out, HBe.out.1, HBe.out.2.1, HBe.out.2.2⟩
            case measure => simp [intOf]; omega
      · obtain rfl : j = n := by omega
        clear ih HI HU hB0 hB1
        go_wp2
        go_ret
        exact yn_yes ⟨rfl, rfl, rfl, rfl, HA.out⟩ hbel

theorem str_ne {s s2 : ByteArray} (h : s ≠ s2) : (s.toList == s2.toList) = false := by
  rw [beq_eq_false_iff_ne]
  intro h2
  rw [Go.Lib.toList_data, Go.Lib.toList_data] at h2
  exact h (ByteArray.ext (Array.ext' h2))
theorem int_ne {n m : Nat} (h : n ≠ m) : ((n : Int) != (m : Int)) = true := by rw [bne_iff_ne]; omega
def TxsAlike (l u : LT ByteArray) : Prop := u.n = l.n ∧ ∀ j, j < l.n → u.item j = l.item j
set_option maxHeartbeats 2000000 in
theorem yTexts (l u : LT ByteArray) (w : World) (S R : Nat → Prop) (hl : LT.In elStr w S l) (hu : LT.In elStr w R u) :
    Calls Try.prog 86 #[.slice l.p l.n l.c, .slice u.p u.n u.c] w fun e w' => YesNo (TxsAlike l u) e w w' := by
  obtain ⟨p, n, c, f⟩ := l
  obtain ⟨p2, n2, c2, f2⟩ := u
  have hnn := hl.nn
  have H := hid hl
  have H' := hid hu
  simp only at hnn ⊢
  clear hl hu
  by_cases hn : n = n2
  case neg =>
    have hn' := int_ne hn
    have HN : Hid (¬ TxsAlike ⟨p, n, c, f⟩ ⟨p2, n2, c2, f2⟩) := fun h => hn h.1.symm
    go_enter Try.func86, Try.ntmps86
    go_wp2
    go_ret
    exact yn_no HN.out (Below.refl _ _)
  subst hn
  go_enter Try.func86, Try.ntmps86
  go_wp2_with fail
  go_loopw [5] (fun x wr => ∃ j : Nat, j ≤ n ∧ x = .int .i64 j ∧ (∀ q, q < j → f2 q = f q) ∧ Below w.heap.size w wr) (fun x _ => n - (intOf x).toNat)
  case atStart => exact ⟨0, Nat.zero_le _, rfl, fun q hq => absurd hq (by omega), Below.refl _ _⟩
  case round =>
    obtain ⟨j, hj, rfl, hA, hbel⟩ := hrel
    have HA := hid hA
    have HB := hid hbel
    clear hA
    by_cases hlt : j < n
    · have hlt' : (j : Int) < (n : Int) := by omega
      obtain ⟨b1, o1, hp, _, hl1, ha⟩ := H.out.at_ (show 0 < n by omega)
      obtain ⟨b2, o2, hp', _, hl2, ha'⟩ := H'.out.at_ (show 0 < n by omega)
      simp only at hp hp'
      subst hp hp'
      have q1 := ha j hlt 0 _ rfl
      have q2 := ha' j hlt 0 _ rfl
      simp [elStr] at q1 q2
      have d1 := (World.cell?_of_block (a := ⟨b1, o1 + j, none⟩) (hbel.block b1 hl1)).trans q1
      have d2 := (World.cell?_of_block (a := ⟨b2, o2 + j, none⟩) (hbel.block b2 hl2)).trans q2
      clear ha ha' hbel q1 q2
      by_cases hs : f j = f2 j
      · have HA2 : Hid (∀ q, q < j + 1 → f2 q = f q) := fun q hq => by
          by_cases h : q < j
          · exact HA.out q h
          · obtain rfl : q = j := by omega
            exact hs.symm
        rw [← hs] at d2
        clear hs
        go_wp2_with fail
        go_region
        all_goals
          go_wp2
          go_roundw
          case rel => exact ⟨j + 1, by omega, by go_num, HA2.out, HB.out.drew⟩
          case measure => simp [intOf]; omega
      · have hs' := str_ne hs
        have HN : Hid (¬ TxsAlike ⟨some ⟨b1, o1, none⟩, n, c, f⟩ ⟨some ⟨b2, o2, none⟩, n, c2, f2⟩) := fun h => hs (h.2 j hlt).symm
        clear hs
        go_wp2_with fail
        go_region
        all_goals
          go_wp2
          go_ret
          exact yn_no HN.out HB.out.drew
    · obtain rfl : j = n := by omega
      have hlt' : ¬ (j : Int) < (j : Int) := by omega
      clear hbel
      go_wp2
      go_ret
      exact yn_yes ⟨rfl, HA.out⟩ HB.out
end Go.Proofs.Ytikfpoabaaiegaa

namespace Go.Proofs.Ytikfpoabaaiegaa
open Go.RowKit
set_option maxRecDepth 8000
set_option maxHeartbeats 4000000 in
theorem yRecord (r q : RT) (w : World) (S R : Nat → Prop) (hr : RT.In w S r) (hq : RT.In w R q) :
    Calls Try.prog 35 #[r.val, q.val] w fun e w' => YesNo (RT.Alike r q) e w w' := by
  have hb0 : Below w.heap.size w ((w.alloc (.cells #[.string r.key, .int .i64 r.v.kind, .int .i64 r.v.int, .string r.v.text, .slice r.v.p r.v.n r.v.c, .slice r.p r.n r.c] 27)).alloc (.cells #[.string q.key, .int .i64 q.v.kind, .int .i64 q.v.int, .string q.v.text, .slice q.v.p q.v.n q.v.c, .slice q.p q.n q.c] 27)) := ((Below.refl _ _).alloc (Nat.le_refl _) _).alloc (by simp) _
  have hx0 := (Box.new w #[.string r.key, .int .i64 r.v.kind, .int .i64 r.v.int, .string r.v.text, .slice r.v.p r.v.n r.v.c, .slice r.p r.n r.c] 27).below ((Below.refl _ _).alloc (Nat.le_refl _) (.cells #[.string q.key, .int .i64 q.v.kind, .int .i64 q.v.int, .string q.v.text, .slice q.v.p q.v.n q.v.c, .slice q.p q.n q.c] 27))
  have hy0 := Box.new (w.alloc (.cells #[.string r.key, .int .i64 r.v.kind, .int .i64 r.v.int, .string r.v.text, .slice r.v.p r.v.n r.v.c, .slice r.p r.n r.c] 27)) #[.string q.key, .int .i64 q.v.kind, .int .i64 q.v.int, .string q.v.text, .slice q.v.p q.v.n q.v.c, .slice q.p q.n q.c] 27
  rw [show (w.alloc (.cells #[.string r.key, .int .i64 r.v.kind, .int .i64 r.v.int, .string r.v.text, .slice r.v.p r.v.n r.v.c, .slice r.p r.n r.c] 27)).heap.size = w.heap.size + 1 by simp] at hy0
  have HV : ∀ W, Below w.heap.size w W → Calls Try.prog 84 #[r.v.val, q.v.val] W fun e w' => YesNo (VT.Alike r.v q.v) e W w' := fun W hW => yValue r.v q.v W S R (hr.v.below hW) (hq.v.below hW)
  unfold VT.val at HV
  have HC := hid (HV _ hb0)
  have HX0 := hid hx0
  have HY0 := hid hy0
  have HB0 := hid hb0
  have hrn := hr.l.nn
  have HIr := hid hr.l
  have HIq := hid hq.l
  unfold RT.val
  clear hr hq hb0 hx0 hy0 HV
  by_cases hk : r.key = q.key
  case neg =>
    have hk' := str_ne hk
    have HN : Hid (¬ RT.Alike r q) := fun h => hk h.key.symm
    clear hk HC
    go_enter Try.func35, Try.ntmps35
    go_wp2
    go_ret
    exact yn_no HN.out HB0.out
  have HK := hid hk
  obtain ⟨key, v, p, n, c, lp⟩ := r
  obtain ⟨key2, v2, p2, n2, c2, lp2⟩ := q
  simp only at hk HC HX0 HY0 HB0 HIr HIq hrn ⊢
  subst hk
  clear HK
  go_enter Try.func35, Try.ntmps35
  go_wp2_with fail
  refine HC.out.mono ?_
  rintro x w1 ⟨r1, rfl, hr1, hb1⟩
  have hx1 := HX0.out.below hb1
  have hy1 := HY0.out.below hb1
  have c5 := hx1.cell 5
  have d5 := hy1.cell 5
  simp only [List.getElem?_toArray, List.getElem?_cons_zero, List.getElem?_cons_succ] at c5 d5
  have HX1 := hid hx1
  have HY1 := hid hy1
  have HB1 := hid (HB0.out.trans (hb1.mono HB0.out.size))
  clear hx1 hy1 hb1 HC HX0 HY0 HB0
  cases r1 with
  | false =>
    have HN : Hid (¬ RT.Alike ⟨key, v, p, n, c, lp⟩ ⟨key, v2, p2, n2, c2, lp2⟩) := fun h => absurd (hr1.2 h.v) (by decide)
    clear hr1
    go_wp2
    go_ret
    exact yn_no HN.out HB1.out
  | true =>
    have HVA := hid (hr1.1 rfl)
    clear hr1
    by_cases hn : n = n2
    case neg =>
      have hn' := int_ne hn
      have HN : Hid (¬ RT.Alike ⟨key, v, p, n, c, lp⟩ ⟨key, v2, p2, n2, c2, lp2⟩) := fun h => hn h.n.symm
      clear hn
      go_wp2
      go_ret
      exact yn_no HN.out HB1.out
    subst hn
    go_wp2_with fail
    go_loopw [5] (fun x wr => ∃ j : Nat, j ≤ n ∧ x = .int .i64 j ∧ (∀ i, i < j → lp2 i = lp i) ∧ Below w1.heap.size w1 wr) (fun x _ => n - (intOf x).toNat)
    case atStart => exact ⟨0, Nat.zero_le _, rfl, fun i hi => absurd hi (by omega), Below.refl _ _⟩
    case round =>
      obtain ⟨j, hj, rfl, hA, hbel⟩ := hrel
      have HA := hid hA
      clear hA
      have hx2 := HX1.out.below hbel
      have hy2 := HY1.out.below hbel
      have a5 := hx2.cell 5
      have b5 := hy2.cell 5
      simp only [List.getElem?_toArray, List.getElem?_cons_zero, List.getElem?_cons_succ] at a5 b5
      have hs1 := HB1.out.size
      have HB2 := hid hbel
      by_cases hlt : j < n
      · have hlt' : (j : Int) < (n : Int) := by omega
        obtain ⟨b1, o1, hp, _, hl1, ha⟩ := HIr.out.at_ (by omega)
        obtain ⟨b2, o2, hp', _, hl2, ha'⟩ := HIq.out.at_ (by omega)
        have e1 := (World.cell?_of_block (a := ⟨b1, o1 + j, none⟩) ((hbel.block b1 (by omega)).trans (HB1.out.block b1 hl1))).trans (ha j hlt)
        have e2 := (World.cell?_of_block (a := ⟨b2, o2 + j, none⟩) ((hbel.block b2 (by omega)).trans (HB1.out.block b2 hl2))).trans (ha' j hlt)
        rw [hp] at a5
        rw [hp'] at b5
        clear ha ha' hbel hx2 hy2 c5 d5
        by_cases hi : lp2 j = lp j
        · have HA2 : Hid (∀ i, i < j + 1 → lp2 i = lp i) := fun i hi2 => by
            by_cases h : i < j
            · exact HA.out i h
            · obtain rfl : i = j := by omega
              exact hi
          rw [hi] at e2
          clear hi
          go_wp2_with fail
          go_region
          all_goals
            go_wp2
            go_roundw
            case rel => exact ⟨j + 1, by omega, by go_num, HA2.out, HB2.out.drew⟩
            case measure => simp [intOf]; omega
        · have hi' : (lp j != lp2 j) = true := by rw [bne_iff_ne]; exact fun h => hi h.symm
          have HN : Hid (¬ RT.Alike ⟨key, v, p, n, c, lp⟩ ⟨key, v2, p2, n, c2, lp2⟩) := fun h => hi (h.loop j hlt)
          clear hi
          go_wp2_with fail
          go_region
          all_goals
            go_wp2
            go_ret
            exact yn_no HN.out (HB1.out.trans (HB2.out.drew.mono hs1))
      · obtain rfl : j = n := by omega
        have hlt' : ¬ (j : Int) < (j : Int) := by omega
        clear hbel hx2 hy2
        go_wp2
        go_ret
        exact yn_yes ⟨rfl, HVA.out, rfl, HA.out⟩ (HB1.out.trans (HB2.out.mono hs1))
set_option maxHeartbeats 4000000 in
theorem yRecords (l u : LT RT) (w : World) (S R : Nat → Prop) (hl : LT.In elRec w S l) (hu : LT.In elRec w R u) :
    Calls Try.prog 85 #[.slice l.p l.n l.c, .slice u.p u.n u.c] w fun e w' => YesNo (RecsAlike l u) e w w' := by
  obtain ⟨p, n, c, f⟩ := l
  obtain ⟨p2, n2, c2, f2⟩ := u
  have hnn := hl.nn
  have H := hid hl
  have H' := hid hu
  simp only at hnn ⊢
  clear hl hu
  by_cases hn : n = n2
  case neg =>
    have hn' := int_ne hn
    have HN : Hid (¬ RecsAlike ⟨p, n, c, f⟩ ⟨p2, n2, c2, f2⟩) := fun h => hn h.1.symm
    go_enter Try.func85, Try.ntmps85
    go_wp2
    go_ret
    exact yn_no HN.out (Below.refl _ _)
  subst hn
  go_enter Try.func85, Try.ntmps85
  go_wp2_with fail
  go_loopw [5] (fun x wr => ∃ j : Nat, j ≤ n ∧ x = .int .i64 j ∧ (∀ q, q < j → RT.Alike (f q) (f2 q)) ∧ Below w.heap.size w wr) (fun x _ => n - (intOf x).toNat)
  case atStart => exact ⟨0, Nat.zero_le _, rfl, fun q hq => absurd hq (by omega), Below.refl _ _⟩
  case round =>
    obtain ⟨j, hj, rfl, hA, hbel⟩ := hrel
    have HA := hid hA
    have HB := hid hbel
    clear hA
    by_cases hlt : j < n
    · have hlt' : (j : Int) < (n : Int) := by omega
      obtain ⟨b1, o1, hp, _, hl1, ha⟩ := H.out.at_ (show 0 < n by omega)
      obtain ⟨b2, o2, hp', _, hl2, ha'⟩ := H'.out.at_ (show 0 < n by omega)
      simp only at hp hp'
      subst hp hp'
      have hca : ∀ r u, (elRec.cells (f j))[r]? = some u → wr.cell? ⟨b1, o1 + j * 6 + r, none⟩ = some u := fun r u hu => (World.cell?_of_block (a := ⟨b1, o1 + j * 6 + r, none⟩) (hbel.block b1 hl1)).trans (ha j hlt r u hu)
      have hcb : ∀ r u, (elRec.cells (f2 j))[r]? = some u → wr.cell? ⟨b2, o2 + j * 6 + r, none⟩ = some u := fun r u hu => (World.cell?_of_block (a := ⟨b2, o2 + j * 6 + r, none⟩) (hbel.block b2 hl2)).trans (ha' j hlt r u hu)
      have a0 := hca 0 _ rfl
      have a1 := hca 1 _ rfl
      have a2 := hca 2 _ rfl
      have a3 := hca 3 _ rfl
      have a4 := hca 4 _ rfl
      have a5 := hca 5 _ rfl
      have e0 := hcb 0 _ rfl
      have e1 := hcb 1 _ rfl
      have e2 := hcb 2 _ rfl
      have e3 := hcb 3 _ rfl
      have e4 := hcb 4 _ rfl
      have e5 := hcb 5 _ rfl
      simp only [Nat.add_zero] at a0 e0
      have HC : Hid (∀ W, Below wr.heap.size wr W → Calls Try.prog 35 #[(f j).val, (f2 j).val] W fun e w' => YesNo (RT.Alike (f j) (f2 j)) e W w') := fun W hW =>
        yRecord (f j) (f2 j) W _ _ ((show RT.In w S (f j) from H.out.each j hlt).below ((HB.out).trans (hW.mono HB.out.size))) ((show RT.In w R (f2 j) from H'.out.each j hlt).below ((HB.out).trans (hW.mono HB.out.size)))
      unfold RT.val at HC
      have HW : Hid (∀ w4, Below wr.heap.size wr.drew w4 → Below w.heap.size w w4) := fun w4 hb4 => HB.out.trans ((((Below.refl wr.heap.size wr).drew.trans hb4)).mono HB.out.size)
      clear ha ha' hbel hca hcb
      go_wp2_with fail
      go_region_with (go_at_call 35; refine (HC.out _ ?_).mono ?_; exact (Below.refl _ _).drew; intro e w4 hP4; obtain ⟨r4, rfl, hr4, hb4⟩ := hP4)
      all_goals
        cases r4 with
        | false =>
          have HN : Hid (¬ RecsAlike ⟨some ⟨b1, o1, none⟩, n, c, f⟩ ⟨some ⟨b2, o2, none⟩, n, c2, f2⟩) := fun h => absurd (hr4.2 (h.2 j hlt)) (by decide)
          have HBe := hid (HW.out w4 hb4)
          clear hr4 hb4
          go_wp2
          go_ret
          exact yn_no HN.out HBe.out
        | true =>
          have HA2 : Hid (∀ q, q < j + 1 → RT.Alike (f q) (f2 q)) := fun q hq => by
            by_cases h : q < j
            · exact HA.out q h
            · obtain rfl : q = j := by omega
              exact hr4.1 rfl
          have HBe := hid (HW.out w4 hb4)
          clear hr4 hb4
          go_wp2
          go_roundw
          case rel => exact ⟨j + 1, by omega, by go_num, HA2.out, HBe.out⟩
          case measure => simp [intOf]; omega
    · obtain rfl : j = n := by omega
      have hlt' : ¬ (j : Int) < (j : Int) := by omega
      clear hbel
      go_wp2
      go_ret
      exact yn_yes ⟨rfl, HA.out⟩ HB.out
end Go.Proofs.Ytikfpoabaaiegaa
