import Derived.Test.YtfonicphdejdlaaGreatPack25
import Derived.Test.YtfonicphdejdlaaGreatWhRow
import Derived.Laws.ResultCell
import Derived.Test.YtfonicphdejdlaaGreatWpI
import Derived.Test.YtfonicphdejdlaaGreatPack29
import Derived.Test.YtfonicphdejdlaaGreatPack31
import Derived.Test.YtfonicphdejdlaaGreatPack33
import Derived.Test.YtfonicphdejdlaaGreatPack35
import Derived.Test.YtfonicphdejdlaaGreatPack23
namespace Go.Proofs.YtfonicphdejdlaaGreat
open Go.RowKit
set_option maxRecDepth 8000
set_option maxHeartbeats 8000000 in
theorem getRow (w : World) (S : Nat → Prop) (p : Option Addr) (c : Nat) (B : List Int) (hB : Byts w S p B.length c (fun j => B.getD j 0)) (hS : ∀ b, S b → b < w.heap.size) : Calls Tryz.prog 27 #[.slice p B.length c] w fun x w' => ∃ t k, x = .returned (.tuple #[OT.val t, .int .i64 k]) ∧ GetP outS OT.val zOT OT.In (fun o y => o.num = y.1 ∧ RT.Alike y.2 o.rec_) w B t k w' := by
  have ha : Below w.heap.size w (w.alloc (.cells #[.int .i64 0, .string ⟨#[]⟩, .int .i64 0, .int .i64 0, .string ⟨#[]⟩, .slice none 0 0, .slice none 0 0] 43)) := (Below.refl _ _).alloc (Nat.le_refl _) _
  have hz0 : (w.alloc (.cells #[.int .i64 0, .string ⟨#[]⟩, .int .i64 0, .int .i64 0, .string ⟨#[]⟩, .slice none 0 0, .slice none 0 0] 43)).heap.size = w.heap.size + 1 := by simp
  have HC := hid (wholeRow (w.alloc (.cells #[.int .i64 0, .string ⟨#[]⟩, .int .i64 0, .int .i64 0, .string ⟨#[]⟩, .slice none 0 0, .slice none 0 0] 43)) S p c B (hB.kept ha.size fun b _ hl => ha.block b hl) (fun b hb => by have := hS b hb; omega))
  have HA := hid ha
  have HV := hid (Box.new w #[.int .i64 0, .string ⟨#[]⟩, .int .i64 0, .int .i64 0, .string ⟨#[]⟩, .slice none 0 0, .slice none 0 0] 43)
  clear hB hS ha
  obtain ⟨n, hn⟩ : ∃ n, n = B.length := ⟨_, rfl⟩
  rw [← hn] at HC ⊢
  clear hn
  go_enter Tryz.func27, Tryz.ntmps27
  go_wp2_with fail
  refine HC.out.mono ?_
  intro x w1 hP
  obtain ⟨t, k, rfl, hg⟩ := WholeP.get (zero := zOT) hP in_zOT
  have hb1 := hg.bel
  have hv := HV.out.below hb1
  have c0 := hv.cell 0
  have f0 := hv.frozen 0
  have c1 := hv.cell 1
  have f1 := hv.frozen 1
  have c2 := hv.cell 2
  have f2 := hv.frozen 2
  have c3 := hv.cell 3
  have f3 := hv.frozen 3
  have c4 := hv.cell 4
  have f4 := hv.frozen 4
  have c5 := hv.cell 5
  have f5 := hv.frozen 5
  have c6 := hv.cell 6
  have f6 := hv.frozen 6
  simp only [List.getElem?_toArray, List.getElem?_cons_zero, List.getElem?_cons_succ] at c0 c1 c2 c3 c4 c5 c6
  have zz := set7_box hv (.int .i64 (t.num : Int)) (.string t.rec_.key) (.int .i64 t.rec_.v.kind) (.int .i64 t.rec_.v.int) (.string t.rec_.v.text) (.slice t.rec_.v.p t.rec_.v.n t.rec_.v.c) (.slice t.rec_.p t.rec_.n t.rec_.c)
  have r0' := zz.cell 0
  have r1' := zz.cell 1
  have r2' := zz.cell 2
  have r3' := zz.cell 3
  have r4' := zz.cell 4
  have r5' := zz.cell 5
  have r6' := zz.cell 6
  simp only [List.getElem?_toArray, List.getElem?_cons_zero, List.getElem?_cons_succ] at r0' r1' r2' r3' r4' r5' r6'
  have HZ := hid (And.intro r0' (And.intro r1' (And.intro r2' (And.intro r3' (And.intro r4' (And.intro r5' (r6')))))))
  have HG := hid hg
  have HB1 := hid hb1
  clear hP hg hb1 hv HC zz r0' r1' r2' r3' r4' r5' r6'
  unfold OT.val
  go_wp2
  obtain ⟨r0', r1', r2', r3', r4', r5', r6'⟩ := HZ.out
  have hfin := But.sets7 w1 w.heap.size (.int .i64 (t.num : Int)) (.string t.rec_.key) (.int .i64 t.rec_.v.kind) (.int .i64 t.rec_.v.int) (.string t.rec_.v.text) (.slice t.rec_.v.p t.rec_.v.n t.rec_.v.c) (.slice t.rec_.p t.rec_.n t.rec_.c)
  have hbf : Below w.heap.size w _ := (HA.out.trans (HB1.out.mono (by omega))).trans (hfin.below (by have := HB1.out.size; omega) (fun k hk e => by omega))
  refine bodyPost_ret (v := .tuple #[OT.val t, .int .i64 k]) (by simp [results, Tryz.results27, go_sem, OT.val, r0', r1', r2', r3', r4', r5', r6']) rfl ⟨t, k, rfl, hbf, ?_, HG.out.good, HG.out.more, HG.out.bad⟩
  exact OT.In.mono (S := fun b => (w.alloc (.cells #[.int .i64 0, .string ⟨#[]⟩, .int .i64 0, .int .i64 0, .string ⟨#[]⟩, .slice none 0 0, .slice none 0 0] 43)).heap.size ≤ b) (OT.In.but HG.out.inn hfin (fun b hb _ e => by omega)) (fun b hb _ => by omega)
end Go.Proofs.YtfonicphdejdlaaGreat

namespace Go.Proofs.YtfonicphdejdlaaGreat
open Go.RowKit
set_option maxRecDepth 8000
/-- the thing with what was read -/
def thOT (k : Int) (t : OT) : Array Value := #[.int .i64 k, .string ⟨#[]⟩, .int .i64 0, .int .i64 0, .string ⟨#[]⟩, .slice none 0 0, .slice none 0 0, .int .i64 0, .slice none 0 0, .int .i64 0, .int .i64 0, .int .i64 0, .int .u32 0, .int .i64 0, .slice none 0 0, .int .i64 0, .slice none 0 0, .slice none 0 0, .slice none 0 0, .slice none 0 0, .int .i64 0, .int .u32 0, .slice none 0 0, .int .i64 (t.num : Int), .string t.rec_.key, .int .i64 t.rec_.v.kind, .int .i64 t.rec_.v.int, .string t.rec_.v.text, .slice t.rec_.v.p t.rec_.v.n t.rec_.v.c, .slice t.rec_.p t.rec_.n t.rec_.c]
theorem thOT_size (k : Int) (t : OT) : (thOT k t).size = 30 := rfl
theorem thOT_one (k : Int) (t : OT) : (thOT k t).all (·.oneCell') = true := by simp [thOT, Value.oneCell']
set_option maxHeartbeats 8000000 in
theorem lawgetRow (w : World) (b : Value) (Q : World → OT → Int → World → Prop) (hQ : ∀ W t k w', Q W t k w' → Below W.heap.size W w') (H : ∀ W, Below w.heap.size w W → Calls Tryz.prog 27 #[b] W fun x w' => ∃ t k, x = .returned (.tuple #[OT.val t, .int .i64 k]) ∧ Q W t k w') : Calls Tryz.prog 12 #[.int .i64 5, b] w fun x w' => ∃ t e W w1, x = .returned (.tuple #[.agg (thOT 5 t), .int .i64 e]) ∧ Below w.heap.size w W ∧ W.heap.size = w.heap.size + 2 ∧ Q W t e w1 ∧ But (fun y => y = w.heap.size ∨ y = w.heap.size + 1) w1 w' := by
  obtain ⟨hz0, hz1, hz2, hz3⟩ := start_thing w 5
  have hBx : Box ((w.alloc (.cells zC 45)).alloc (.cells zC 45)) (w.heap.size + 1) zC 45 := heap_alloc2_new w _ _
  have HBx := hid hBx
  have HC := hid (H _ hz2)
  have HR0 := hid hz0
  have HT0 := hid hz1
  have HB0 := hid hz2
  have HZ := hid hz3
  unfold OT.val at HC
  clear hBx hz0 hz1 hz2 hz3 H
  go_enter Tryz.func12, Tryz.ntmps12
  go_wp2_with (refine wpList_store_row rfl 45 (.tmp 6) (.tmp 9) rfl (w.heap.size + 1) (kC 5) rfl rfl 45 zC HBx.out (by rw [info45]; rfl) rfl (kC_one 5) ?_)
  refine HC.out.mono ?_
  generalize hW : ((w.alloc (.cells zC 45)).alloc (.cells zC 45)).setRow (w.heap.size + 1) (kC 5) = W at *
  rintro x w1 ⟨t, e, rfl, hq⟩
  have hb1 := hQ _ _ _ _ hq
  have ht1 := HT0.out.below hb1
  have hr1 := HR0.out.below hb1
  have c0 := ht1.cell 23
  have f0 := ht1.frozen 23
  have c1 := ht1.cell 24
  have f1 := ht1.frozen 24
  have c2 := ht1.cell 25
  have f2 := ht1.frozen 25
  have c3 := ht1.cell 26
  have f3 := ht1.frozen 26
  have c4 := ht1.cell 27
  have f4 := ht1.frozen 27
  have c5 := ht1.cell 28
  have f5 := ht1.frozen 28
  have c6 := ht1.cell 29
  have f6 := ht1.frozen 29
  simp [kC] at c0 c1 c2 c3 c4 c5 c6
  have ht2 : Box (((((((w1.setCell ⟨w.heap.size + 1, 23, none⟩ (.int .i64 (t.num : Int))).setCell ⟨w.heap.size + 1, 24, none⟩ (.string t.rec_.key)).setCell ⟨w.heap.size + 1, 25, none⟩ (.int .i64 t.rec_.v.kind)).setCell ⟨w.heap.size + 1, 26, none⟩ (.int .i64 t.rec_.v.int)).setCell ⟨w.heap.size + 1, 27, none⟩ (.string t.rec_.v.text)).setCell ⟨w.heap.size + 1, 28, none⟩ (.slice t.rec_.v.p t.rec_.v.n t.rec_.v.c)).setCell ⟨w.heap.size + 1, 29, none⟩ (.slice t.rec_.p t.rec_.n t.rec_.c)) (w.heap.size + 1) (thOT 5 t) 45 := by
    have h := (((((((ht1.set 23 (.int .i64 (t.num : Int))).set 24 (.string t.rec_.key)).set 25 (.int .i64 t.rec_.v.kind)).set 26 (.int .i64 t.rec_.v.int)).set 27 (.string t.rec_.v.text)).set 28 (.slice t.rec_.v.p t.rec_.v.n t.rec_.v.c)).set 29 (.slice t.rec_.p t.rec_.n t.rec_.c))
    simpa [kC, thOT] using h
  have hk2 : But (fun y => y = w.heap.size + 1) w1 (((((((w1.setCell ⟨w.heap.size + 1, 23, none⟩ (.int .i64 (t.num : Int))).setCell ⟨w.heap.size + 1, 24, none⟩ (.string t.rec_.key)).setCell ⟨w.heap.size + 1, 25, none⟩ (.int .i64 t.rec_.v.kind)).setCell ⟨w.heap.size + 1, 26, none⟩ (.int .i64 t.rec_.v.int)).setCell ⟨w.heap.size + 1, 27, none⟩ (.string t.rec_.v.text)).setCell ⟨w.heap.size + 1, 28, none⟩ (.slice t.rec_.v.p t.rec_.v.n t.rec_.v.c)).setCell ⟨w.heap.size + 1, 29, none⟩ (.slice t.rec_.p t.rec_.n t.rec_.c)) := (((((((But.one w1 (w.heap.size + 1)).setAt 23 (.int .i64 (t.num : Int))).setAt 24 (.string t.rec_.key)).setAt 25 (.int .i64 t.rec_.v.kind)).setAt 26 (.int .i64 t.rec_.v.int)).setAt 27 (.string t.rec_.v.text)).setAt 28 (.slice t.rec_.v.p t.rec_.v.n t.rec_.v.c)).setAt 29 (.slice t.rec_.p t.rec_.n t.rec_.c)
  have hr2 := hr1.but hk2 (by omega)
  have HR2 := hid hr2
  have HT2 := hid ht2
  have HK2 := hid hk2
  have HQ := hid hq
  clear ht1 hr1 ht2 hr2 hk2 HC hb1 hq
  go_wp2_with fail
  refine get_tail _ _ _ _ _ _ _ _ _ _ _ _ _ _ _ _ _ _ _ _ _ _ _ _ _ _ _ _ _ _ _ _ _ _ _ _ _ _ _ _ _ _ _ _ _ _ (w.heap.size + 1) w.heap.size (by omega) (thOT 5 t) (thOT_size _ _) (thOT_one _ _) e _ _ _ _ HT2.out HR2.out _ ?_
  intro w3 hb3 hk3
  have HB3 := hid hb3
  have HK3 := hid hk3
  clear hb3 hk3
  go_wp2
  refine bodyPost_ret (v := .tuple #[.agg (thOT 5 t), .int .i64 e]) ?_ rfl ⟨t, e, W, w1, rfl, HB0.out, HZ.out, HQ.out, (HK2.out.mono (fun b _ h => Or.inr h)).trans (HK3.out.mono (fun b _ h => Or.inl h))⟩
  rw [results_cell_tmp rfl]
  have hld := run_loadVar_row (P := Tryz.prog) w3 w.heap.size 45 45 (thOT 5 t) (0, 0) _ HB3.out Tryz.underlying45 rfl (by rw [thOT_size]; exact info45)
  simp [asAddr, Result.andThen, hld]
end Go.Proofs.YtfonicphdejdlaaGreat

namespace Go.Proofs.YtfonicphdejdlaaGreat
open Go.RowKit
set_option maxRecDepth 8000
set_option maxHeartbeats 4000000 in
theorem lawputRow (t : OT) (w : World) (S : Nat → Prop) (hin : RT.In w S t.rec_) (hn : t.num ≤ 1073741824) (hr : chkRec t.rec_ = 0) (hS : ∀ b, S b → b < w.heap.size) : Calls Tryz.prog 11 #[.agg (thOT 5 t)] w fun x w' => PutP (outB t) w x w' := by
  have ha : Below w.heap.size w (w.alloc (.cells (thOT 5 t) 45)) := (Below.refl _ _).alloc (Nat.le_refl _) _
  have hbx := Box.new w (thOT 5 t) 45
  have cc := (hbx.cell 0).trans (show (thOT 5 t)[0]? = some (.int .i64 5) from rfl)
  have c0 := (hbx.cell 23).trans (show (thOT 5 t)[23]? = some (.int .i64 (t.num : Int)) from rfl)
  have c1 := (hbx.cell 24).trans (show (thOT 5 t)[24]? = some (.string t.rec_.key) from rfl)
  have c2 := (hbx.cell 25).trans (show (thOT 5 t)[25]? = some (.int .i64 t.rec_.v.kind) from rfl)
  have c3 := (hbx.cell 26).trans (show (thOT 5 t)[26]? = some (.int .i64 t.rec_.v.int) from rfl)
  have c4 := (hbx.cell 27).trans (show (thOT 5 t)[27]? = some (.string t.rec_.v.text) from rfl)
  have c5 := (hbx.cell 28).trans (show (thOT 5 t)[28]? = some (.slice t.rec_.v.p t.rec_.v.n t.rec_.v.c) from rfl)
  have c6 := (hbx.cell 29).trans (show (thOT 5 t)[29]? = some (.slice t.rec_.p t.rec_.n t.rec_.c) from rfl)
  have HC := hid (putRow_any t _ S (hin.below ha) hn hr (fun b hb => by have := hS b hb; have := ha.size; omega))
  have HA := hid ha
  unfold OT.val at HC
  clear hbx ha hS
  obtain ⟨cT, hcT⟩ : ∃ cT, cT = thOT 5 t := ⟨_, rfl⟩
  rw [← hcT] at HC HA ⊢
  rw [← hcT] at cc c0 c1 c2 c3 c4 c5 c6
  clear hcT
  go_enter Tryz.func11, Tryz.ntmps11
  go_wp2_with fail
  refine HC.out.mono ?_
  rintro x w1 ⟨v1, rfl, ho1, hb1⟩
  have HF := hid (And.intro (ho1.mono HA.out.size) (HA.out.trans (hb1.mono HA.out.size)))
  have HN := fun W => num_any 0 W
  clear ho1 hb1 HC
  go_wp2_with fail
  refine (HN _).mono ?_
  rintro x w2 ⟨rfl, hw2⟩
  subst w2
  go_wp2
  refine bodyPost_ret (v := .tuple #[v1, .int .i64 0]) (by simp [results, Tryz.results11, go_sem]) rfl ?_
  exact ⟨v1, rfl, HF.out.1, HF.out.2⟩
end Go.Proofs.YtfonicphdejdlaaGreat

namespace Go.Proofs.YtfonicphdejdlaaGreat
open Go.RowKit
set_option maxRecDepth 8000
theorem oneKSt (w : World) (S : Nat → Prop) (p : Option Addr) (c : Nat) (B : List Int) (hB : Byts w S p B.length c (fun j => B.getD j 0)) (hS : ∀ b, S b → b < w.heap.size) (hByt : Byt B) (W : World) (hW : Below w.heap.size w W) :
    Calls Tryz.prog 12 #[.int .i64 2, .slice p B.length c] W fun x w' => OneK 2 B x W w' := by
  have HByt := hid hByt
  refine (lawgetSt W (.slice p B.length c) (fun W t k w' => GetP stateS ST.val noS ST.In2 (fun t y => ST.Alike y t) W B t k w') (fun _ _ _ _ h => h.bel) (fun W2 hW2 => getSt W2 S p c B (hB.kept (Nat.le_trans hW.size hW2.size) fun b _ hl => (hW2.block b (Nat.lt_of_lt_of_le hl hW.size)).trans (hW.block b hl)) (fun b hb => Nat.lt_of_lt_of_le (hS b hb) (Nat.le_trans hW.size hW2.size)))).mono ?_
  rintro x w' ⟨t, e, W1, wg, rfl, hbW, hWs, hg, hkg⟩
  have hsg := hg.bel.size
  have hsW := hbW.size
  have hb : Below W.heap.size W w' := (hbW.trans (hg.bel.mono (by omega))).trans (hkg.below (by omega) (fun k hk h => by omega))
  have hin : ST.In2 w' (fun b => W1.heap.size ≤ b) t := ST.In2.but hg.inn hkg (fun b hb _ h => by omega)
  refine ⟨thST 2 t, e, rfl, rfl, thST_one _ _, hb, fun he => ?_, fun he W2 hW2 => ?_⟩
  · cases hq : stateS B with
    | error k2 =>
      obtain ⟨_, _, h3⟩ := hg.bad k2 hq
      rw [h3]
      rfl
    | ok z =>
      obtain ⟨y, R⟩ := z
      cases R with
      | nil => exact absurd (hg.good y hq).1 he
      | cons a R =>
        rw [(hg.more y a R hq).2]
        rfl
  · subst he
    cases hq : stateS B with
    | error k2 =>
      obtain ⟨h1, h2, _⟩ := hg.bad k2 hq
      exact absurd h1.symm (by omega)
    | ok z =>
      obtain ⟨y, R⟩ := z
      cases R with
      | nil =>
        have hi := (hg.good y hq).2
        have h1 := one_state hq HByt.out hi
        have hin2 := ST.In2.below (ST.In2.mono (S' := fun b => b < w'.heap.size) hin (fun b _ hl => hl)) hW2
        have hS2 : ∀ b, b < w'.heap.size → b < W2.heap.size := fun b hb => Nat.lt_of_lt_of_le hb hW2.size
        have h2 := lawputSt t W2 (fun b => b < w'.heap.size) hin2 h1.2 hS2
        rw [h1.1] at h2
        exact h2
      | cons a R => exact absurd (hg.more y a R hq).1 (by decide)
theorem oneKSeg (w : World) (S : Nat → Prop) (p : Option Addr) (c : Nat) (B : List Int) (hB : Byts w S p B.length c (fun j => B.getD j 0)) (hS : ∀ b, S b → b < w.heap.size) (hByt : Byt B) (W : World) (hW : Below w.heap.size w W) :
    Calls Tryz.prog 12 #[.int .i64 3, .slice p B.length c] W fun x w' => OneK 3 B x W w' := by
  have HByt := hid hByt
  refine (lawgetSeg W (.slice p B.length c) (fun W t k w' => GetP segS GT.val zGT GT.In GT.Is W B t k w') (fun _ _ _ _ h => h.bel) (fun W2 hW2 => getSeg W2 S p c B (hB.kept (Nat.le_trans hW.size hW2.size) fun b _ hl => (hW2.block b (Nat.lt_of_lt_of_le hl hW.size)).trans (hW.block b hl)) (fun b hb => Nat.lt_of_lt_of_le (hS b hb) (Nat.le_trans hW.size hW2.size)))).mono ?_
  rintro x w' ⟨t, e, W1, wg, rfl, hbW, hWs, hg, hkg⟩
  have hsg := hg.bel.size
  have hsW := hbW.size
  have hb : Below W.heap.size W w' := (hbW.trans (hg.bel.mono (by omega))).trans (hkg.below (by omega) (fun k hk h => by omega))
  have hin : GT.In w' (fun b => W1.heap.size ≤ b) t := GT.In.but hg.inn hkg (fun b hb _ h => by omega)
  refine ⟨thGT 3 t, e, rfl, rfl, thGT_one _ _, hb, fun he => ?_, fun he W2 hW2 => ?_⟩
  · cases hq : segS B with
    | error k2 =>
      obtain ⟨_, _, h3⟩ := hg.bad k2 hq
      rw [h3]
      rfl
    | ok z =>
      obtain ⟨y, R⟩ := z
      cases R with
      | nil => exact absurd (hg.good y hq).1 he
      | cons a R =>
        rw [(hg.more y a R hq).2]
        rfl
  · subst he
    cases hq : segS B with
    | error k2 =>
      obtain ⟨h1, h2, _⟩ := hg.bad k2 hq
      exact absurd h1.symm (by omega)
    | ok z =>
      obtain ⟨y, R⟩ := z
      cases R with
      | nil =>
        have hi := (hg.good y hq).2
        have h1 := one_seg hq HByt.out hi
        have hin2 := GT.In.below (GT.In.mono (S' := fun b => b < w'.heap.size) hin (fun b _ hl => hl)) hW2
        have hS2 : ∀ b, b < w'.heap.size → b < W2.heap.size := fun b hb => Nat.lt_of_lt_of_le hb hW2.size
        have h2 := lawputSeg t W2 (fun b => b < w'.heap.size) hin2 h1.2 hS2
        rw [h1.1] at h2
        exact h2
      | cons a R => exact absurd (hg.more y a R hq).1 (by decide)
theorem oneKMan (w : World) (S : Nat → Prop) (p : Option Addr) (c : Nat) (B : List Int) (hB : Byts w S p B.length c (fun j => B.getD j 0)) (hS : ∀ b, S b → b < w.heap.size) (hByt : Byt B) (W : World) (hW : Below w.heap.size w W) :
    Calls Tryz.prog 12 #[.int .i64 4, .slice p B.length c] W fun x w' => OneK 4 B x W w' := by
  have HByt := hid hByt
  refine (lawgetMan W (.slice p B.length c) (fun W t k w' => GetP manS MT.val zMT MT.In MT.Is W B t k w') (fun _ _ _ _ h => h.bel) (fun W2 hW2 => getMan W2 S p c B (hB.kept (Nat.le_trans hW.size hW2.size) fun b _ hl => (hW2.block b (Nat.lt_of_lt_of_le hl hW.size)).trans (hW.block b hl)) (fun b hb => Nat.lt_of_lt_of_le (hS b hb) (Nat.le_trans hW.size hW2.size)))).mono ?_
  rintro x w' ⟨t, e, W1, wg, rfl, hbW, hWs, hg, hkg⟩
  have hsg := hg.bel.size
  have hsW := hbW.size
  have hb : Below W.heap.size W w' := (hbW.trans (hg.bel.mono (by omega))).trans (hkg.below (by omega) (fun k hk h => by omega))
  have hin : MT.In w' (fun b => W1.heap.size ≤ b) t := MT.In.but hg.inn hkg (fun b hb _ h => by omega)
  refine ⟨thMT 4 t, e, rfl, rfl, thMT_one _ _, hb, fun he => ?_, fun he W2 hW2 => ?_⟩
  · cases hq : manS B with
    | error k2 =>
      obtain ⟨_, _, h3⟩ := hg.bad k2 hq
      rw [h3]
      rfl
    | ok z =>
      obtain ⟨y, R⟩ := z
      cases R with
      | nil => exact absurd (hg.good y hq).1 he
      | cons a R =>
        rw [(hg.more y a R hq).2]
        rfl
  · subst he
    cases hq : manS B with
    | error k2 =>
      obtain ⟨h1, h2, _⟩ := hg.bad k2 hq
      exact absurd h1.symm (by omega)
    | ok z =>
      obtain ⟨y, R⟩ := z
      cases R with
      | nil =>
        have hi := (hg.good y hq).2
        have h1 := one_man hq HByt.out hi
        have hin2 := MT.In.below (MT.In.mono (S' := fun b => b < w'.heap.size) hin (fun b _ hl => hl)) hW2
        have hS2 : ∀ b, b < w'.heap.size → b < W2.heap.size := fun b hb => Nat.lt_of_lt_of_le hb hW2.size
        have h2 := lawputMan t W2 (fun b => b < w'.heap.size) hin2.2.2 h1.2 hS2
        rw [h1.1] at h2
        exact h2
      | cons a R => exact absurd (hg.more y a R hq).1 (by decide)
theorem oneKRow (w : World) (S : Nat → Prop) (p : Option Addr) (c : Nat) (B : List Int) (hB : Byts w S p B.length c (fun j => B.getD j 0)) (hS : ∀ b, S b → b < w.heap.size) (hByt : Byt B) (W : World) (hW : Below w.heap.size w W) :
    Calls Tryz.prog 12 #[.int .i64 5, .slice p B.length c] W fun x w' => OneK 5 B x W w' := by
  have HByt := hid hByt
  refine (lawgetRow W (.slice p B.length c) (fun W t k w' => GetP outS OT.val zOT OT.In (fun o y => o.num = y.1 ∧ RT.Alike y.2 o.rec_) W B t k w') (fun _ _ _ _ h => h.bel) (fun W2 hW2 => getRow W2 S p c B (hB.kept (Nat.le_trans hW.size hW2.size) fun b _ hl => (hW2.block b (Nat.lt_of_lt_of_le hl hW.size)).trans (hW.block b hl)) (fun b hb => Nat.lt_of_lt_of_le (hS b hb) (Nat.le_trans hW.size hW2.size)))).mono ?_
  rintro x w' ⟨t, e, W1, wg, rfl, hbW, hWs, hg, hkg⟩
  have hsg := hg.bel.size
  have hsW := hbW.size
  have hb : Below W.heap.size W w' := (hbW.trans (hg.bel.mono (by omega))).trans (hkg.below (by omega) (fun k hk h => by omega))
  have hin : OT.In w' (fun b => W1.heap.size ≤ b) t := OT.In.but hg.inn hkg (fun b hb _ h => by omega)
  refine ⟨thOT 5 t, e, rfl, rfl, thOT_one _ _, hb, fun he => ?_, fun he W2 hW2 => ?_⟩
  · cases hq : outS B with
    | error k2 =>
      obtain ⟨_, _, h3⟩ := hg.bad k2 hq
      rw [h3]
      rfl
    | ok z =>
      obtain ⟨y, R⟩ := z
      cases R with
      | nil => exact absurd (hg.good y hq).1 he
      | cons a R =>
        rw [(hg.more y a R hq).2]
        rfl
  · subst he
    cases hq : outS B with
    | error k2 =>
      obtain ⟨h1, h2, _⟩ := hg.bad k2 hq
      exact absurd h1.symm (by omega)
    | ok z =>
      obtain ⟨y, R⟩ := z
      cases R with
      | nil =>
        have hi := (hg.good y hq).2
        have h1 := one_row hq HByt.out hi
        have hin2 := OT.In.below (OT.In.mono (S' := fun b => b < w'.heap.size) hin (fun b _ hl => hl)) hW2
        have hS2 : ∀ b, b < w'.heap.size → b < W2.heap.size := fun b hb => Nat.lt_of_lt_of_le hb hW2.size
        have h2 := lawputRow t W2 (fun b => b < w'.heap.size) hin2.2 h1.2.1 h1.2.2 hS2
        rw [h1.1] at h2
        exact h2
      | cons a R => exact absurd (hg.more y a R hq).1 (by decide)
theorem oneKRec (k : Int) (hk2 : k ≠ 2) (hk3 : k ≠ 3) (hk4 : k ≠ 4) (hk5 : k ≠ 5) (w : World) (S : Nat → Prop) (p : Option Addr) (c : Nat) (B : List Int) (hB : Byts w S p B.length c (fun j => B.getD j 0)) (hS : ∀ b, S b → b < w.heap.size) (hByt : Byt B) (W : World) (hW : Below w.heap.size w W) :
    Calls Tryz.prog 12 #[.int .i64 k, .slice p B.length c] W fun x w' => OneK k B x W w' := by
  have HByt := hid hByt
  refine (lawgetRec k hk2 hk3 hk4 hk5 W (.slice p B.length c) (fun W t k w' => GetP recS RT.val zRT RT.In (fun t y => RT.Alike y t) W B t k w') (fun _ _ _ _ h => h.bel) (fun W2 hW2 => getRec W2 S p c B (hB.kept (Nat.le_trans hW.size hW2.size) fun b _ hl => (hW2.block b (Nat.lt_of_lt_of_le hl hW.size)).trans (hW.block b hl)) (fun b hb => Nat.lt_of_lt_of_le (hS b hb) (Nat.le_trans hW.size hW2.size)))).mono ?_
  rintro x w' ⟨t, e, W1, wg, rfl, hbW, hWs, hg, hkg⟩
  have hsg := hg.bel.size
  have hsW := hbW.size
  have hb : Below W.heap.size W w' := (hbW.trans (hg.bel.mono (by omega))).trans (hkg.below (by omega) (fun k hk h => by omega))
  have hin : RT.In w' (fun b => W1.heap.size ≤ b) t := RT.In.but hg.inn hkg (fun b hb _ h => by omega)
  refine ⟨thRT k t, e, rfl, rfl, thRT_one _ _, hb, fun he => ?_, fun he W2 hW2 => ?_⟩
  · cases hq : recS B with
    | error k2 =>
      obtain ⟨_, _, h3⟩ := hg.bad k2 hq
      rw [h3]
      rfl
    | ok z =>
      obtain ⟨y, R⟩ := z
      cases R with
      | nil => exact absurd (hg.good y hq).1 he
      | cons a R =>
        rw [(hg.more y a R hq).2]
        rfl
  · subst he
    cases hq : recS B with
    | error k2 =>
      obtain ⟨h1, h2, _⟩ := hg.bad k2 hq
      exact absurd h1.symm (by omega)
    | ok z =>
      obtain ⟨y, R⟩ := z
      cases R with
      | nil =>
        have hi := (hg.good y hq).2
        have h1 := one_rec hq HByt.out hi
        have hin2 := RT.In.below (RT.In.mono (S' := fun b => b < w'.heap.size) hin (fun b _ hl => hl)) hW2
        have hS2 : ∀ b, b < w'.heap.size → b < W2.heap.size := fun b hb => Nat.lt_of_lt_of_le hb hW2.size
        have h2 := lawputRec k hk2 hk3 hk4 hk5 t W2 (fun b => b < w'.heap.size) hin2 h1.2 hS2
        rw [h1.1] at h2
        exact h2
      | cons a R => exact absurd (hg.more y a R hq).1 (by decide)
/-- bytes that came in, as a list -/
theorem Byts.toList {w : World} {S : Nat → Prop} {p : Option Addr} {n c : Nat} {f : Nat → Int} (h : Byts w S p n c f) : ∃ B : List Int, B.length = n ∧ Byts w S p B.length c (fun j => B.getD j 0) := by
  have e : ∀ j, j < n → ((List.range n).map f).getD j 0 = f j := fun j hj => by simp [List.getD_eq_getElem?_getD, List.getElem?_range hj]
  refine ⟨(List.range n).map f, by simp, ?_⟩
  rw [show ((List.range n).map f).length = n by simp]
  refine ⟨fun hn => ?_, h.nc, h.nn, h.cc, fun j hj => by rw [e j hj]; exact h.fit j hj, h.nil⟩
  obtain ⟨b, o, hp, hS, hl, ha⟩ := h.at_ hn
  exact ⟨b, o, hp, hS, hl, fun j hj => by rw [e j hj]; exact ha j hj⟩
theorem wireOne_walk (k : Int) (w : World) (S : Nat → Prop) (p : Option Addr) (c : Nat) (B : List Int) (hB : Byts w S p B.length c (fun j => B.getD j 0)) (hS : ∀ b, S b → b < w.heap.size) :
    Calls Tryz.prog 4 #[.int .i64 k, .slice p B.length c] w fun x w' => x = .returned (.bool true) ∧ Below w.heap.size w w' := by
  have hByt : Byt B := by
    intro x hx
    obtain ⟨j, hj, rfl⟩ := List.getElem_of_mem hx
    have := hB.fit j hj
    simpa [List.getD_eq_getElem?_getD, List.getElem?_eq_getElem hj] using this
  refine one_core k w S p c B hB fun W hW _ => ?_
  by_cases h2 : k = 2
  · subst h2; exact oneKSt w S p c B hB hS hByt W hW
  by_cases h3 : k = 3
  · subst h3; exact oneKSeg w S p c B hB hS hByt W hW
  by_cases h4 : k = 4
  · subst h4; exact oneKMan w S p c B hB hS hByt W hW
  by_cases h5 : k = 5
  · subst h5; exact oneKRow w S p c B hB hS hByt W hW
  exact oneKRec k h2 h3 h4 h5 w S p c B hB hS hByt W hW
end Go.Proofs.YtfonicphdejdlaaGreat

namespace Go.Proofs.YtfonicphdejdlaaGreat
open Go.RowKit
set_option maxRecDepth 8000

theorem cNew (w : World) : Calls Tryz.prog 33 #[] w fun e w1 => ∃ b, b = w.heap.size ∧ e = .returned (.pointer (some ⟨b, 0, none⟩)) ∧ Cn w1 b ∧ Below w.heap.size w w1 := by
  refine (szNew_any w).mono fun e w1 hp => ?_
  obtain ⟨rfl, rfl⟩ := hp
  exact ⟨_, rfl, rfl, ⟨10000, Box.new w _ _, by decide, by decide⟩, (Below.refl _ _).alloc (Nat.le_refl _) _⟩
set_option maxHeartbeats 4000000 in
theorem inside_any (t : HI) (w : World) (S : Nat → Prop) (hin : HI.In w S t) (hS : ∀ b, S b → b < w.heap.size) : Calls Tryz.prog 17 #[.agg t.cells] w fun x w' => ∃ b, x = .returned (.bool b) ∧ Below w.heap.size w w' := by
  have ha : Below w.heap.size w (w.alloc (.cells t.cells 45)) := (Below.refl _ _).alloc (Nat.le_refl _) _
  have hbx := Box.new w t.cells 45
  have HIn := hid (hin.below ha)
  have HS := hid hS
  have HA := hid ha
  have HBx := hid hbx
  have hsz : (w.alloc (.cells t.cells 45)).heap.size = w.heap.size + 1 := by simp
  have HSz := hid hsz
  clear hin hS ha hbx hsz
  obtain ⟨cT, hcT⟩ : ∃ cT, cT = t.cells := ⟨_, rfl⟩
  rw [← hcT] at HIn HA HBx HSz ⊢
  have HcT := hid hcT
  clear hcT
  go_enter Tryz.func17, Tryz.ntmps17
  go_wp2_with fail
  refine (cNew _).mono ?_
  rintro e w1 ⟨b, hb, rfl, hc1, hb1⟩
  have hbn : b = w.heap.size + 1 := hb.trans HSz.out
  have hne : w.heap.size ≠ b := by omega
  have hSb : ¬ S b := fun h => by have := HS.out b h; omega
  have HI1 := hid (HIn.out.below hb1)
  have HB1 := hid hb1
  have HX1 : Hid (Cn w1 b ∧ But (fun k => k = b) w1 w1 ∧ Box w1 w.heap.size t.cells 45) := ⟨hc1, But.refl _ _, by rw [← HcT.out]; exact HBx.out.below hb1⟩
  have HBn := hid hbn
  clear hb hc1 hb1 hbn
  have q0_1 := (HX1.out.2.2.cell 1).trans (show t.cells[1]? = some (.string t.r.key) from rfl)
  have q0_2 := (HX1.out.2.2.cell 2).trans (show t.cells[2]? = some (.int .i64 t.r.v.kind) from rfl)
  have q0_3 := (HX1.out.2.2.cell 3).trans (show t.cells[3]? = some (.int .i64 t.r.v.int) from rfl)
  have q0_4 := (HX1.out.2.2.cell 4).trans (show t.cells[4]? = some (.string t.r.v.text) from rfl)
  have q0_5 := (HX1.out.2.2.cell 5).trans (show t.cells[5]? = some (.slice t.r.v.p t.r.v.n t.r.v.c) from rfl)
  have q0_6 := (HX1.out.2.2.cell 6).trans (show t.cells[6]? = some (.slice t.r.p t.r.n t.r.c) from rfl)
  have HC := hid (cRecord t.r w1 S b (HI1.out.r.but HX1.out.2.1 (fun x hx _ e => hSb (e ▸ hx))) hSb HX1.out.1)
  unfold RT.val at HC
  go_wp2_with fail
  refine HC.out.mono ?_
  rintro e w2 ⟨rfl, hc, hk⟩
  have HX2 : Hid (Cn w2 b ∧ But (fun k => k = b) w1 w2 ∧ Box w2 w.heap.size t.cells 45) := ⟨hc, HX1.out.2.1.trans hk, HX1.out.2.2.but hk hne⟩
  clear hc hk HC  q0_1 q0_2 q0_3 q0_4 q0_5 q0_6
  have q1_8 := (HX2.out.2.2.cell 8).trans (show t.cells[8]? = some (.slice t.s.p t.s.n t.s.c) from rfl)
  have HC := hid (cCells ⟨t.s.p, t.s.n, t.s.c, t.s.cell⟩ w2 S b ((ST.toLT HI1.out.s.i HI1.out.s.nil).but HX2.out.2.1 (fun x hx _ e => hSb (e ▸ hx))) hSb HX2.out.1)
  go_wp2_with fail
  refine HC.out.mono ?_
  rintro e w3 ⟨rfl, hc, hk⟩
  have HX3 : Hid (Cn w3 b ∧ But (fun k => k = b) w1 w3 ∧ Box w3 w.heap.size t.cells 45) := ⟨hc, HX2.out.2.1.trans hk, HX2.out.2.2.but hk hne⟩
  clear hc hk HC HX2 q1_8
  have q2_13 := (HX3.out.2.2.cell 13).trans (show t.cells[13]? = some (.int .i64 t.g.st.num) from rfl)
  have q2_14 := (HX3.out.2.2.cell 14).trans (show t.cells[14]? = some (.slice t.g.st.p t.g.st.n t.g.st.c) from rfl)
  have q2_18 := (HX3.out.2.2.cell 18).trans (show t.cells[18]? = some (.slice t.g.logs.p t.g.logs.n t.g.logs.c) from rfl)
  have q2_19 := (HX3.out.2.2.cell 19).trans (show t.cells[19]? = some (.slice t.g.pend.p t.g.pend.n t.g.pend.c) from rfl)
  have HC := hid (cPart t.g.st t.g.logs t.g.pend w3 S b (HI1.out.g.st.but HX3.out.2.1 (fun x hx _ e => hSb (e ▸ hx))) (HI1.out.g.logs.but HX3.out.2.1 (fun x hx _ e => hSb (e ▸ hx))) (HI1.out.g.pend.but HX3.out.2.1 (fun x hx _ e => hSb (e ▸ hx))) hSb HX3.out.1)
  go_wp2_with fail
  refine HC.out.mono ?_
  rintro e w4 ⟨rfl, hc, hk⟩
  have HX4 : Hid (Cn w4 b ∧ But (fun k => k = b) w1 w4 ∧ Box w4 w.heap.size t.cells 45) := ⟨hc, HX3.out.2.1.trans hk, HX3.out.2.2.but hk hne⟩
  clear hc hk HC HX3 q2_13 q2_14 q2_18 q2_19
  have q3_15 := (HX4.out.2.2.cell 15).trans (show t.cells[15]? = some (.int .i64 t.g.dnum) from rfl)
  have q3_16 := (HX4.out.2.2.cell 16).trans (show t.cells[16]? = some (.slice t.g.set.p t.g.set.n t.g.set.c) from rfl)
  have q3_17 := (HX4.out.2.2.cell 17).trans (show t.cells[17]? = some (.slice t.g.gone.p t.g.gone.n t.g.gone.c) from rfl)
  have HC := hid (cDelta t.g.dnum t.g.set t.g.gone w4 S b (HI1.out.g.set.but HX4.out.2.1 (fun x hx _ e => hSb (e ▸ hx))) (HI1.out.g.gone.but HX4.out.2.1 (fun x hx _ e => hSb (e ▸ hx))) hSb HX4.out.1)
  go_wp2_with fail
  refine HC.out.mono ?_
  rintro e w5 ⟨rfl, hc, hk⟩
  have HX5 : Hid (Cn w5 b ∧ But (fun k => k = b) w1 w5 ∧ Box w5 w.heap.size t.cells 45) := ⟨hc, HX4.out.2.1.trans hk, HX4.out.2.2.but hk hne⟩
  clear hc hk HC HX4 q3_15 q3_16 q3_17
  have q4_24 := (HX5.out.2.2.cell 24).trans (show t.cells[24]? = some (.string t.o.rec_.key) from rfl)
  have q4_25 := (HX5.out.2.2.cell 25).trans (show t.cells[25]? = some (.int .i64 t.o.rec_.v.kind) from rfl)
  have q4_26 := (HX5.out.2.2.cell 26).trans (show t.cells[26]? = some (.int .i64 t.o.rec_.v.int) from rfl)
  have q4_27 := (HX5.out.2.2.cell 27).trans (show t.cells[27]? = some (.string t.o.rec_.v.text) from rfl)
  have q4_28 := (HX5.out.2.2.cell 28).trans (show t.cells[28]? = some (.slice t.o.rec_.v.p t.o.rec_.v.n t.o.rec_.v.c) from rfl)
  have q4_29 := (HX5.out.2.2.cell 29).trans (show t.cells[29]? = some (.slice t.o.rec_.p t.o.rec_.n t.o.rec_.c) from rfl)
  have HC := hid (cRecord t.o.rec_ w5 S b (HI1.out.o.but HX5.out.2.1 (fun x hx _ e => hSb (e ▸ hx))) hSb HX5.out.1)
  unfold RT.val at HC
  go_wp2_with fail
  refine HC.out.mono ?_
  rintro e w6 ⟨rfl, hc, hk⟩
  have HX6 : Hid (Cn w6 b ∧ But (fun k => k = b) w1 w6 ∧ Box w6 w.heap.size t.cells 45) := ⟨hc, HX5.out.2.1.trans hk, HX5.out.2.2.but hk hne⟩
  clear hc hk HC HX5 q4_24 q4_25 q4_26 q4_27 q4_28 q4_29
  obtain ⟨x9, HO⟩ := cOk w6 b HX6.out.1
  go_wp2_with fail
  refine HO.mono ?_
  rintro e w7 ⟨rfl, hw7⟩
  subst w7
  go_wp2
  go_ret
  refine ⟨x9, rfl, ?_⟩
  have h1 : Below w.heap.size w w1 := HA.out.trans (HB1.out.mono (by rw [HSz.out]; omega))
  exact h1.trans (HX6.out.2.1.below h1.size (fun k hk e => by have := HBn.out; omega))
end Go.Proofs.YtfonicphdejdlaaGreat
