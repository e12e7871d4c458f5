import Derived.Test.YtfonicphdejdlaaGreatPack25
import Derived.Test.YtfonicphdejdlaaGreatWhRec
import Derived.Laws.ResultCell
import Derived.Test.YtfonicphdejdlaaGreatPack17
namespace Go.Proofs.YtfonicphdejdlaaGreat
open Go.RowKit
set_option maxRecDepth 8000
set_option maxHeartbeats 8000000 in
theorem getRec (w : World) (S : Nat → Prop) (p : Option Addr) (c : Nat) (B : List Int) (hB : Byts w S p B.length c (fun j => B.getD j 0)) (hS : ∀ b, S b → b < w.heap.size) : Calls Tryz.prog 28 #[.slice p B.length c] w fun x w' => ∃ t k, x = .returned (.tuple #[RT.val t, .int .i64 k]) ∧ GetP recS RT.val zRT RT.In (fun t y => RT.Alike y t) w B t k w' := by
  have ha : Below w.heap.size w (w.alloc (.cells #[.string ⟨#[]⟩, .int .i64 0, .int .i64 0, .string ⟨#[]⟩, .slice none 0 0, .slice none 0 0] 27)) := (Below.refl _ _).alloc (Nat.le_refl _) _
  have hz0 : (w.alloc (.cells #[.string ⟨#[]⟩, .int .i64 0, .int .i64 0, .string ⟨#[]⟩, .slice none 0 0, .slice none 0 0] 27)).heap.size = w.heap.size + 1 := by simp
  have HC := hid (wholeRec (w.alloc (.cells #[.string ⟨#[]⟩, .int .i64 0, .int .i64 0, .string ⟨#[]⟩, .slice none 0 0, .slice none 0 0] 27)) S p c B (hB.kept ha.size fun b _ hl => ha.block b hl) (fun b hb => by have := hS b hb; omega))
  have HA := hid ha
  have HV := hid (Box.new w #[.string ⟨#[]⟩, .int .i64 0, .int .i64 0, .string ⟨#[]⟩, .slice none 0 0, .slice none 0 0] 27)
  clear hB hS ha
  obtain ⟨n, hn⟩ : ∃ n, n = B.length := ⟨_, rfl⟩
  rw [← hn] at HC ⊢
  clear hn
  go_enter Tryz.func28, Tryz.ntmps28
  go_wp2_with fail
  refine HC.out.mono ?_
  intro x w1 hP
  obtain ⟨t, k, rfl, hg⟩ := WholeP.get (zero := zRT) hP in_zRT
  have hb1 := hg.bel
  have hv := HV.out.below hb1
  have c0 := hv.cell 0
  have f0 := hv.frozen 0
  have c1 := hv.cell 1
  have f1 := hv.frozen 1
  have c2 := hv.cell 2
  have f2 := hv.frozen 2
  have c3 := hv.cell 3
  have f3 := hv.frozen 3
  have c4 := hv.cell 4
  have f4 := hv.frozen 4
  have c5 := hv.cell 5
  have f5 := hv.frozen 5
  simp only [List.getElem?_toArray, List.getElem?_cons_zero, List.getElem?_cons_succ] at c0 c1 c2 c3 c4 c5
  have zz := set6_box hv (.string t.key) (.int .i64 t.v.kind) (.int .i64 t.v.int) (.string t.v.text) (.slice t.v.p t.v.n t.v.c) (.slice t.p t.n t.c)
  have r0' := zz.cell 0
  have r1' := zz.cell 1
  have r2' := zz.cell 2
  have r3' := zz.cell 3
  have r4' := zz.cell 4
  have r5' := zz.cell 5
  simp only [List.getElem?_toArray, List.getElem?_cons_zero, List.getElem?_cons_succ] at r0' r1' r2' r3' r4' r5'
  have HZ := hid (And.intro r0' (And.intro r1' (And.intro r2' (And.intro r3' (And.intro r4' (r5'))))))
  have HG := hid hg
  have HB1 := hid hb1
  clear hP hg hb1 hv HC zz r0' r1' r2' r3' r4' r5'
  unfold RT.val
  go_wp2
  obtain ⟨r0', r1', r2', r3', r4', r5'⟩ := HZ.out
  have hfin := But.sets6 w1 w.heap.size (.string t.key) (.int .i64 t.v.kind) (.int .i64 t.v.int) (.string t.v.text) (.slice t.v.p t.v.n t.v.c) (.slice t.p t.n t.c)
  have hbf : Below w.heap.size w _ := (HA.out.trans (HB1.out.mono (by omega))).trans (hfin.below (by have := HB1.out.size; omega) (fun k hk e => by omega))
  refine bodyPost_ret (v := .tuple #[RT.val t, .int .i64 k]) (by simp [results, Tryz.results28, go_sem, RT.val, r0', r1', r2', r3', r4', r5']) rfl ⟨t, k, rfl, hbf, ?_, HG.out.good, HG.out.more, HG.out.bad⟩
  exact RT.In.mono (S := fun b => (w.alloc (.cells #[.string ⟨#[]⟩, .int .i64 0, .int .i64 0, .string ⟨#[]⟩, .slice none 0 0, .slice none 0 0] 27)).heap.size ≤ b) (RT.In.but HG.out.inn hfin (fun b hb _ e => by omega)) (fun b hb _ => by omega)
end Go.Proofs.YtfonicphdejdlaaGreat

namespace Go.Proofs.YtfonicphdejdlaaGreat
open Go.RowKit
set_option maxRecDepth 8000
/-- the thing with what was read -/
def thRT (k : Int) (t : RT) : Array Value := #[.int .i64 k, .string t.key, .int .i64 t.v.kind, .int .i64 t.v.int, .string t.v.text, .slice t.v.p t.v.n t.v.c, .slice t.p t.n t.c, .int .i64 0, .slice none 0 0, .int .i64 0, .int .i64 0, .int .i64 0, .int .u32 0, .int .i64 0, .slice none 0 0, .int .i64 0, .slice none 0 0, .slice none 0 0, .slice none 0 0, .slice none 0 0, .int .i64 0, .int .u32 0, .slice none 0 0, .int .i64 0, .string ⟨#[]⟩, .int .i64 0, .int .i64 0, .string ⟨#[]⟩, .slice none 0 0, .slice none 0 0]
theorem thRT_size (k : Int) (t : RT) : (thRT k t).size = 30 := rfl
theorem thRT_one (k : Int) (t : RT) : (thRT k t).all (·.oneCell') = true := by simp [thRT, Value.oneCell']
set_option maxHeartbeats 8000000 in
theorem lawgetRec (k : Int) (hk2 : k ≠ 2) (hk3 : k ≠ 3) (hk4 : k ≠ 4) (hk5 : k ≠ 5) (w : World) (b : Value) (Q : World → RT → Int → World → Prop) (hQ : ∀ W t k w', Q W t k w' → Below W.heap.size W w') (H : ∀ W, Below w.heap.size w W → Calls Tryz.prog 28 #[b] W fun x w' => ∃ t k, x = .returned (.tuple #[RT.val t, .int .i64 k]) ∧ Q W t k w') : Calls Tryz.prog 12 #[.int .i64 k, b] w fun x w' => ∃ t e W w1, x = .returned (.tuple #[.agg (thRT k t), .int .i64 e]) ∧ Below w.heap.size w W ∧ W.heap.size = w.heap.size + 2 ∧ Q W t e w1 ∧ But (fun y => y = w.heap.size ∨ y = w.heap.size + 1) w1 w' := by
  obtain ⟨hz0, hz1, hz2, hz3⟩ := start_thing w k
  have hBx : Box ((w.alloc (.cells zC 45)).alloc (.cells zC 45)) (w.heap.size + 1) zC 45 := heap_alloc2_new w _ _
  have HBx := hid hBx
  have HC := hid (H _ hz2)
  have HR0 := hid hz0
  have HT0 := hid hz1
  have HB0 := hid hz2
  have HZ := hid hz3
  have q2 : (k == 2) = false := by simpa using hk2
  have q3 : (k == 3) = false := by simpa using hk3
  have q4 : (k == 4) = false := by simpa using hk4
  have q5 : (k == 5) = false := by simpa using hk5
  unfold RT.val at HC
  clear hBx hz0 hz1 hz2 hz3 H hk2 hk3 hk4 hk5
  go_enter Tryz.func12, Tryz.ntmps12
  go_wp2_with (refine wpList_store_row rfl 45 (.tmp 6) (.tmp 9) rfl (w.heap.size + 1) (kC k) rfl rfl 45 zC HBx.out (by rw [info45]; rfl) rfl (kC_one k) ?_)
  refine HC.out.mono ?_
  generalize hW : ((w.alloc (.cells zC 45)).alloc (.cells zC 45)).setRow (w.heap.size + 1) (kC k) = W at *
  rintro x w1 ⟨t, e, rfl, hq⟩
  have hb1 := hQ _ _ _ _ hq
  have ht1 := HT0.out.below hb1
  have hr1 := HR0.out.below hb1
  have c0 := ht1.cell 1
  have f0 := ht1.frozen 1
  have c1 := ht1.cell 2
  have f1 := ht1.frozen 2
  have c2 := ht1.cell 3
  have f2 := ht1.frozen 3
  have c3 := ht1.cell 4
  have f3 := ht1.frozen 4
  have c4 := ht1.cell 5
  have f4 := ht1.frozen 5
  have c5 := ht1.cell 6
  have f5 := ht1.frozen 6
  simp [kC] at c0 c1 c2 c3 c4 c5
  have ht2 : Box ((((((w1.setCell ⟨w.heap.size + 1, 1, none⟩ (.string t.key)).setCell ⟨w.heap.size + 1, 2, none⟩ (.int .i64 t.v.kind)).setCell ⟨w.heap.size + 1, 3, none⟩ (.int .i64 t.v.int)).setCell ⟨w.heap.size + 1, 4, none⟩ (.string t.v.text)).setCell ⟨w.heap.size + 1, 5, none⟩ (.slice t.v.p t.v.n t.v.c)).setCell ⟨w.heap.size + 1, 6, none⟩ (.slice t.p t.n t.c)) (w.heap.size + 1) (thRT k t) 45 := by
    have h := ((((((ht1.set 1 (.string t.key)).set 2 (.int .i64 t.v.kind)).set 3 (.int .i64 t.v.int)).set 4 (.string t.v.text)).set 5 (.slice t.v.p t.v.n t.v.c)).set 6 (.slice t.p t.n t.c))
    simpa [kC, thRT] using h
  have hk2 : But (fun y => y = w.heap.size + 1) w1 ((((((w1.setCell ⟨w.heap.size + 1, 1, none⟩ (.string t.key)).setCell ⟨w.heap.size + 1, 2, none⟩ (.int .i64 t.v.kind)).setCell ⟨w.heap.size + 1, 3, none⟩ (.int .i64 t.v.int)).setCell ⟨w.heap.size + 1, 4, none⟩ (.string t.v.text)).setCell ⟨w.heap.size + 1, 5, none⟩ (.slice t.v.p t.v.n t.v.c)).setCell ⟨w.heap.size + 1, 6, none⟩ (.slice t.p t.n t.c)) := ((((((But.one w1 (w.heap.size + 1)).setAt 1 (.string t.key)).setAt 2 (.int .i64 t.v.kind)).setAt 3 (.int .i64 t.v.int)).setAt 4 (.string t.v.text)).setAt 5 (.slice t.v.p t.v.n t.v.c)).setAt 6 (.slice t.p t.n t.c)
  have hr2 := hr1.but hk2 (by omega)
  have HR2 := hid hr2
  have HT2 := hid ht2
  have HK2 := hid hk2
  have HQ := hid hq
  clear ht1 hr1 ht2 hr2 hk2 HC hb1 hq
  go_wp2_with fail
  refine get_tail _ _ _ _ _ _ _ _ _ _ _ _ _ _ _ _ _ _ _ _ _ _ _ _ _ _ _ _ _ _ _ _ _ _ _ _ _ _ _ _ _ _ _ _ _ _ (w.heap.size + 1) w.heap.size (by omega) (thRT k t) (thRT_size _ _) (thRT_one _ _) e _ _ _ _ HT2.out HR2.out _ ?_
  intro w3 hb3 hk3
  have HB3 := hid hb3
  have HK3 := hid hk3
  clear hb3 hk3
  go_wp2
  refine bodyPost_ret (v := .tuple #[.agg (thRT k t), .int .i64 e]) ?_ rfl ⟨t, e, W, w1, rfl, HB0.out, HZ.out, HQ.out, (HK2.out.mono (fun b _ h => Or.inr h)).trans (HK3.out.mono (fun b _ h => Or.inl h))⟩
  rw [results_cell_tmp rfl]
  have hld := run_loadVar_row (P := Tryz.prog) w3 w.heap.size 45 45 (thRT k t) (0, 0) _ HB3.out Tryz.underlying45 rfl (by rw [thRT_size]; exact info45)
  simp [asAddr, Result.andThen, hld]
end Go.Proofs.YtfonicphdejdlaaGreat

namespace Go.Proofs.YtfonicphdejdlaaGreat
open Go.RowKit
set_option maxRecDepth 8000
set_option maxHeartbeats 4000000 in
theorem lawputRec (k : Int) (hk2 : k ≠ 2) (hk3 : k ≠ 3) (hk4 : k ≠ 4) (hk5 : k ≠ 5) (t : RT) (w : World) (S : Nat → Prop) (hin : RT.In w S t) (hr : chkRec t = 0) (hS : ∀ b, S b → b < w.heap.size) : Calls Tryz.prog 11 #[.agg (thRT k t)] w fun x w' => PutP (recB t) w x w' := by
  have ha : Below w.heap.size w (w.alloc (.cells (thRT k t) 45)) := (Below.refl _ _).alloc (Nat.le_refl _) _
  have hbx := Box.new w (thRT k t) 45
  have cc := (hbx.cell 0).trans (show (thRT k t)[0]? = some (.int .i64 k) from rfl)
  have c0 := (hbx.cell 1).trans (show (thRT k t)[1]? = some (.string t.key) from rfl)
  have c1 := (hbx.cell 2).trans (show (thRT k t)[2]? = some (.int .i64 t.v.kind) from rfl)
  have c2 := (hbx.cell 3).trans (show (thRT k t)[3]? = some (.int .i64 t.v.int) from rfl)
  have c3 := (hbx.cell 4).trans (show (thRT k t)[4]? = some (.string t.v.text) from rfl)
  have c4 := (hbx.cell 5).trans (show (thRT k t)[5]? = some (.slice t.v.p t.v.n t.v.c) from rfl)
  have c5 := (hbx.cell 6).trans (show (thRT k t)[6]? = some (.slice t.p t.n t.c) from rfl)
  have HC := hid (putRec_any t _ S (hin.below ha) hr (fun b hb => by have := hS b hb; have := ha.size; omega))
  have HA := hid ha
  have q2 : (k == 2) = false := by simpa using hk2
  have q3 : (k == 3) = false := by simpa using hk3
  have q4 : (k == 4) = false := by simpa using hk4
  have q5 : (k == 5) = false := by simpa using hk5
  unfold RT.val at HC
  clear hbx ha hS hk2 hk3 hk4 hk5
  obtain ⟨cT, hcT⟩ : ∃ cT, cT = thRT k t := ⟨_, rfl⟩
  rw [← hcT] at HC HA ⊢
  rw [← hcT] at cc c0 c1 c2 c3 c4 c5
  clear hcT
  go_enter Tryz.func11, Tryz.ntmps11
  go_wp2_with fail
  refine HC.out.mono ?_
  rintro x w1 ⟨v1, rfl, ho1, hb1⟩
  have HF := hid (And.intro (ho1.mono HA.out.size) (HA.out.trans (hb1.mono HA.out.size)))
  have HN := fun W => num_any 0 W
  clear ho1 hb1 HC
  go_wp2_with fail
  refine (HN _).mono ?_
  rintro x w2 ⟨rfl, hw2⟩
  subst w2
  go_wp2
  refine bodyPost_ret (v := .tuple #[v1, .int .i64 0]) (by simp [results, Tryz.results11, go_sem]) rfl ?_
  exact ⟨v1, rfl, HF.out.1, HF.out.2⟩
end Go.Proofs.YtfonicphdejdlaaGreat

namespace Go.Proofs.YtfonicphdejdlaaGreat
open Go.RowKit
set_option maxRecDepth 8000
set_option maxHeartbeats 2000000 in
theorem wsame_any (w : World) (S S' : Nat → Prop) (p p' : Option Addr) (n c c' : Nat) (f : Nat → Int) (h : Byts w S p n c f) (h' : Byts w S' p' n c' f) : Calls Tryz.prog 14 #[.slice p n c, .slice p' n c'] w fun x w' => x = .returned (.bool true) ∧ Below w.heap.size w w' := by
  have H := hid h
  have H' := hid h'
  have hnn := h.nn
  clear h h'
  go_enter Tryz.func14, Tryz.ntmps14
  go_wp2_with fail
  go_loopw [5] (fun x wr => ∃ j : Nat, j ≤ n ∧ x = .int .i64 j ∧ Below w.heap.size w wr) (fun x _ => n - (intOf x).toNat)
  case atStart => exact ⟨0, Nat.zero_le _, rfl, Below.refl _ _⟩
  case round =>
    obtain ⟨j, hj, rfl, hbel⟩ := hrel
    by_cases hlt : j < n
    · have hlt' : (j : Int) < (n : Int) := by omega
      obtain ⟨b1, o1, hp, _, hl1, ha⟩ := H.out.at_ (by omega)
      obtain ⟨b2, o2, hp', _, hl2, ha'⟩ := H'.out.at_ (by omega)
      subst hp hp'
      have d1 := (World.cell?_of_block (a := ⟨b1, o1 + j, none⟩) (hbel.block b1 hl1)).trans (ha j hlt)
      have d2 := (World.cell?_of_block (a := ⟨b2, o2 + j, none⟩) (hbel.block b2 hl2)).trans (ha' j hlt)
      have HB := hid hbel
      clear ha ha' hbel
      go_wp2_with fail
      go_region
      go_wp2
      go_roundw
      case rel => exact ⟨j + 1, by omega, by go_num, HB.out.drew⟩
      case measure => simp [intOf]; omega
    · obtain rfl : j = n := by omega
      have hlt' : ¬ (j : Int) < (j : Int) := by omega
      have HB := hid hbel
      clear hbel
      go_wp2
      go_ret
      exact ⟨rfl, HB.out⟩
/-- two values without items that are the same -/
structure Leaf (t u : VT) : Prop where
  kind : u.kind = t.kind
  int : u.int = t.int
  text : u.text = t.text
  n : t.n = 0
  n' : u.n = 0
set_option maxHeartbeats 2000000 in
theorem sameValue_leaf (t u : VT) (h : Leaf t u) (w : World) : Calls Tryz.prog 32 #[t.val, u.val] w fun x w' => x = .returned (.bool true) ∧ Below w.heap.size w w' := by
  obtain ⟨h1, h2, h3, h4, h5⟩ := h
  unfold VT.val
  rw [h1, h2, h3, h4, h5]
  clear h1 h2 h3 h4 h5
  go_enter Tryz.func32, Tryz.ntmps32
  go_wp2_with fail
  go_loopw [5] (fun x wr => x = .int .i64 0 ∧ Below w.heap.size w wr ∧ Box wr w.heap.size #[.int .i64 t.kind, .int .i64 t.int, .string t.text, .slice t.p 0 t.c] 24) (fun x _ => 0 - (intOf x).toNat)
  case atStart => exact ⟨rfl, ((Below.refl _ _).alloc (Nat.le_refl _) _).alloc (by simp) _, (Box.new w _ _).below ((Below.refl _ _).alloc (Nat.le_refl _) _)⟩
  case round =>
    obtain ⟨rfl, hb, hx⟩ := hrel
    have c3 := hx.cell 3
    simp only [List.getElem?_toArray, List.getElem?_cons_zero, List.getElem?_cons_succ] at c3
    have HB := hid hb
    clear hb hx
    go_wp2
    go_ret
    exact ⟨rfl, HB.out⟩
/-- two records without items in their values that are the same -/
structure LeafR (r q : RT) : Prop where
  key : q.key = r.key
  v : Leaf r.v q.v
  n : q.n = r.n
  loop : ∀ j, j < r.n → q.loop j = r.loop j
set_option maxHeartbeats 4000000 in
theorem sameRecord_leaf (r q : RT) (h : LeafR r q) (w : World) (S : Nat → Prop) (hr : RT.In w S r) (hq : RT.In w S q) (hS : ∀ b, S b → b < w.heap.size) : Calls Tryz.prog 16 #[r.val, q.val] w fun x w' => x = .returned (.bool true) ∧ Below w.heap.size w w' := by
  have HV := fun W => sameValue_leaf r.v q.v h.v W
  have hk := h.key
  have hn := h.n
  have HLp := hid h.loop
  have hb0 : Below w.heap.size w ((w.alloc (.cells #[.string r.key, .int .i64 r.v.kind, .int .i64 r.v.int, .string r.v.text, .slice r.v.p r.v.n r.v.c, .slice r.p r.n r.c] 27)).alloc (.cells #[.string q.key, .int .i64 q.v.kind, .int .i64 q.v.int, .string q.v.text, .slice q.v.p q.v.n q.v.c, .slice q.p q.n q.c] 27)) := ((Below.refl _ _).alloc (Nat.le_refl _) _).alloc (by simp) _
  have hx0 := (Box.new w #[.string r.key, .int .i64 r.v.kind, .int .i64 r.v.int, .string r.v.text, .slice r.v.p r.v.n r.v.c, .slice r.p r.n r.c] 27).below ((Below.refl _ _).alloc (Nat.le_refl _) (.cells #[.string q.key, .int .i64 q.v.kind, .int .i64 q.v.int, .string q.v.text, .slice q.v.p q.v.n q.v.c, .slice q.p q.n q.c] 27))
  have hy0 := Box.new (w.alloc (.cells #[.string r.key, .int .i64 r.v.kind, .int .i64 r.v.int, .string r.v.text, .slice r.v.p r.v.n r.v.c, .slice r.p r.n r.c] 27)) #[.string q.key, .int .i64 q.v.kind, .int .i64 q.v.int, .string q.v.text, .slice q.v.p q.v.n q.v.c, .slice q.p q.n q.c] 27
  rw [show (w.alloc (.cells #[.string r.key, .int .i64 r.v.kind, .int .i64 r.v.int, .string r.v.text, .slice r.v.p r.v.n r.v.c, .slice r.p r.n r.c] 27)).heap.size = w.heap.size + 1 by simp] at hy0
  rw [hk, hn] at hy0 hx0 hb0
  have HX0 := hid hx0
  have HY0 := hid hy0
  have HB0 := hid hb0
  have hrn := hr.l.nn
  have HIr := hid hr.l
  have HIq := hid hq.l
  have HS := hid hS
  rw [hn] at HIq
  unfold RT.val
  rw [hk, hn]
  unfold VT.val at HV
  clear hk hn h hr hq hS hb0 hx0 hy0
  go_enter Tryz.func16, Tryz.ntmps16
  go_wp2_with fail
  refine (HV _).mono ?_
  rintro x w1 ⟨rfl, hb1⟩
  have hx1 := HX0.out.below hb1
  have hy1 := HY0.out.below hb1
  have c5 := hx1.cell 5
  have d5 := hy1.cell 5
  simp only [List.getElem?_toArray, List.getElem?_cons_zero, List.getElem?_cons_succ] at c5 d5
  have HX1 := hid hx1
  have HY1 := hid hy1
  have HB1 := hid (HB0.out.trans (hb1.mono HB0.out.size))
  clear hx1 hy1 hb1 HV HX0 HY0 HB0
  go_wp2_with fail
  go_loopw [5] (fun x wr => ∃ j : Nat, j ≤ r.n ∧ x = .int .i64 j ∧ Below w1.heap.size w1 wr) (fun x _ => r.n - (intOf x).toNat)
  case atStart => exact ⟨0, Nat.zero_le _, rfl, Below.refl _ _⟩
  case round =>
    obtain ⟨j, hj, rfl, hbel⟩ := hrel
    have hx2 := HX1.out.below hbel
    have hy2 := HY1.out.below hbel
    have a5 := hx2.cell 5
    have b5 := hy2.cell 5
    simp only [List.getElem?_toArray, List.getElem?_cons_zero, List.getElem?_cons_succ] at a5 b5
    have hs1 := HB1.out.size
    have HB2 := hid hbel
    by_cases hlt : j < r.n
    · have hlt' : (j : Int) < (r.n : Int) := by omega
      obtain ⟨b1, o1, hp, hSb1, _, ha⟩ := HIr.out.at_ (by omega)
      obtain ⟨b2, o2, hp', hSb2, _, ha'⟩ := HIq.out.at_ (by omega)
      have hl1 := HS.out b1 hSb1
      have hl2 := HS.out b2 hSb2
      have e1 := (World.cell?_of_block (a := ⟨b1, o1 + j, none⟩) ((hbel.block b1 (by omega)).trans (HB1.out.block b1 hl1))).trans (ha j hlt)
      have e2 := (World.cell?_of_block (a := ⟨b2, o2 + j, none⟩) ((hbel.block b2 (by omega)).trans (HB1.out.block b2 hl2))).trans (ha' j hlt)
      rw [HLp.out j hlt] at e2
      rw [hp] at a5
      rw [hp'] at b5
      clear ha ha' hbel hx2 hy2 c5 d5
      go_wp2_with fail
      go_region
      go_wp2
      go_roundw
      case rel => exact ⟨j + 1, by omega, by go_num, HB2.out.drew⟩
      case measure => simp [intOf]; omega
    · obtain rfl : j = r.n := by omega
      have hlt' : ¬ (r.n : Int) < (r.n : Int) := by omega
      clear hbel hx2 hy2
      go_wp2
      go_ret
      exact ⟨rfl, HB1.out.trans (HB2.out.mono hs1)⟩
end Go.Proofs.YtfonicphdejdlaaGreat
