import Derived.Test.YtfonicphdejdlaaGreatPack12
import Derived.Test.YtfonicphdejdlaaGreatWhRec
import Derived.Laws.ResultCell
import Derived.Test.YtfonicphdejdlaaGreatPack2
import Derived.Test.YtfonicphdejdlaaGreatPack1
namespace Go.Proofs.YtfonicphdejdlaaGreat
open Go.RowKit
set_option maxRecDepth 8000
set_option maxHeartbeats 8000000 in
theorem getRec (w : World) (S : Nat → Prop) (p : Option Addr) (c : Nat) (B : List Int) (hB : Byts w S p B.length c (fun j => B.getD j 0)) (hS : ∀ b, S b → b < w.heap.size) : Calls Tryz.prog 28 #[.slice p B.length c] w fun x w' => ∃ t k, x = .returned (.tuple #[RT.val t, .int .i64 k]) ∧ GetP recS RT.val zRT RT.In (fun t y => RT.Alike y t) w B t k w' := by
  have ha : Below w.heap.size w (w.alloc (.cells #[.string ⟨#[]⟩, .int .i64 0, .int .i64 0, .string ⟨#[]⟩, .slice none 0 0, .slice none 0 0] 27)) := (Below.refl _ _).alloc (Nat.le_refl _) _
  have hz0 : (w.alloc (.cells #[.string ⟨#[]⟩, .int .i64 0, .int .i64 0, .string ⟨#[]⟩, .slice none 0 0, .slice none 0 0] 27)).heap.size = w.heap.size + 1 := by simp
  have HC := hid (wholeRec (w.alloc (.cells #[.string ⟨#[]⟩, .int .i64 0, .int .i64 0, .string ⟨#[]⟩, .slice none 0 0, .slice none 0 0] 27)) S p c B (hB.kept ha.size fun b _ hl => ha.block b hl) (fun b hb => by have := hS b hb; omega))
  have HA := hid ha
  have HV := hid (Box.new w #[.string ⟨#[]⟩, .int .i64 0, .int .i64 0, .string ⟨#[]⟩, .slice none 0 0, .slice none 0 0] 27)
  clear hB hS ha
  obtain ⟨n, hn⟩ : ∃ n, n = B.length := ⟨_, rfl⟩
  rw [← hn] at HC ⊢
  clear hn
  go_enter Tryz.func28, Tryz.ntmps28
  go_wp2_with fail
  refine HC.out.mono ?_
  intro x w1 hP
  obtain ⟨t, k, rfl, hg⟩ := WholeP.get (zero := zRT) hP in_zRT
  have hb1 := hg.bel
  have hv := HV.out.below hb1
  have c0 := hv.cell 0
  have f0 := hv.frozen 0
  have c1 := hv.cell 1
  have f1 := hv.frozen 1
  have c2 := hv.cell 2
  have f2 := hv.frozen 2
  have c3 := hv.cell 3
  have f3 := hv.frozen 3
  have c4 := hv.cell 4
  have f4 := hv.frozen 4
  have c5 := hv.cell 5
  have f5 := hv.frozen 5
  simp only [List.getElem?_toArray, List.getElem?_cons_zero, List.getElem?_cons_succ] at c0 c1 c2 c3 c4 c5
  have zz := set6_box hv (.string t.key) (.int .i64 t.v.kind) (.int .i64 t.v.int) (.string t.v.text) (.slice t.v.p t.v.n t.v.c) (.slice t.p t.n t.c)
  have r0' := zz.cell 0
  have r1' := zz.cell 1
  have r2' := zz.cell 2
  have r3' := zz.cell 3
  have r4' := zz.cell 4
  have r5' := zz.cell 5
  simp only [List.getElem?_toArray, List.getElem?_cons_zero, List.getElem?_cons_succ] at r0' r1' r2' r3' r4' r5'
  have HZ := hid (And.intro r0' (And.intro r1' (And.intro r2' (And.intro r3' (And.intro r4' (r5'))))))
  have HG := hid hg
  have HB1 := hid hb1
  clear hP hg hb1 hv HC zz r0' r1' r2' r3' r4' r5'
  unfold RT.val
  go_wp2
  obtain ⟨r0', r1', r2', r3', r4', r5'⟩ := HZ.out
  have hfin := But.sets6 w1 w.heap.size (.string t.key) (.int .i64 t.v.kind) (.int .i64 t.v.int) (.string t.v.text) (.slice t.v.p t.v.n t.v.c) (.slice t.p t.n t.c)
  have hbf : Below w.heap.size w _ := (HA.out.trans (HB1.out.mono (by omega))).trans (hfin.below (by have := HB1.out.size; omega) (fun k hk e => by omega))
  refine bodyPost_ret (v := .tuple #[RT.val t, .int .i64 k]) (by simp [results, Tryz.results28, go_sem, RT.val, r0', r1', r2', r3', r4', r5']) rfl ⟨t, k, rfl, hbf, ?_, HG.out.good, HG.out.more, HG.out.bad⟩
  exact RT.In.mono (S := fun b => (w.alloc (.cells #[.string ⟨#[]⟩, .int .i64 0, .int .i64 0, .string ⟨#[]⟩, .slice none 0 0, .slice none 0 0] 27)).heap.size ≤ b) (RT.In.but HG.out.inn hfin (fun b hb _ e => by omega)) (fun b hb _ => by omega)
end Go.Proofs.YtfonicphdejdlaaGreat

namespace Go.Proofs.YtfonicphdejdlaaGreat
open Go.RowKit
set_option maxRecDepth 8000
/-- the thing with what was read -/
def thRT (k : Int) (t : RT) : Array Value := #[.int .i64 k, .string t.key, .int .i64 t.v.kind, .int .i64 t.v.int, .string t.v.text, .slice t.v.p t.v.n t.v.c, .slice t.p t.n t.c, .int .i64 0, .slice none 0 0, .int .i64 0, .int .i64 0, .int .i64 0, .int .u32 0, .int .i64 0, .slice none 0 0, .int .i64 0, .slice none 0 0, .slice none 0 0, .slice none 0 0, .slice none 0 0, .int .i64 0, .int .u32 0, .slice none 0 0, .int .i64 0, .string ⟨#[]⟩, .int .i64 0, .int .i64 0, .string ⟨#[]⟩, .slice none 0 0, .slice none 0 0]
theorem thRT_size (k : Int) (t : RT) : (thRT k t).size = 30 := rfl
theorem thRT_one (k : Int) (t : RT) : (thRT k t).all (·.oneCell') = true := by simp [thRT, Value.oneCell']
set_option maxHeartbeats 8000000 in
theorem lawgetRec (k : Int) (hk2 : k ≠ 2) (hk3 : k ≠ 3) (hk4 : k ≠ 4) (hk5 : k ≠ 5) (w : World) (b : Value) (Q : World → RT → Int → World → Prop) (hQ : ∀ W t k w', Q W t k w' → Below W.heap.size W w') (H : ∀ W, Below w.heap.size w W → Calls Tryz.prog 28 #[b] W fun x w' => ∃ t k, x = .returned (.tuple #[RT.val t, .int .i64 k]) ∧ Q W t k w') : Calls Tryz.prog 12 #[.int .i64 k, b] w fun x w' => ∃ t e W w1, x = .returned (.tuple #[.agg (thRT k t), .int .i64 e]) ∧ Below w.heap.size w W ∧ W.heap.size = w.heap.size + 2 ∧ Q W t e w1 ∧ But (fun y => y = w.heap.size ∨ y = w.heap.size + 1) w1 w' := by
  obtain ⟨hz0, hz1, hz2, hz3⟩ := start_thing w k
  have hBx : Box ((w.alloc (.cells zC 45)).alloc (.cells zC 45)) (w.heap.size + 1) zC 45 := heap_alloc2_new w _ _
  have HBx := hid hBx
  have HC := hid (H _ hz2)
  have HR0 := hid hz0
  have HT0 := hid hz1
  have HB0 := hid hz2
  have HZ := hid hz3
  have q2 : (k == 2) = false := by simpa using hk2
  have q3 : (k == 3) = false := by simpa using hk3
  have q4 : (k == 4) = false := by simpa using hk4
  have q5 : (k == 5) = false := by simpa using hk5
  unfold RT.val at HC
  clear hBx hz0 hz1 hz2 hz3 H hk2 hk3 hk4 hk5
  go_enter Tryz.func12, Tryz.ntmps12
  go_wp2_with (refine wpList_store_row rfl 45 (.tmp 6) (.tmp 9) rfl (w.heap.size + 1) (kC k) rfl rfl 45 zC HBx.out (by rw [info45]; rfl) rfl (kC_one k) ?_)
  refine HC.out.mono ?_
  generalize hW : ((w.alloc (.cells zC 45)).alloc (.cells zC 45)).setRow (w.heap.size + 1) (kC k) = W at *
  rintro x w1 ⟨t, e, rfl, hq⟩
  have hb1 := hQ _ _ _ _ hq
  have ht1 := HT0.out.below hb1
  have hr1 := HR0.out.below hb1
  have c0 := ht1.cell 1
  have f0 := ht1.frozen 1
  have c1 := ht1.cell 2
  have f1 := ht1.frozen 2
  have c2 := ht1.cell 3
  have f2 := ht1.frozen 3
  have c3 := ht1.cell 4
  have f3 := ht1.frozen 4
  have c4 := ht1.cell 5
  have f4 := ht1.frozen 5
  have c5 := ht1.cell 6
  have f5 := ht1.frozen 6
  simp [kC] at c0 c1 c2 c3 c4 c5
  have ht2 : Box ((((((w1.setCell ⟨w.heap.size + 1, 1, none⟩ (.string t.key)).setCell ⟨w.heap.size + 1, 2, none⟩ (.int .i64 t.v.kind)).setCell ⟨w.heap.size + 1, 3, none⟩ (.int .i64 t.v.int)).setCell ⟨w.heap.size + 1, 4, none⟩ (.string t.v.text)).setCell ⟨w.heap.size + 1, 5, none⟩ (.slice t.v.p t.v.n t.v.c)).setCell ⟨w.heap.size + 1, 6, none⟩ (.slice t.p t.n t.c)) (w.heap.size + 1) (thRT k t) 45 := by
    have h := ((((((ht1.set 1 (.string t.key)).set 2 (.int .i64 t.v.kind)).set 3 (.int .i64 t.v.int)).set 4 (.string t.v.text)).set 5 (.slice t.v.p t.v.n t.v.c)).set 6 (.slice t.p t.n t.c))
    simpa [kC, thRT] using h
  have hk2 : But (fun y => y = w.heap.size + 1) w1 ((((((w1.setCell ⟨w.heap.size + 1, 1, none⟩ (.string t.key)).setCell ⟨w.heap.size + 1, 2, none⟩ (.int .i64 t.v.kind)).setCell ⟨w.heap.size + 1, 3, none⟩ (.int .i64 t.v.int)).setCell ⟨w.heap.size + 1, 4, none⟩ (.string t.v.text)).setCell ⟨w.heap.size + 1, 5, none⟩ (.slice t.v.p t.v.n t.v.c)).setCell ⟨w.heap.size + 1, 6, none⟩ (.slice t.p t.n t.c)) := ((((((But.one w1 (w.heap.size + 1)).setAt 1 (.string t.key)).setAt 2 (.int .i64 t.v.kind)).setAt 3 (.int .i64 t.v.int)).setAt 4 (.string t.v.text)).setAt 5 (.slice t.v.p t.v.n t.v.c)).setAt 6 (.slice t.p t.n t.c)
  have hr2 := hr1.but hk2 (by omega)
  have HR2 := hid hr2
  have HT2 := hid ht2
  have HK2 := hid hk2
  have HQ := hid hq
  clear ht1 hr1 ht2 hr2 hk2 HC hb1 hq
  go_wp2_with fail
  refine get_tail _ _ _ _ _ _ _ _ _ _ _ _ _ _ _ _ _ _ _ _ _ _ _ _ _ _ _ _ _ _ _ _ _ _ _ _ _ _ _ _ _ _ _ _ _ _ (w.heap.size + 1) w.heap.size (by omega) (thRT k t) (thRT_size _ _) (thRT_one _ _) e _ _ _ _ HT2.out HR2.out _ ?_
  intro w3 hb3 hk3
  have HB3 := hid hb3
  have HK3 := hid hk3
  clear hb3 hk3
  go_wp2
  refine bodyPost_ret (v := .tuple #[.agg (thRT k t), .int .i64 e]) ?_ rfl ⟨t, e, W, w1, rfl, HB0.out, HZ.out, HQ.out, (HK2.out.mono (fun b _ h => Or.inr h)).trans (HK3.out.mono (fun b _ h => Or.inl h))⟩
  rw [results_cell_tmp rfl]
  have hld := run_loadVar_row (P := Tryz.prog) w3 w.heap.size 45 45 (thRT k t) (0, 0) _ HB3.out Tryz.underlying45 rfl (by rw [thRT_size]; exact info45)
  simp [asAddr, Result.andThen, hld]
end Go.Proofs.YtfonicphdejdlaaGreat

namespace Go.Proofs.YtfonicphdejdlaaGreat
open Go.RowKit
set_option maxRecDepth 8000

set_option maxHeartbeats 2000000 in
theorem appendEncoded_any (t : VT) : ∀ (base : Nat) (w : World) (v : Value) (zs : List Int), base ≤ w.heap.size → OwnBy base w v zs → VT.In w (fun b => b < base) t → Val t → zs.length + (encB t).length ≤ 80000 →
    Calls Tryz.prog 118 #[v, t.val] w fun e w' => EPost base w (zs ++ encB t) e w' := by
  obtain ⟨i0, Kd⟩ := kindB
  induction t with
  | nil => intro base w v zs _ _ _ h; exact h.elim
  | mk k i s n p c f ih =>
    intro base w v zs hB hv hin hval hlen
    obtain ⟨⟨hf, hs24, hn6, hi1, hi2⟩, hvi⟩ := hval
    have hk : 0 ≤ k ∧ k ≤ 3 := by
      simp only [fitB, Bool.and_eq_true, Bool.or_eq_true, decide_eq_true_eq] at hf
      exact ⟨hf.1.1.1.1, hf.1.1.1.2⟩
    obtain ⟨hk0, hk3⟩ := hk
    simp only [VT.val, VT.kind_mk, VT.int_mk, VT.text_mk, VT.p_mk, VT.n_mk, VT.c_mk]
    have hzl : zs.length ≤ 80000 := by omega
    have HI := hid hin
    have hkm : k % 256 = k := by omega
    have ha : Below w.heap.size w (w.alloc (.cells #[.int .i64 k, .int .i64 i, .string s, .slice p n c] 24)) := (Below.refl _ _).alloc (Nat.le_refl _) _
    have hv0 : LayB base w zs v (w.alloc (.cells #[.int .i64 k, .int .i64 i, .string s, .slice p n c] 24)) := ⟨hv.below ha, ha.mono hB, KeepN.below ha⟩
    have hbx := Box.new w #[.int .i64 k, .int .i64 i, .string s, .slice p n c] 24
    have HL0 := hid hv0
    have HBx := hid hbx
    have hrow : (w.alloc (.cells #[.int .i64 k, .int .i64 i, .string s, .slice p n c] 24)).ownsRow base 5 1 v zs.length (zs.map (Value.int .u8)) := hv0.own
    clear hin hf hv ha hv0 hbx
    have E : Hid (zs ++ encB (.mk k i s n p c f) = (zs ++ [k]) ++ (if k = 1 then grpB (foldN i) else if k = 2 then (s.size : Int) :: txtB s else if k = 3 then (n : Int) :: (List.range n).flatMap fun j => encB (f j) else [])) := by
      unfold Hid
      rw [encB_eq, List.append_assoc]; rfl
    have HLen : Hid ((zs ++ encB (.mk k i s n p c f)).length ≤ 80000) := by unfold Hid; rw [List.length_append]; exact hlen
    generalize zs ++ encB (.mk k i s n p c f) = RES at *
    clear hlen
    go_enter Tryz.func118, Tryz.ntmps118
    go_wp2_with (at_builtin; refine wpList_app rfl (.tmp 7) (.tmp 11) 49 5 i0 _ 1 1 Kd rfl base v zs.length _ rfl (hrow.alloc _) ⟨w.heap.size + 1, 0, none⟩ 1 1 [.int .u8 k] rfl rfl ?_ (one8 _) (by omega) (by omega) (by simp; omega) ?_)
    · have h := cell_one_new (w.alloc (.cells #[.int .i64 k, .int .i64 i, .string s, .slice p n c] 24)) (.int .u8 k) 5
      rw [show (w.alloc (.cells #[.int .i64 k, .int .i64 i, .string s, .slice p n c] 24)).heap.size = w.heap.size + 1 by simp] at h
      exact h
    · intro v1 w1 ho1 hg1 hn1
      have hL1 := HL0.out.one (by simp; omega) ho1 hg1
      have hB1 : Box w1 w.heap.size #[.int .i64 k, .int .i64 i, .string s, .slice p n c] 24 :=
        (KeepN.grown (HL0.out.own.below ((Below.refl _ _).alloc (Nat.le_refl _) _)) hg1).box (by decide) (HBx.out.below ((Below.refl _ _).alloc (Nat.le_refl _) _))
      have HL1 := hid hL1
      have HB1 := hid hB1
      have x0 := hB1.cell 0
      have x1 := hB1.cell 1
      have x2 := hB1.cell 2
      have x3 := hB1.cell 3
      simp at x0 x1 x2 x3
      have hsw := hL1.bel.size
      have hl1 : (zs ++ [k]).length ≤ 80001 := by simp; omega
      obtain ⟨L, hL⟩ : ∃ L, L = zs ++ [k] := ⟨_, rfl⟩
      rw [← hL] at hL1 HL1 hl1
      have HLe := hid hL
      have hrow1 : w1.ownsRow base 5 1 v1 L.length (L.map (Value.int .u8)) := hL1.own
      clear ho1 hg1 hn1 hL1 hB1 HL0 HBx hrow hL
      rw [← HLe.out] at E
      rcases (by omega : k = 0 ∨ k = 1 ∨ k = 2 ∨ k = 3) with rfl | rfl | rfl | rfl
      · have e : Hid (RES = L) := by unfold Hid; rw [E.out]; simp
        go_wp2
        go_ret
        exact ⟨_, rfl, e.out ▸ HL1.out⟩
      · have e : Hid (RES = L ++ grpB (foldN i)) := by unfold Hid; rw [E.out]; simp
        have HFo := fun W => fold_any i hi1 hi2 W
        have HG := hid (appendGroups_any (foldN i) (foldN_lt hi1 hi2) base w1 v1 L HL1.out.own (by omega) (by omega))
        go_wp2_with fail
        refine (HFo _).mono ?_
        rintro e2 w2 ⟨rfl, hw2⟩
        subst w2
        go_wp2_with fail
        refine HG.out.mono ?_
        intro e3 w3 hP
        obtain ⟨v3, rfl, h3⟩ := hP
        have HF := hid (h3.lift HL1.out.bel HL1.out.keep)
        clear h3 HG
        go_wp2
        go_ret
        exact ⟨_, rfl, e.out ▸ HF.out⟩
      · have e : Hid (RES = (L ++ [(s.size : Int)]) ++ txtB s) := by unfold Hid; rw [E.out]; simp
        have hs' : (s.size : Int) % 256 = (s.size : Int) := by omega
        go_wp2_with (at_builtin; refine wpList_app rfl (.tmp 24) (.tmp 29) 49 5 i0 _ 1 1 Kd rfl base v1 L.length _ rfl (hrow1.alloc _) ⟨w1.heap.size, 0, none⟩ 1 1 [.int .u8 (s.size : Int)] rfl rfl (cell_one_new _ _ _) (one8 _) (by omega) (by omega) (by simp; omega) ?_)
        intro v2 w2 ho2 hg2 hn2
        have hL2 := HL1.out.one (by omega) ho2 hg2
        have hB2 := ((KeepN.below ((Below.refl _ _).alloc (Nat.le_refl _) (.cells #[.int .u8 (s.size : Int)] 5))).trans (KeepN.grown (HL1.out.own.below ((Below.refl _ _).alloc (Nat.le_refl _) _)) hg2)).box (by decide) HB1.out
        have y2 := hB2.cell 2
        simp at y2
        obtain ⟨L2, hL2e⟩ : ∃ L2, L2 = L ++ [(s.size : Int)] := ⟨_, rfl⟩
        rw [← hL2e] at hL2
        have hl2 : L2.length ≤ 80002 := by rw [hL2e]; simp; omega
        have HL2 := hid hL2
        have HLe2 := hid hL2e
        have hrow2 : w2.ownsRow base 5 1 v2 L2.length (L2.map (Value.int .u8)) := hL2.own
        have hs2 := hL2.bel.size
        clear ho2 hg2 hn2 hL2 hB2 hL2e x0 x1 x2 x3 hrow1
        go_wp2_with (at_builtin; go_loud (refine Go.Lib.wpList_append_own_string _ rfl (.tmp 31) (.tmp 33) 49 9 rfl base 5 i0 Kd.ht Tryz.underlying9 Kd.hi Kd.hz Kd.hsize Kd.hby v2 L2.length _ rfl hrow2 s rfl (by unfold maxLen; omega) (by omega) (by omega) ?_))
        intro v3 w3 ho3 hg3 _
        have HF := hid (HL2.out.text (by omega) ho3 hg3)
        clear ho3 hg3 hrow2
        go_wp2
        go_ret
        exact ⟨_, rfl, by rw [e.out, ← HLe2.out]; exact HF.out⟩
      · have e : Hid (RES = (L ++ [(n : Int)]) ++ (List.range n).flatMap fun j => encB (f j)) := by unfold Hid; rw [E.out]; simp
        have hn' : (n : Int) % 256 = (n : Int) := by omega
        go_wp2_with (at_builtin; refine wpList_app rfl (.tmp 37) (.tmp 42) 49 5 i0 _ 1 1 Kd rfl base v1 L.length _ rfl (hrow1.alloc _) ⟨w1.heap.size, 0, none⟩ 1 1 [.int .u8 (n : Int)] rfl rfl (cell_one_new _ _ _) (one8 _) (by omega) (by omega) (by simp; omega) ?_)
        intro v2 w2 ho2 hg2 hn2
        have hL2 := HL1.out.one (by omega) ho2 hg2
        have hB2 := ((KeepN.below ((Below.refl _ _).alloc (Nat.le_refl _) (.cells #[.int .u8 (n : Int)] 5))).trans (KeepN.grown (HL1.out.own.below ((Below.refl _ _).alloc (Nat.le_refl _) _)) hg2)).box (by decide) HB1.out
        have HB2 := hid hB2
        have y3 := hB2.cell 3
        simp at y3
        have HL2 := hid hL2
        clear ho2 hg2 hn2 hL2 hB2 x0 x1 x2 x3 hrow1
        go_wp2_with fail
        go_loopw [0, 47] (fun v x wr => ∃ j : Nat, j ≤ n ∧ x = .int .i64 j ∧ LayB base w ((L ++ [(n : Int)]) ++ (List.range j).flatMap fun j => encB (f j)) v wr) (fun _ x _ => n - (intOf x).toNat)
        case atStart => exact ⟨0, Nat.zero_le _, rfl, by simpa using HL2.out⟩
        case round =>
          obtain ⟨j, hj, rfl, hLj⟩ := hrel
          have hsj := hLj.bel.size
          by_cases hlt : j < n
          · have hlt' : (j : Int) < (n : Int) := by omega
            obtain ⟨bb, o, hp, hSb, hbl, hat⟩ := HI.out.at_ (show 0 < (VT.mk 3 i s n p c f).n from by simp only [VT.n]; omega)
            simp only [VT.p_mk] at hp
            subst hp
            obtain ⟨d0, d1, d2, d3⟩ := (hat j hlt).kept (hLj.bel.block bb hSb)
            simp only [VT.item_mk] at d0 d1 d2 d3
            obtain ⟨M, hM⟩ : ∃ M, M = (L ++ [(n : Int)]) ++ (List.range j).flatMap fun j => encB (f j) := ⟨_, rfl⟩
            rw [← hM] at hLj
            have hM2 : M ++ encB (f j) = (L ++ [(n : Int)]) ++ (List.range (j + 1)).flatMap fun j => encB (f j) := by rw [hM, List.range_succ, List.flatMap_append]; simp
            have hMl : M.length + (encB (f j)).length ≤ 80000 := by
              have h1 := HLen.out
              rw [e.out] at h1
              have h2 : ∀ a b : Nat, a ≤ b → ((List.range a).flatMap fun j => encB (f j)).length ≤ ((List.range b).flatMap fun j => encB (f j)).length := by
                intro a b hab
                induction hab with
                | refl => exact Nat.le_refl _
                | step _ ih => rw [List.range_succ, List.flatMap_append, List.length_append]; omega
              have h3 := h2 (j + 1) n hlt
              have h4 := congrArg List.length hM2
              simp only [List.length_append, List.length_cons, List.length_nil] at h1 h4
              omega
            have ha : Below wr.heap.size wr (wr.alloc (.cells #[.int .i64 (f j).kind, .int .i64 (f j).int, .string (f j).text, .slice (f j).p (f j).n (f j).c] 24)) := (Below.refl _ _).alloc (Nat.le_refl _) _
            have HC := hid (ih j base (wr.alloc (.cells #[.int .i64 (f j).kind, .int .i64 (f j).int, .string (f j).text, .slice (f j).p (f j).n (f j).c] 24)) u0 M (by simp; omega) (hLj.own.below ha) (((HI.out.sub hlt).kept hLj.bel.size fun b hb _ => hLj.bel.block b hb).below ha) (hvi j hlt) hMl)
            unfold VT.val at HC
            have HLj := hid (hLj.bel.trans (ha.mono (by omega)))
            have HKj := hid (hLj.keep.trans (KeepN.below ha))
            have HM2 := hid hM2
            clear hat hLj hM2 hMl hM ha ih
            go_wp2_with fail
            refine HC.out.mono ?_
            intro e3 w3 hP
            obtain ⟨v3, rfl, h3⟩ := hP
            have HF := hid (h3.lift HLj.out HKj.out)
            clear h3 HC d0 d1 d2 d3
            go_wp2
            go_roundw
            case rel => exact ⟨j + 1, by omega, by go_num, HM2.out ▸ HF.out⟩
            case measure => simp [intOf]; omega
          · have hje : j = n := by omega
            have hlt' : ¬ (j : Int) < (n : Int) := by omega
            rw [hje] at hLj
            have HF := hid hLj
            clear hLj ih
            go_wp2
            go_ret
            exact ⟨_, rfl, by rw [e.out]; exact HF.out⟩
end Go.Proofs.YtfonicphdejdlaaGreat

namespace Go.Proofs.YtfonicphdejdlaaGreat
open Go.RowKit
set_option maxRecDepth 8000

theorem chk_many {k i : Int} {s : ByteArray} {n : Nat} {p : Option Addr} {c : Nat} {f : Nat → VT} {d m : Nat} (h : 12 ≤ m) : chk (.mk k i s n p c f) d m = (22, m + 1) := by rw [chk_eq, if_pos h]
theorem chk_kind {k i : Int} {s : ByteArray} {n : Nat} {p : Option Addr} {c : Nat} {f : Nat → VT} {d m : Nat} (h : ¬ 12 ≤ m) (h2 : fitB k i s n = false) : chk (.mk k i s n p c f) d m = (20, m + 1) := by rw [chk_eq, if_neg h, if_pos h2]
theorem chk_deep {k i : Int} {s : ByteArray} {n : Nat} {p : Option Addr} {c : Nat} {f : Nat → VT} {d m : Nat} (h : ¬ 12 ≤ m) (h2 : ¬ fitB k i s n = false) (h3 : k = 3 ∧ 3 ≤ d) : chk (.mk k i s n p c f) d m = (23, m + 1) := by rw [chk_eq, if_neg h, if_neg h2, if_pos h3]
theorem chk_text {k i : Int} {s : ByteArray} {n : Nat} {p : Option Addr} {c : Nat} {f : Nat → VT} {d m : Nat} (h : ¬ 12 ≤ m) (h2 : ¬ fitB k i s n = false) (h3 : ¬ (k = 3 ∧ 3 ≤ d)) (h4 : 24 < s.size) : chk (.mk k i s n p c f) d m = (21, m + 1) := by rw [chk_eq, if_neg h, if_neg h2, if_neg h3, if_pos h4]
theorem chk_items {k i : Int} {s : ByteArray} {n : Nat} {p : Option Addr} {c : Nat} {f : Nat → VT} {d m : Nat} (h : ¬ 12 ≤ m) (h2 : ¬ fitB k i s n = false) (h3 : ¬ (k = 3 ∧ 3 ≤ d)) (h4 : ¬ 24 < s.size) (h5 : 6 < n) : chk (.mk k i s n p c f) d m = (22, m + 1) := by rw [chk_eq, if_neg h, if_neg h2, if_neg h3, if_neg h4, if_pos h5]
theorem chk_step {k i : Int} {s : ByteArray} {n : Nat} {p : Option Addr} {c : Nat} {f : Nat → VT} {d m : Nat} (h : ¬ 12 ≤ m) (h2 : ¬ fitB k i s n = false) (h3 : ¬ (k = 3 ∧ 3 ≤ d)) (h4 : ¬ 24 < s.size) (h5 : ¬ 6 < n) : chk (.mk k i s n p c f) d m = stepN (fun j m => chk (f j) (d + 1) m) (m + 1) n := by rw [chk_eq, if_neg h, if_neg h2, if_neg h3, if_neg h4, if_neg h5]

set_option maxHeartbeats 4000000 in
theorem checkPart_any (t : VT) : ∀ (w : World) (S : Nat → Prop) (b d m : Nat), VT.In w S t → ¬ S b → Box w b #[.int .i64 m] 3 → m ≤ 12 → d ≤ 3 →
    Calls Tryz.prog 106 #[t.val, .int .i64 d, .pointer (some ⟨b, 0, none⟩)] w fun e w' => e = .returned (.int .i64 (chk t d m).1) ∧ Box w' b #[.int .i64 (chk t d m).2] 3 ∧ But (fun k => k = b) w w' := by
  induction t with
  | nil => intro w S b d m hin; exact hin.elim
  | mk k i s n p c f ih =>
    intro w S b d m hin hS hb hm hd
    have hnn := hin.fit.nn
    simp only [VT.n_mk] at hnn
    simp only [VT.val, VT.kind_mk, VT.int_mk, VT.text_mk, VT.p_mk, VT.n_mk, VT.c_mk]
    have hc := hb.cell 0
    have hf := hb.frozen 0
    have hlt := hb.lt
    simp at hc
    have hW0 : But (fun k => k = b) w ((w.setCell ⟨b, 0, none⟩ (.int .i64 ((m : Int) + 1))).alloc (.cells #[.int .i64 k, .int .i64 i, .string s, .slice p n c] 24)) := ((But.refl (fun k => k = b) w).setCell (p := ⟨b, 0, none⟩) (fun _ => rfl) _).alloc _
    have hWb : Box ((w.setCell ⟨b, 0, none⟩ (.int .i64 ((m : Int) + 1))).alloc (.cells #[.int .i64 k, .int .i64 i, .string s, .slice p n c] 24)) b #[.int .i64 ((m + 1 : Nat) : Int)] 3 := by
      have h := hb.set 0 (.int .i64 ((m : Int) + 1))
      have h2 : Box (w.setCell ⟨b, 0, none⟩ (.int .i64 ((m : Int) + 1))) b #[.int .i64 ((m + 1 : Nat) : Int)] 3 := by simpa using h
      exact h2.below ((Below.refl _ _).alloc (Nat.le_refl _) _)
    have hWv : Box ((w.setCell ⟨b, 0, none⟩ (.int .i64 ((m : Int) + 1))).alloc (.cells #[.int .i64 k, .int .i64 i, .string s, .slice p n c] 24)) w.heap.size #[.int .i64 k, .int .i64 i, .string s, .slice p n c] 24 := by
      have h := Box.new (w.setCell ⟨b, 0, none⟩ (.int .i64 ((m : Int) + 1))) #[.int .i64 k, .int .i64 i, .string s, .slice p n c] 24
      simpa [World.setCell] using h
    have HF := fits_any k i s n p c ((w.setCell ⟨b, 0, none⟩ (.int .i64 ((m : Int) + 1))).alloc (.cells #[.int .i64 k, .int .i64 i, .string s, .slice p n c] 24))
    have HW : Hid (Box ((w.setCell ⟨b, 0, none⟩ (.int .i64 ((m : Int) + 1))).alloc (.cells #[.int .i64 k, .int .i64 i, .string s, .slice p n c] 24)) b #[.int .i64 ((m + 1 : Nat) : Int)] 3 ∧
      Box ((w.setCell ⟨b, 0, none⟩ (.int .i64 ((m : Int) + 1))).alloc (.cells #[.int .i64 k, .int .i64 i, .string s, .slice p n c] 24)) w.heap.size #[.int .i64 k, .int .i64 i, .string s, .slice p n c] 24 ∧
      But (fun k => k = b) w ((w.setCell ⟨b, 0, none⟩ (.int .i64 ((m : Int) + 1))).alloc (.cells #[.int .i64 k, .int .i64 i, .string s, .slice p n c] 24))) := ⟨hWb, hWv, hW0⟩
    have HI : Hid (VT.In w S (.mk k i s n p c f)) := hin
    clear hin hb hWb hWv hW0
    by_cases h1 : 12 ≤ m
    · rw [chk_many h1]
      have h1' : (12 : Int) < (m : Int) + 1 := by omega
      clear ih HF
      go_enter Tryz.func106, Tryz.ntmps106
      go_wp2_with fail
      go_ret
      exact ⟨rfl, HW.out.1, HW.out.2.2⟩
    have h1' : ¬ (12 : Int) < (m : Int) + 1 := by omega
    by_cases h2 : fitB k i s n = false
    · rw [chk_kind h1 h2]
      rw [h2] at HF
      clear ih
      go_enter Tryz.func106, Tryz.ntmps106
      go_wp2_with (go_at_call 117; refine HF.mono ?_; rintro e w1 ⟨rfl, hb1⟩)
      go_ret
      exact ⟨rfl, HW.out.1.below hb1, HW.out.2.2.trans (But.ofBelow hb1)⟩
    have h2' : fitB k i s n = true := by simpa using h2
    rw [h2'] at HF
    by_cases h3 : k = 3 ∧ 3 ≤ d
    · rw [chk_deep h1 h2 h3]
      obtain ⟨rfl, h3⟩ := h3
      have h3' : (3 : Int) ≤ (d : Int) := by omega
      clear ih
      go_enter Tryz.func106, Tryz.ntmps106
      go_wp2_with (go_at_call 117; refine HF.mono ?_; rintro e w1 ⟨rfl, hb1⟩; have y0 := (HW.out.2.1.below hb1).cell 0; simp at y0)
      go_ret
      exact ⟨rfl, HW.out.1.below hb1, HW.out.2.2.trans (But.ofBelow hb1)⟩
    have h3' : (k == 3) = false ∨ (k = 3 ∧ ¬ (3 : Int) ≤ (d : Int)) := by
      by_cases hk : k = 3
      · exact .inr ⟨hk, fun h => h3 ⟨hk, by omega⟩⟩
      · exact .inl (by rw [beq_eq_false_iff_ne]; exact hk)
    by_cases h4 : 24 < s.size
    · rw [chk_text h1 h2 h3 h4]
      have h4' : (24 : Int) < (s.size : Int) := by omega
      clear ih h3
      rcases h3' with h3 | ⟨rfl, h3⟩
      all_goals
        go_enter Tryz.func106, Tryz.ntmps106
        go_wp2_with (go_at_call 117; refine HF.mono ?_; rintro e w1 ⟨rfl, hb1⟩; have y0 := (HW.out.2.1.below hb1).cell 0; have y2 := (HW.out.2.1.below hb1).cell 2; simp at y0 y2)
        go_ret
        exact ⟨rfl, HW.out.1.below hb1, HW.out.2.2.trans (But.ofBelow hb1)⟩
    have h4' : ¬ (24 : Int) < (s.size : Int) := by omega
    by_cases h5 : 6 < n
    · rw [chk_items h1 h2 h3 h4 h5]
      have h5' : (6 : Int) < (n : Int) := by omega
      clear ih h3
      rcases h3' with h3 | ⟨rfl, h3⟩
      all_goals
        go_enter Tryz.func106, Tryz.ntmps106
        go_wp2_with (go_at_call 117; refine HF.mono ?_; rintro e w1 ⟨rfl, hb1⟩; have y0 := (HW.out.2.1.below hb1).cell 0; have y2 := (HW.out.2.1.below hb1).cell 2; have y3 := (HW.out.2.1.below hb1).cell 3; simp at y0 y2 y3)
        go_ret
        exact ⟨rfl, HW.out.1.below hb1, HW.out.2.2.trans (But.ofBelow hb1)⟩
    have h5' : ¬ (6 : Int) < (n : Int) := by omega
    rw [chk_step h1 h2 h3 h4 h5]
    have HD : Hid (0 < n → d + 1 ≤ 3) := fun hn => by
      have hk : k = 3 := by simp [fitB] at h2'; omega
      exact Nat.lt_of_not_le fun h => h3 ⟨hk, h⟩
    clear h3
    rcases h3' with h3 | ⟨rfl, h3⟩
    all_goals
      go_enter Tryz.func106, Tryz.ntmps106
      go_wp2_with (go_at_call 117; refine HF.mono ?_; rintro e w1 ⟨rfl, hb1⟩; have y0 := (HW.out.2.1.below hb1).cell 0; have y2 := (HW.out.2.1.below hb1).cell 2; have y3 := (HW.out.2.1.below hb1).cell 3; simp at y0 y2 y3)
      have hB1 : Box w1 b #[.int .i64 ((m + 1 : Nat) : Int)] 3 := HW.out.1.below hb1
      have hK1 : But (fun k => k = b) w w1 := HW.out.2.2.trans (But.ofBelow hb1)
      clear HF hb1 y0 y2 y3 HW
      go_loopw [45] (fun x wr => ∃ j : Nat, j ≤ n ∧ x = .int .i64 j ∧ Hid ((stepN (fun j m => chk (f j) (d + 1) m) (m + 1) j).1 = 0) ∧ Box wr b #[.int .i64 (((stepN (fun j m => chk (f j) (d + 1) m) (m + 1) j).2 : Nat) : Int)] 3 ∧ But (fun k => k = b) w wr) (fun x _ => n - (intOf x).toNat)
      case atStart => exact ⟨0, Nat.zero_le _, rfl, rfl, hB1, hK1⟩
      case round =>
        obtain ⟨j, hj, rfl, HZ, hB, hK⟩ := hrel
        clear hB1 hK1
        by_cases hjn : j < n
        · have hjn' : (j : Int) < (n : Int) := by omega
          obtain ⟨bb, o, hp, hSb, hbl, hat⟩ := HI.out.at_ (show 0 < (VT.mk _ i s n p c f).n from by simp only [VT.n]; omega)
          simp only [VT.p_mk] at hp
          subst hp
          have hne : bb ≠ b := fun e => hS (e ▸ hSb)
          obtain ⟨a0, a1, a2, a3⟩ := (hat j hjn).kept (hK.block bb hbl hne)
          simp only [VT.item_mk] at a0 a1 a2 a3
          have HM : Hid ((stepN (fun j m => chk (f j) (d + 1) m) (m + 1) j).2 ≤ 12) := (stepN_le (fun j m hm => chk_le (f j) (d + 1) m hm) (by omega) j).2 HZ.out
          have HS : Hid (stepN (fun j m => chk (f j) (d + 1) m) (m + 1) (j + 1) = chk (f j) (d + 1) (stepN (fun j m => chk (f j) (d + 1) m) (m + 1) j).2) := stepN_succ HZ.out
          have HT : Hid ((stepN (fun j m => chk (f j) (d + 1) m) (m + 1) (j + 1)).1 ≠ 0 → stepN (fun j m => chk (f j) (d + 1) m) (m + 1) n = stepN (fun j m => chk (f j) (d + 1) m) (m + 1) (j + 1)) := fun h => stepN_stuck (by omega) h
          generalize stepN (fun j m => chk (f j) (d + 1) m) (m + 1) j = q at *
          obtain ⟨q1, HQ1⟩ : ∃ q1, Hid (stepN (fun j m => chk (f j) (d + 1) m) (m + 1) (j + 1) = q1) := ⟨_, rfl⟩
          rw [HQ1.out] at HS HT
          obtain ⟨qe, qm⟩ := q
          simp only at HZ HM hB HS
          have HC : Hid (∀ W, Below wr.heap.size wr W → Calls Tryz.prog 106 #[(f j).val, .int .i64 ((d : Int) + 1), .pointer (some ⟨b, 0, none⟩)] W fun e w' => e = .returned (.int .i64 q1.1) ∧ Box w' b #[.int .i64 q1.2] 3 ∧ But (fun k => k = b) W w') := by
            intro W hW
            have h := ih j W S b (d + 1) qm (((HI.out.sub hjn).but hK (fun x hx _ e => hS (e ▸ hx))).below hW) hS (hB.below hW) HM.out (HD.out (by omega))
            rw [← HS.out] at h
            exact h
          unfold VT.val at HC
          obtain ⟨xk, xi, xs, xn, xp, xc, xf, hx⟩ := (HI.out.sub hjn).mk_
          simp only [VT.item_mk] at hx
          clear ih HI hat hB HS HM
          rw [hx] at a0 a1 a2 a3 HC
          clear hx
          simp only [VT.kind_mk, VT.int_mk, VT.text_mk, VT.p_mk, VT.n_mk, VT.c_mk] at a0 a1 a2 a3 HC
          obtain ⟨r, rm⟩ := q1
          simp only at HC HT
          by_cases hr : r = 0
          · subst hr
            clear HT
            go_wp2_with (go_at_call 106; refine (HC.out _ ?_).mono ?_; exact (Below.refl _ _).alloc (Nat.le_refl _) _; rintro e w4 ⟨rfl, hB4, hK4⟩)
            go_roundw
            case rel => exact ⟨j + 1, by omega, by go_num, by rw [HQ1.out]; rfl, by rw [HQ1.out]; exact hB4, (hK.alloc _).trans hK4⟩
            case measure => simp [intOf]; omega
          · have hr' : ((r : Int) == 0) = false := by rw [beq_eq_false_iff_ne]; omega
            have HT2 : Hid (stepN (fun j m => chk (f j) (d + 1) m) (m + 1) n = (r, rm)) := HT.out (by simpa using hr)
            clear HT
            go_wp2_with (go_at_call 106; refine (HC.out _ ?_).mono ?_; exact (Below.refl _ _).alloc (Nat.le_refl _) _; rintro e w4 ⟨rfl, hB4, hK4⟩)
            go_ret
            rw [HT2.out]
            exact ⟨rfl, hB4, (hK.alloc _).trans hK4⟩
        · obtain rfl : j = n := by omega
          clear ih HI
          go_wp2
          go_ret
          exact ⟨by rw [HZ.out]; rfl, hB, hK⟩
end Go.Proofs.YtfonicphdejdlaaGreat

namespace Go.Proofs.YtfonicphdejdlaaGreat
open Go.RowKit
set_option maxRecDepth 8000

set_option maxHeartbeats 1000000 in
theorem check_any (t : VT) (w : World) (S : Nat → Prop) (hin : VT.In w S t) (hS : ∀ b, S b → b < w.heap.size) :
    Calls Tryz.prog 84 #[t.val] w fun e w' => e = .returned (.int .i64 (chk t 0 0).1) ∧ Below w.heap.size w w' := by
  have HC : Hid (∀ W b, Below w.heap.size w W → w.heap.size ≤ b → Box W b #[.int .i64 ((0 : Nat) : Int)] 3 → Calls Tryz.prog 106 #[t.val, .int .i64 ((0 : Nat) : Int), .pointer (some ⟨b, 0, none⟩)] W fun e w' => e = .returned (.int .i64 (chk t 0 0).1) ∧ Box w' b #[.int .i64 (chk t 0 0).2] 3 ∧ But (fun k => k = b) W w') :=
    fun W b hW hb hB => checkPart_any t W S b 0 0 (hin.below hW) (fun h => by have := hS b h; omega) hB (by omega) (by omega)
  obtain ⟨k, i, s, n, p, c, f, rfl⟩ := hin.mk_
  clear hin hS
  generalize chk (.mk k i s n p c f) 0 0 = r at *
  simp only [VT.val, VT.kind_mk, VT.int_mk, VT.text_mk, VT.p_mk, VT.n_mk, VT.c_mk] at HC ⊢
  go_enter Tryz.func84, Tryz.ntmps84
  go_wp2_with fail
  refine (HC.out _ (w.heap.size + 1) ?_ ?_ ?_).mono ?_
  · exact ((Below.refl _ _).alloc (Nat.le_refl _) _).alloc (by simp) _
  · omega
  · have h := Box.new (w.alloc (.cells #[.int .i64 k, .int .i64 i, .string s, .slice p n c] 24)) #[.int .i64 0] 3
    simpa using h
  · rintro e w1 ⟨rfl, _, hK⟩
    have hb1 : Below w.heap.size w w1 := (((Below.refl w.heap.size w).alloc (Nat.le_refl _) _).alloc (by simp) _).trans (hK.below (by simp; omega) (fun x hx => by omega))
    clear hK HC
    go_wp2
    go_ret
    exact ⟨rfl, hb1⟩
end Go.Proofs.YtfonicphdejdlaaGreat
