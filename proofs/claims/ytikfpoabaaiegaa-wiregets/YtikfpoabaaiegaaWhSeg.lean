import Derived.Test.YtikfpoabaaiegaaPack12
namespace Go.Proofs.Ytikfpoabaaiegaa
open Go.RowKit
set_option maxRecDepth 8000
set_option maxHeartbeats 8000000 in
theorem wholeSeg (w : World) (S : Nat → Prop) (p : Option Addr) (c : Nat) (B : List Int) (hB : Byts w S p B.length c (fun j => B.getD j 0)) (hS : ∀ b, S b → b < w.heap.size) : Calls Try.prog 76 #[.slice p B.length c, .func (.func 77) #[] #[]] w fun x w' => WholeP segS GT.val (.agg #[.int .i64 0, .int .i64 0, .int .i64 0, .int .u32 0, .int .i64 0, .slice none 0 0, .int .i64 0, .slice none 0 0, .slice none 0 0, .slice none 0 0, .slice none 0 0]) GT.In GT.Is w B x w' := by
  have hp : p = none → B.length = 0 := fun h => (hB.nil h).1
  obtain ⟨hrd, hv0, hb0, hz0⟩ := rdr_start (A := #[.int .i64 0, .int .i64 0, .int .i64 0, .int .u32 0, .int .i64 0, .slice none 0 0, .int .i64 0, .slice none 0 0, .slice none 0 0, .slice none 0 0, .slice none 0 0]) (t := 38) hB hS hp
  obtain ⟨W0, hW0⟩ : ∃ W0, W0 = (w.alloc (.cells #[.int .i64 0, .int .i64 0, .int .i64 0, .int .u32 0, .int .i64 0, .slice none 0 0, .int .i64 0, .slice none 0 0, .slice none 0 0, .slice none 0 0, .slice none 0 0] 38)).alloc (.cells #[.slice p B.length B.length, .int .i64 0] 187) := ⟨_, rfl⟩
  rw [← hW0] at hrd hv0 hb0 hz0
  have HC := hid (wrSeg_any W0 S (w.heap.size + 1) B 0 (fun b hb => by have := hS b hb; omega) hrd)
  have HV0 := hid hv0
  have HB0 := hid hb0
  have HZ0 := hid hz0
  have hnc := hB.nc
  have hcc := hB.cc
  have hnil := hB.nil
  clear hB hrd hv0 hb0 hz0
  cases p with
  | none =>
    obtain ⟨h0, rfl⟩ := hnil rfl
    have hB0 : B = [] := List.eq_nil_of_length_eq_zero h0
    subst hB0
    clear hnc hcc hnil h0 hp
    simp only [List.length_nil] at hW0 ⊢
    rw [hW0] at HC
    go_enter Try.func76, Try.ntmps76
    go_wp2_with fail
    refine HC.out.mono ?_
    rw [← hW0]
    rintro x V ⟨t, R, e1, rfl, hin, ⟨hr, hd, hk⟩⟩
    clear HC
    have hvV := HV0.out.but hk (by omega)
    obtain ⟨⟨p2, hx2, hy2⟩, ho2⟩ := id hd
    have x0 := hx2.cell 0
    have x1 := hx2.cell 1
    simp at x0 x1
    have hsV := hk.size
    have hz0 := HZ0.out
    have hbt : Below V.heap.size V (V.alloc (.cells #[.int .i64 (t.id : Int), .int .i64 (t.task : Int), .int .i64 (t.base : Int), .int .u32 (t.sum : Int), .int .i64 t.st.num, .slice t.st.p t.st.n t.st.c, .int .i64 (t.d.num : Int), .slice t.d.set.p t.d.set.n t.d.set.c, .slice t.d.gone.p t.d.gone.n t.d.gone.c, .slice t.logs.p t.logs.n t.logs.c, .slice t.pend.p t.pend.n t.pend.c] 38)) := (Below.refl _ _).alloc (Nat.le_refl _) _
    have hbl : Below w.heap.size w (V.alloc (.cells #[.int .i64 (t.id : Int), .int .i64 (t.task : Int), .int .i64 (t.base : Int), .int .u32 (t.sum : Int), .int .i64 t.st.num, .slice t.st.p t.st.n t.st.c, .int .i64 (t.d.num : Int), .slice t.d.set.p t.d.set.n t.d.set.c, .slice t.d.gone.p t.d.gone.n t.d.gone.c, .slice t.logs.p t.logs.n t.logs.c, .slice t.pend.p t.pend.n t.pend.c] 38)) := (HB0.out.trans (hk.below (by omega) (fun k hk e => by omega))).trans (hbt.mono (by omega))
    have hxW := hx2.below hbt
    have x0 := hxW.cell 0
    have x1 := hxW.cell 1
    simp only [List.getElem?_toArray, List.getElem?_cons_zero, List.getElem?_cons_succ] at x0 x1
    have HxW := hid hxW
    clear hxW
    have hvW := hvV.below hbt
    have HVW := hid hvW
    have HvV := hid hvV
    have HRd := hid (hd.below hbt)
    have HRr := hid hr
    have HIn : Hid (GT.In (V.alloc (.cells #[.int .i64 (t.id : Int), .int .i64 (t.task : Int), .int .i64 (t.base : Int), .int .u32 (t.sum : Int), .int .i64 t.st.num, .slice t.st.p t.st.n t.st.c, .int .i64 (t.d.num : Int), .slice t.d.set.p t.d.set.n t.d.set.c, .slice t.d.gone.p t.d.gone.n t.d.gone.c, .slice t.logs.p t.logs.n t.logs.c, .slice t.pend.p t.pend.n t.pend.c] 38)) (fun b => w.heap.size + 2 ≤ b) t) := ((GT.In.mono (S' := fun b => w.heap.size + 2 ≤ b) hin (fun b hb _ => by omega)).below hbt)
    have HBl := hid hbl
    have hzt : (V.alloc (.cells #[.int .i64 (t.id : Int), .int .i64 (t.task : Int), .int .i64 (t.base : Int), .int .u32 (t.sum : Int), .int .i64 t.st.num, .slice t.st.p t.st.n t.st.c, .int .i64 (t.d.num : Int), .slice t.d.set.p t.d.set.n t.d.set.c, .slice t.d.gone.p t.d.gone.n t.d.gone.c, .slice t.logs.p t.logs.n t.logs.c, .slice t.pend.p t.pend.n t.pend.c] 38)).heap.size = V.heap.size + 1 := by simp
    obtain ⟨m, hm⟩ : ∃ m, m = R.length := ⟨_, rfl⟩
    rw [← hm] at x0
    have HMm := hid hm
    clear hm
    clear hd hx2 hy2 hbl hbt hvV hin hr hk
    unfold GT.val
    by_cases h1 : m = 0
    · have hR : R = [] := List.eq_nil_of_length_eq_zero (by rw [← HMm.out]; exact h1)
      subst hR
      subst h1
      by_cases he : e1 = 0
      · subst he
        have v0 := HVW.out.cell 0
        have vf0 := HVW.out.frozen 0
        simp at v0
        have v1 := HVW.out.cell 1
        have vf1 := HVW.out.frozen 1
        simp at v1
        have v2 := HVW.out.cell 2
        have vf2 := HVW.out.frozen 2
        simp at v2
        have v3 := HVW.out.cell 3
        have vf3 := HVW.out.frozen 3
        simp at v3
        have v4 := HVW.out.cell 4
        have vf4 := HVW.out.frozen 4
        simp at v4
        have v5 := HVW.out.cell 5
        have vf5 := HVW.out.frozen 5
        simp at v5
        have v6 := HVW.out.cell 6
        have vf6 := HVW.out.frozen 6
        simp at v6
        have v7 := HVW.out.cell 7
        have vf7 := HVW.out.frozen 7
        simp at v7
        have v8 := HVW.out.cell 8
        have vf8 := HVW.out.frozen 8
        simp at v8
        have v9 := HVW.out.cell 9
        have vf9 := HVW.out.frozen 9
        simp at v9
        have v10 := HVW.out.cell 10
        have vf10 := HVW.out.frozen 10
        simp at v10
        have zz := set11_box HVW.out (.int .i64 (t.id : Int)) (.int .i64 (t.task : Int)) (.int .i64 (t.base : Int)) (.int .u32 (t.sum : Int)) (.int .i64 t.st.num) (.slice t.st.p t.st.n t.st.c) (.int .i64 (t.d.num : Int)) (.slice t.d.set.p t.d.set.n t.d.set.c) (.slice t.d.gone.p t.d.gone.n t.d.gone.c) (.slice t.logs.p t.logs.n t.logs.c) (.slice t.pend.p t.pend.n t.pend.c)
        have r0' := zz.cell 0
        have r1' := zz.cell 1
        have r2' := zz.cell 2
        have r3' := zz.cell 3
        have r4' := zz.cell 4
        have r5' := zz.cell 5
        have r6' := zz.cell 6
        have r7' := zz.cell 7
        have r8' := zz.cell 8
        have r9' := zz.cell 9
        have r10' := zz.cell 10
        simp only [List.getElem?_toArray, List.getElem?_cons_zero, List.getElem?_cons_succ] at r0' r1' r2' r3' r4' r5' r6' r7' r8' r9' r10'
        have HZ := hid (And.intro r0' (And.intro r1' (And.intro r2' (And.intro r3' (And.intro r4' (And.intro r5' (And.intro r6' (And.intro r7' (And.intro r8' (And.intro r9' (r10')))))))))))
        clear zz r0' r1' r2' r3' r4' r5' r6' r7' r8' r9' r10'
        clear hvW
        go_wp2
        obtain ⟨r0', r1', r2', r3', r4', r5', r6', r7', r8', r9', r10'⟩ := HZ.out
        have hfin := But.sets11 (V.alloc (.cells #[.int .i64 (t.id : Int), .int .i64 (t.task : Int), .int .i64 (t.base : Int), .int .u32 (t.sum : Int), .int .i64 t.st.num, .slice t.st.p t.st.n t.st.c, .int .i64 (t.d.num : Int), .slice t.d.set.p t.d.set.n t.d.set.c, .slice t.d.gone.p t.d.gone.n t.d.gone.c, .slice t.logs.p t.logs.n t.logs.c, .slice t.pend.p t.pend.n t.pend.c] 38)) w.heap.size (.int .i64 (t.id : Int)) (.int .i64 (t.task : Int)) (.int .i64 (t.base : Int)) (.int .u32 (t.sum : Int)) (.int .i64 t.st.num) (.slice t.st.p t.st.n t.st.c) (.int .i64 (t.d.num : Int)) (.slice t.d.set.p t.d.set.n t.d.set.c) (.slice t.d.gone.p t.d.gone.n t.d.gone.c) (.slice t.logs.p t.logs.n t.logs.c) (.slice t.pend.p t.pend.n t.pend.c)
        have hbf : Below w.heap.size w _ := HBl.out.trans (hfin.below (by omega) (fun k hk e => by omega))
        refine bodyPost_ret (v := .tuple #[GT.val t, .int .i64 0]) (by simp [results, Try.results76, go_sem, GT.val, r0', r1', r2', r3', r4', r5', r6', r7', r8', r9', r10']) rfl ⟨hbf, fun y hy => ⟨t, rfl, GT.In.mono (S := fun b => w.heap.size + 2 ≤ b) (HIn.out.but hfin (fun b hb _ e => by omega)) (fun b hb _ => by omega), (HRr.out.good rfl y [] hy).2.2⟩, fun y z R hy => (by have := (HRr.out.good rfl y _ hy).1; cases this), fun k hk => absurd rfl (HRr.out.bad rfl k hk).2⟩
      · have he' : (e1 == 0) = false := by simpa using he
        have hxE := HxW.out
        have hbz := (Below.refl (V.alloc (.cells #[.int .i64 (t.id : Int), .int .i64 (t.task : Int), .int .i64 (t.base : Int), .int .u32 (t.sum : Int), .int .i64 t.st.num, .slice t.st.p t.st.n t.st.c, .int .i64 (t.d.num : Int), .slice t.d.set.p t.d.set.n t.d.set.c, .slice t.d.gone.p t.d.gone.n t.d.gone.c, .slice t.logs.p t.logs.n t.logs.c, .slice t.pend.p t.pend.n t.pend.c] 38)).heap.size (V.alloc (.cells #[.int .i64 (t.id : Int), .int .i64 (t.task : Int), .int .i64 (t.base : Int), .int .u32 (t.sum : Int), .int .i64 t.st.num, .slice t.st.p t.st.n t.st.c, .int .i64 (t.d.num : Int), .slice t.d.set.p t.d.set.n t.d.set.c, .slice t.d.gone.p t.d.gone.n t.d.gone.c, .slice t.logs.p t.logs.n t.logs.c, .slice t.pend.p t.pend.n t.pend.c] 38))).alloc (Nat.le_refl _) (.cells #[.int .i64 0, .int .i64 0, .int .i64 0, .int .u32 0, .int .i64 0, .slice none 0 0, .int .i64 0, .slice none 0 0, .slice none 0 0, .slice none 0 0, .slice none 0 0] 38)
        have HVz := hid (hvW.below hbz)
        have v0 := HVz.out.cell 0
        have vf0 := HVz.out.frozen 0
        simp at v0
        have v1 := HVz.out.cell 1
        have vf1 := HVz.out.frozen 1
        simp at v1
        have v2 := HVz.out.cell 2
        have vf2 := HVz.out.frozen 2
        simp at v2
        have v3 := HVz.out.cell 3
        have vf3 := HVz.out.frozen 3
        simp at v3
        have v4 := HVz.out.cell 4
        have vf4 := HVz.out.frozen 4
        simp at v4
        have v5 := HVz.out.cell 5
        have vf5 := HVz.out.frozen 5
        simp at v5
        have v6 := HVz.out.cell 6
        have vf6 := HVz.out.frozen 6
        simp at v6
        have v7 := HVz.out.cell 7
        have vf7 := HVz.out.frozen 7
        simp at v7
        have v8 := HVz.out.cell 8
        have vf8 := HVz.out.frozen 8
        simp at v8
        have v9 := HVz.out.cell 9
        have vf9 := HVz.out.frozen 9
        simp at v9
        have v10 := HVz.out.cell 10
        have vf10 := HVz.out.frozen 10
        simp at v10
        have z1 := (hxE.below hbz).cell 1
        simp only [List.getElem?_toArray, List.getElem?_cons_zero, List.getElem?_cons_succ] at z1
        have zz := set11_box HVz.out (.int .i64 0) (.int .i64 0) (.int .i64 0) (.int .u32 0) (.int .i64 0) (.slice none 0 0) (.int .i64 0) (.slice none 0 0) (.slice none 0 0) (.slice none 0 0) (.slice none 0 0)
        have r0' := zz.cell 0
        have r1' := zz.cell 1
        have r2' := zz.cell 2
        have r3' := zz.cell 3
        have r4' := zz.cell 4
        have r5' := zz.cell 5
        have r6' := zz.cell 6
        have r7' := zz.cell 7
        have r8' := zz.cell 8
        have r9' := zz.cell 9
        have r10' := zz.cell 10
        simp only [List.getElem?_toArray, List.getElem?_cons_zero, List.getElem?_cons_succ] at r0' r1' r2' r3' r4' r5' r6' r7' r8' r9' r10'
        have HZ := hid (And.intro r0' (And.intro r1' (And.intro r2' (And.intro r3' (And.intro r4' (And.intro r5' (And.intro r6' (And.intro r7' (And.intro r8' (And.intro r9' (r10')))))))))))
        clear zz r0' r1' r2' r3' r4' r5' r6' r7' r8' r9' r10'
        have HBz := hid hbz
        clear hbz hvW hxE
        go_wp2_with fail
        go_region
        go_wp2
        obtain ⟨r0', r1', r2', r3', r4', r5', r6', r7', r8', r9', r10'⟩ := HZ.out
        have hfin := (But.sets11 ((V.alloc (.cells #[.int .i64 (t.id : Int), .int .i64 (t.task : Int), .int .i64 (t.base : Int), .int .u32 (t.sum : Int), .int .i64 t.st.num, .slice t.st.p t.st.n t.st.c, .int .i64 (t.d.num : Int), .slice t.d.set.p t.d.set.n t.d.set.c, .slice t.d.gone.p t.d.gone.n t.d.gone.c, .slice t.logs.p t.logs.n t.logs.c, .slice t.pend.p t.pend.n t.pend.c] 38)).alloc (.cells #[.int .i64 0, .int .i64 0, .int .i64 0, .int .u32 0, .int .i64 0, .slice none 0 0, .int .i64 0, .slice none 0 0, .slice none 0 0, .slice none 0 0, .slice none 0 0] 38)) w.heap.size (.int .i64 0) (.int .i64 0) (.int .i64 0) (.int .u32 0) (.int .i64 0) (.slice none 0 0) (.int .i64 0) (.slice none 0 0) (.slice none 0 0) (.slice none 0 0) (.slice none 0 0)).drew
        have hbf : Below w.heap.size w _ := (HBl.out.trans (HBz.out.mono (by omega))).trans (hfin.below (by have := HBz.out.size; omega) (fun k hk e => by omega))
        refine bodyPost_ret (v := .tuple #[.agg #[.int .i64 0, .int .i64 0, .int .i64 0, .int .u32 0, .int .i64 0, .slice none 0 0, .int .i64 0, .slice none 0 0, .slice none 0 0, .slice none 0 0, .slice none 0 0], .int .i64 e1]) (by simp [results, Try.results76, go_sem, r0', r1', r2', r3', r4', r5', r6', r7', r8', r9', r10']) rfl ⟨hbf, fun y hy => absurd (HRr.out.good rfl y _ hy).2.1 he, fun y z R hy => absurd (HRr.out.good rfl y _ hy).2.1 he, fun k hk => ⟨by rw [(HRr.out.bad rfl k hk).1], fun h0 => he (by rw [(HRr.out.bad rfl k hk).1, h0]; rfl)⟩⟩
    · have h1' : (0 : Int) < (m : Int) := by omega
      have HF := hid (wrFail_any (V.alloc (.cells #[.int .i64 (t.id : Int), .int .i64 (t.task : Int), .int .i64 (t.base : Int), .int .u32 (t.sum : Int), .int .i64 t.st.num, .slice t.st.p t.st.n t.st.c, .int .i64 (t.d.num : Int), .slice t.d.set.p t.d.set.n t.d.set.c, .slice t.d.gone.p t.d.gone.n t.d.gone.c, .slice t.logs.p t.logs.n t.logs.c, .slice t.pend.p t.pend.n t.pend.c] 38)) S (w.heap.size + 1) R e1 44 HRd.out)
      go_wp2_with fail
      refine HF.out.mono ?_
      rintro x V2 ⟨rfl, hd2, hk2⟩
      clear HF hvW
      have hvW := HVW.out.but hk2 (by omega)
      obtain ⟨⟨p3, hx3, hy3⟩, ho3⟩ := id hd2
      have y1 := hx3.cell 1
      simp only [List.getElem?_toArray, List.getElem?_cons_zero, List.getElem?_cons_succ] at y1
      have hs2 := hk2.size
      have hbl2 : Below w.heap.size w V2 := HBl.out.trans (hk2.below (by omega) (fun k hk e => by omega))
      clear HBl
      have HBl := hid hbl2
      have hne : (if e1 = 0 then (44 : Int) else e1) ≠ 0 := by split <;> omega
      have hE : ∃ E, E = (if e1 = 0 then (44 : Int) else e1) := ⟨_, rfl⟩
      obtain ⟨E, hE⟩ := hE
      rw [← hE] at y1 hne hx3
      have hne' : (E == 0) = false := by simpa using hne
      have HE := hid hE
      clear hE
      have hxE := hx3
      clear hd2 hk2 hx3 hy3 hbl2 x0 x1
      have hbz := (Below.refl V2.heap.size V2).alloc (Nat.le_refl _) (.cells #[.int .i64 0, .int .i64 0, .int .i64 0, .int .u32 0, .int .i64 0, .slice none 0 0, .int .i64 0, .slice none 0 0, .slice none 0 0, .slice none 0 0, .slice none 0 0] 38)
      have HVz := hid (hvW.below hbz)
      have v0 := HVz.out.cell 0
      have vf0 := HVz.out.frozen 0
      simp at v0
      have v1 := HVz.out.cell 1
      have vf1 := HVz.out.frozen 1
      simp at v1
      have v2 := HVz.out.cell 2
      have vf2 := HVz.out.frozen 2
      simp at v2
      have v3 := HVz.out.cell 3
      have vf3 := HVz.out.frozen 3
      simp at v3
      have v4 := HVz.out.cell 4
      have vf4 := HVz.out.frozen 4
      simp at v4
      have v5 := HVz.out.cell 5
      have vf5 := HVz.out.frozen 5
      simp at v5
      have v6 := HVz.out.cell 6
      have vf6 := HVz.out.frozen 6
      simp at v6
      have v7 := HVz.out.cell 7
      have vf7 := HVz.out.frozen 7
      simp at v7
      have v8 := HVz.out.cell 8
      have vf8 := HVz.out.frozen 8
      simp at v8
      have v9 := HVz.out.cell 9
      have vf9 := HVz.out.frozen 9
      simp at v9
      have v10 := HVz.out.cell 10
      have vf10 := HVz.out.frozen 10
      simp at v10
      have z1 := (hxE.below hbz).cell 1
      simp only [List.getElem?_toArray, List.getElem?_cons_zero, List.getElem?_cons_succ] at z1
      have zz := set11_box HVz.out (.int .i64 0) (.int .i64 0) (.int .i64 0) (.int .u32 0) (.int .i64 0) (.slice none 0 0) (.int .i64 0) (.slice none 0 0) (.slice none 0 0) (.slice none 0 0) (.slice none 0 0)
      have r0' := zz.cell 0
      have r1' := zz.cell 1
      have r2' := zz.cell 2
      have r3' := zz.cell 3
      have r4' := zz.cell 4
      have r5' := zz.cell 5
      have r6' := zz.cell 6
      have r7' := zz.cell 7
      have r8' := zz.cell 8
      have r9' := zz.cell 9
      have r10' := zz.cell 10
      simp only [List.getElem?_toArray, List.getElem?_cons_zero, List.getElem?_cons_succ] at r0' r1' r2' r3' r4' r5' r6' r7' r8' r9' r10'
      have HZ := hid (And.intro r0' (And.intro r1' (And.intro r2' (And.intro r3' (And.intro r4' (And.intro r5' (And.intro r6' (And.intro r7' (And.intro r8' (And.intro r9' (r10')))))))))))
      clear zz r0' r1' r2' r3' r4' r5' r6' r7' r8' r9' r10'
      have HBz := hid hbz
      clear hbz hvW hxE
      go_wp2_with fail
      go_region
      go_wp2
      obtain ⟨r0', r1', r2', r3', r4', r5', r6', r7', r8', r9', r10'⟩ := HZ.out
      have hfin := (But.sets11 (V2.alloc (.cells #[.int .i64 0, .int .i64 0, .int .i64 0, .int .u32 0, .int .i64 0, .slice none 0 0, .int .i64 0, .slice none 0 0, .slice none 0 0, .slice none 0 0, .slice none 0 0] 38)) w.heap.size (.int .i64 0) (.int .i64 0) (.int .i64 0) (.int .u32 0) (.int .i64 0) (.slice none 0 0) (.int .i64 0) (.slice none 0 0) (.slice none 0 0) (.slice none 0 0) (.slice none 0 0)).drew
      have hbf : Below w.heap.size w _ := (HBl.out.trans (HBz.out.mono (by omega))).trans (hfin.below (by have := HBz.out.size; omega) (fun k hk e => by omega))
      refine bodyPost_ret (v := .tuple #[.agg #[.int .i64 0, .int .i64 0, .int .i64 0, .int .u32 0, .int .i64 0, .slice none 0 0, .int .i64 0, .slice none 0 0, .slice none 0 0, .slice none 0 0, .slice none 0 0], .int .i64 E]) (by simp [results, Try.results76, go_sem, r0', r1', r2', r3', r4', r5', r6', r7', r8', r9', r10']) rfl ⟨hbf, fun y hy => (by have h2 := (HRr.out.good rfl y _ hy).1; rw [h2] at HMm; exact absurd HMm.out h1), fun y z R2 hy => (by rw [HE.out, if_pos (HRr.out.good rfl y _ hy).2.1]), fun k hk => ⟨by rw [HE.out, if_neg (HRr.out.bad rfl k hk).2, (HRr.out.bad rfl k hk).1], fun h0 => (HRr.out.bad rfl k hk).2 (by rw [(HRr.out.bad rfl k hk).1, h0]; rfl)⟩⟩
  | some ad =>
    clear hnil hp
    obtain ⟨n, hn⟩ : ∃ n, n = B.length := ⟨_, rfl⟩
    rw [← hn] at hnc hW0 ⊢
    have HN := hid hn
    clear hn
    rw [hW0] at HC
    go_enter Try.func76, Try.ntmps76
    go_wp2_with fail
    refine HC.out.mono ?_
    rw [← hW0]
    rintro x V ⟨t, R, e1, rfl, hin, ⟨hr, hd, hk⟩⟩
    clear HC
    have hvV := HV0.out.but hk (by omega)
    obtain ⟨⟨p2, hx2, hy2⟩, ho2⟩ := id hd
    have x0 := hx2.cell 0
    have x1 := hx2.cell 1
    simp at x0 x1
    have hsV := hk.size
    have hz0 := HZ0.out
    have hbt : Below V.heap.size V (V.alloc (.cells #[.int .i64 (t.id : Int), .int .i64 (t.task : Int), .int .i64 (t.base : Int), .int .u32 (t.sum : Int), .int .i64 t.st.num, .slice t.st.p t.st.n t.st.c, .int .i64 (t.d.num : Int), .slice t.d.set.p t.d.set.n t.d.set.c, .slice t.d.gone.p t.d.gone.n t.d.gone.c, .slice t.logs.p t.logs.n t.logs.c, .slice t.pend.p t.pend.n t.pend.c] 38)) := (Below.refl _ _).alloc (Nat.le_refl _) _
    have hbl : Below w.heap.size w (V.alloc (.cells #[.int .i64 (t.id : Int), .int .i64 (t.task : Int), .int .i64 (t.base : Int), .int .u32 (t.sum : Int), .int .i64 t.st.num, .slice t.st.p t.st.n t.st.c, .int .i64 (t.d.num : Int), .slice t.d.set.p t.d.set.n t.d.set.c, .slice t.d.gone.p t.d.gone.n t.d.gone.c, .slice t.logs.p t.logs.n t.logs.c, .slice t.pend.p t.pend.n t.pend.c] 38)) := (HB0.out.trans (hk.below (by omega) (fun k hk e => by omega))).trans (hbt.mono (by omega))
    have hxW := hx2.below hbt
    have x0 := hxW.cell 0
    have x1 := hxW.cell 1
    simp only [List.getElem?_toArray, List.getElem?_cons_zero, List.getElem?_cons_succ] at x0 x1
    have HxW := hid hxW
    clear hxW
    have hvW := hvV.below hbt
    have HVW := hid hvW
    have HvV := hid hvV
    have HRd := hid (hd.below hbt)
    have HRr := hid hr
    have HIn : Hid (GT.In (V.alloc (.cells #[.int .i64 (t.id : Int), .int .i64 (t.task : Int), .int .i64 (t.base : Int), .int .u32 (t.sum : Int), .int .i64 t.st.num, .slice t.st.p t.st.n t.st.c, .int .i64 (t.d.num : Int), .slice t.d.set.p t.d.set.n t.d.set.c, .slice t.d.gone.p t.d.gone.n t.d.gone.c, .slice t.logs.p t.logs.n t.logs.c, .slice t.pend.p t.pend.n t.pend.c] 38)) (fun b => w.heap.size + 2 ≤ b) t) := ((GT.In.mono (S' := fun b => w.heap.size + 2 ≤ b) hin (fun b hb _ => by omega)).below hbt)
    have HBl := hid hbl
    have hzt : (V.alloc (.cells #[.int .i64 (t.id : Int), .int .i64 (t.task : Int), .int .i64 (t.base : Int), .int .u32 (t.sum : Int), .int .i64 t.st.num, .slice t.st.p t.st.n t.st.c, .int .i64 (t.d.num : Int), .slice t.d.set.p t.d.set.n t.d.set.c, .slice t.d.gone.p t.d.gone.n t.d.gone.c, .slice t.logs.p t.logs.n t.logs.c, .slice t.pend.p t.pend.n t.pend.c] 38)).heap.size = V.heap.size + 1 := by simp
    obtain ⟨m, hm⟩ : ∃ m, m = R.length := ⟨_, rfl⟩
    rw [← hm] at x0
    have HMm := hid hm
    clear hm
    clear hd hx2 hy2 hbl hbt hvV hin hr hk
    unfold GT.val
    by_cases h1 : m = 0
    · have hR : R = [] := List.eq_nil_of_length_eq_zero (by rw [← HMm.out]; exact h1)
      subst hR
      subst h1
      by_cases he : e1 = 0
      · subst he
        have v0 := HVW.out.cell 0
        have vf0 := HVW.out.frozen 0
        simp at v0
        have v1 := HVW.out.cell 1
        have vf1 := HVW.out.frozen 1
        simp at v1
        have v2 := HVW.out.cell 2
        have vf2 := HVW.out.frozen 2
        simp at v2
        have v3 := HVW.out.cell 3
        have vf3 := HVW.out.frozen 3
        simp at v3
        have v4 := HVW.out.cell 4
        have vf4 := HVW.out.frozen 4
        simp at v4
        have v5 := HVW.out.cell 5
        have vf5 := HVW.out.frozen 5
        simp at v5
        have v6 := HVW.out.cell 6
        have vf6 := HVW.out.frozen 6
        simp at v6
        have v7 := HVW.out.cell 7
        have vf7 := HVW.out.frozen 7
        simp at v7
        have v8 := HVW.out.cell 8
        have vf8 := HVW.out.frozen 8
        simp at v8
        have v9 := HVW.out.cell 9
        have vf9 := HVW.out.frozen 9
        simp at v9
        have v10 := HVW.out.cell 10
        have vf10 := HVW.out.frozen 10
        simp at v10
        have zz := set11_box HVW.out (.int .i64 (t.id : Int)) (.int .i64 (t.task : Int)) (.int .i64 (t.base : Int)) (.int .u32 (t.sum : Int)) (.int .i64 t.st.num) (.slice t.st.p t.st.n t.st.c) (.int .i64 (t.d.num : Int)) (.slice t.d.set.p t.d.set.n t.d.set.c) (.slice t.d.gone.p t.d.gone.n t.d.gone.c) (.slice t.logs.p t.logs.n t.logs.c) (.slice t.pend.p t.pend.n t.pend.c)
        have r0' := zz.cell 0
        have r1' := zz.cell 1
        have r2' := zz.cell 2
        have r3' := zz.cell 3
        have r4' := zz.cell 4
        have r5' := zz.cell 5
        have r6' := zz.cell 6
        have r7' := zz.cell 7
        have r8' := zz.cell 8
        have r9' := zz.cell 9
        have r10' := zz.cell 10
        simp only [List.getElem?_toArray, List.getElem?_cons_zero, List.getElem?_cons_succ] at r0' r1' r2' r3' r4' r5' r6' r7' r8' r9' r10'
        have HZ := hid (And.intro r0' (And.intro r1' (And.intro r2' (And.intro r3' (And.intro r4' (And.intro r5' (And.intro r6' (And.intro r7' (And.intro r8' (And.intro r9' (r10')))))))))))
        clear zz r0' r1' r2' r3' r4' r5' r6' r7' r8' r9' r10'
        clear hvW
        go_wp2
        obtain ⟨r0', r1', r2', r3', r4', r5', r6', r7', r8', r9', r10'⟩ := HZ.out
        have hfin := But.sets11 (V.alloc (.cells #[.int .i64 (t.id : Int), .int .i64 (t.task : Int), .int .i64 (t.base : Int), .int .u32 (t.sum : Int), .int .i64 t.st.num, .slice t.st.p t.st.n t.st.c, .int .i64 (t.d.num : Int), .slice t.d.set.p t.d.set.n t.d.set.c, .slice t.d.gone.p t.d.gone.n t.d.gone.c, .slice t.logs.p t.logs.n t.logs.c, .slice t.pend.p t.pend.n t.pend.c] 38)) w.heap.size (.int .i64 (t.id : Int)) (.int .i64 (t.task : Int)) (.int .i64 (t.base : Int)) (.int .u32 (t.sum : Int)) (.int .i64 t.st.num) (.slice t.st.p t.st.n t.st.c) (.int .i64 (t.d.num : Int)) (.slice t.d.set.p t.d.set.n t.d.set.c) (.slice t.d.gone.p t.d.gone.n t.d.gone.c) (.slice t.logs.p t.logs.n t.logs.c) (.slice t.pend.p t.pend.n t.pend.c)
        have hbf : Below w.heap.size w _ := HBl.out.trans (hfin.below (by omega) (fun k hk e => by omega))
        refine bodyPost_ret (v := .tuple #[GT.val t, .int .i64 0]) (by simp [results, Try.results76, go_sem, GT.val, r0', r1', r2', r3', r4', r5', r6', r7', r8', r9', r10']) rfl ⟨hbf, fun y hy => ⟨t, rfl, GT.In.mono (S := fun b => w.heap.size + 2 ≤ b) (HIn.out.but hfin (fun b hb _ e => by omega)) (fun b hb _ => by omega), (HRr.out.good rfl y [] hy).2.2⟩, fun y z R hy => (by have := (HRr.out.good rfl y _ hy).1; cases this), fun k hk => absurd rfl (HRr.out.bad rfl k hk).2⟩
      · have he' : (e1 == 0) = false := by simpa using he
        have hxE := HxW.out
        have hbz := (Below.refl (V.alloc (.cells #[.int .i64 (t.id : Int), .int .i64 (t.task : Int), .int .i64 (t.base : Int), .int .u32 (t.sum : Int), .int .i64 t.st.num, .slice t.st.p t.st.n t.st.c, .int .i64 (t.d.num : Int), .slice t.d.set.p t.d.set.n t.d.set.c, .slice t.d.gone.p t.d.gone.n t.d.gone.c, .slice t.logs.p t.logs.n t.logs.c, .slice t.pend.p t.pend.n t.pend.c] 38)).heap.size (V.alloc (.cells #[.int .i64 (t.id : Int), .int .i64 (t.task : Int), .int .i64 (t.base : Int), .int .u32 (t.sum : Int), .int .i64 t.st.num, .slice t.st.p t.st.n t.st.c, .int .i64 (t.d.num : Int), .slice t.d.set.p t.d.set.n t.d.set.c, .slice t.d.gone.p t.d.gone.n t.d.gone.c, .slice t.logs.p t.logs.n t.logs.c, .slice t.pend.p t.pend.n t.pend.c] 38))).alloc (Nat.le_refl _) (.cells #[.int .i64 0, .int .i64 0, .int .i64 0, .int .u32 0, .int .i64 0, .slice none 0 0, .int .i64 0, .slice none 0 0, .slice none 0 0, .slice none 0 0, .slice none 0 0] 38)
        have HVz := hid (hvW.below hbz)
        have v0 := HVz.out.cell 0
        have vf0 := HVz.out.frozen 0
        simp at v0
        have v1 := HVz.out.cell 1
        have vf1 := HVz.out.frozen 1
        simp at v1
        have v2 := HVz.out.cell 2
        have vf2 := HVz.out.frozen 2
        simp at v2
        have v3 := HVz.out.cell 3
        have vf3 := HVz.out.frozen 3
        simp at v3
        have v4 := HVz.out.cell 4
        have vf4 := HVz.out.frozen 4
        simp at v4
        have v5 := HVz.out.cell 5
        have vf5 := HVz.out.frozen 5
        simp at v5
        have v6 := HVz.out.cell 6
        have vf6 := HVz.out.frozen 6
        simp at v6
        have v7 := HVz.out.cell 7
        have vf7 := HVz.out.frozen 7
        simp at v7
        have v8 := HVz.out.cell 8
        have vf8 := HVz.out.frozen 8
        simp at v8
        have v9 := HVz.out.cell 9
        have vf9 := HVz.out.frozen 9
        simp at v9
        have v10 := HVz.out.cell 10
        have vf10 := HVz.out.frozen 10
        simp at v10
        have z1 := (hxE.below hbz).cell 1
        simp only [List.getElem?_toArray, List.getElem?_cons_zero, List.getElem?_cons_succ] at z1
        have zz := set11_box HVz.out (.int .i64 0) (.int .i64 0) (.int .i64 0) (.int .u32 0) (.int .i64 0) (.slice none 0 0) (.int .i64 0) (.slice none 0 0) (.slice none 0 0) (.slice none 0 0) (.slice none 0 0)
        have r0' := zz.cell 0
        have r1' := zz.cell 1
        have r2' := zz.cell 2
        have r3' := zz.cell 3
        have r4' := zz.cell 4
        have r5' := zz.cell 5
        have r6' := zz.cell 6
        have r7' := zz.cell 7
        have r8' := zz.cell 8
        have r9' := zz.cell 9
        have r10' := zz.cell 10
        simp only [List.getElem?_toArray, List.getElem?_cons_zero, List.getElem?_cons_succ] at r0' r1' r2' r3' r4' r5' r6' r7' r8' r9' r10'
        have HZ := hid (And.intro r0' (And.intro r1' (And.intro r2' (And.intro r3' (And.intro r4' (And.intro r5' (And.intro r6' (And.intro r7' (And.intro r8' (And.intro r9' (r10')))))))))))
        clear zz r0' r1' r2' r3' r4' r5' r6' r7' r8' r9' r10'
        have HBz := hid hbz
        clear hbz hvW hxE
        go_wp2_with fail
        go_region
        go_wp2
        obtain ⟨r0', r1', r2', r3', r4', r5', r6', r7', r8', r9', r10'⟩ := HZ.out
        have hfin := (But.sets11 ((V.alloc (.cells #[.int .i64 (t.id : Int), .int .i64 (t.task : Int), .int .i64 (t.base : Int), .int .u32 (t.sum : Int), .int .i64 t.st.num, .slice t.st.p t.st.n t.st.c, .int .i64 (t.d.num : Int), .slice t.d.set.p t.d.set.n t.d.set.c, .slice t.d.gone.p t.d.gone.n t.d.gone.c, .slice t.logs.p t.logs.n t.logs.c, .slice t.pend.p t.pend.n t.pend.c] 38)).alloc (.cells #[.int .i64 0, .int .i64 0, .int .i64 0, .int .u32 0, .int .i64 0, .slice none 0 0, .int .i64 0, .slice none 0 0, .slice none 0 0, .slice none 0 0, .slice none 0 0] 38)) w.heap.size (.int .i64 0) (.int .i64 0) (.int .i64 0) (.int .u32 0) (.int .i64 0) (.slice none 0 0) (.int .i64 0) (.slice none 0 0) (.slice none 0 0) (.slice none 0 0) (.slice none 0 0)).drew
        have hbf : Below w.heap.size w _ := (HBl.out.trans (HBz.out.mono (by omega))).trans (hfin.below (by have := HBz.out.size; omega) (fun k hk e => by omega))
        refine bodyPost_ret (v := .tuple #[.agg #[.int .i64 0, .int .i64 0, .int .i64 0, .int .u32 0, .int .i64 0, .slice none 0 0, .int .i64 0, .slice none 0 0, .slice none 0 0, .slice none 0 0, .slice none 0 0], .int .i64 e1]) (by simp [results, Try.results76, go_sem, r0', r1', r2', r3', r4', r5', r6', r7', r8', r9', r10']) rfl ⟨hbf, fun y hy => absurd (HRr.out.good rfl y _ hy).2.1 he, fun y z R hy => absurd (HRr.out.good rfl y _ hy).2.1 he, fun k hk => ⟨by rw [(HRr.out.bad rfl k hk).1], fun h0 => he (by rw [(HRr.out.bad rfl k hk).1, h0]; rfl)⟩⟩
    · have h1' : (0 : Int) < (m : Int) := by omega
      have HF := hid (wrFail_any (V.alloc (.cells #[.int .i64 (t.id : Int), .int .i64 (t.task : Int), .int .i64 (t.base : Int), .int .u32 (t.sum : Int), .int .i64 t.st.num, .slice t.st.p t.st.n t.st.c, .int .i64 (t.d.num : Int), .slice t.d.set.p t.d.set.n t.d.set.c, .slice t.d.gone.p t.d.gone.n t.d.gone.c, .slice t.logs.p t.logs.n t.logs.c, .slice t.pend.p t.pend.n t.pend.c] 38)) S (w.heap.size + 1) R e1 44 HRd.out)
      go_wp2_with fail
      refine HF.out.mono ?_
      rintro x V2 ⟨rfl, hd2, hk2⟩
      clear HF hvW
      have hvW := HVW.out.but hk2 (by omega)
      obtain ⟨⟨p3, hx3, hy3⟩, ho3⟩ := id hd2
      have y1 := hx3.cell 1
      simp only [List.getElem?_toArray, List.getElem?_cons_zero, List.getElem?_cons_succ] at y1
      have hs2 := hk2.size
      have hbl2 : Below w.heap.size w V2 := HBl.out.trans (hk2.below (by omega) (fun k hk e => by omega))
      clear HBl
      have HBl := hid hbl2
      have hne : (if e1 = 0 then (44 : Int) else e1) ≠ 0 := by split <;> omega
      have hE : ∃ E, E = (if e1 = 0 then (44 : Int) else e1) := ⟨_, rfl⟩
      obtain ⟨E, hE⟩ := hE
      rw [← hE] at y1 hne hx3
      have hne' : (E == 0) = false := by simpa using hne
      have HE := hid hE
      clear hE
      have hxE := hx3
      clear hd2 hk2 hx3 hy3 hbl2 x0 x1
      have hbz := (Below.refl V2.heap.size V2).alloc (Nat.le_refl _) (.cells #[.int .i64 0, .int .i64 0, .int .i64 0, .int .u32 0, .int .i64 0, .slice none 0 0, .int .i64 0, .slice none 0 0, .slice none 0 0, .slice none 0 0, .slice none 0 0] 38)
      have HVz := hid (hvW.below hbz)
      have v0 := HVz.out.cell 0
      have vf0 := HVz.out.frozen 0
      simp at v0
      have v1 := HVz.out.cell 1
      have vf1 := HVz.out.frozen 1
      simp at v1
      have v2 := HVz.out.cell 2
      have vf2 := HVz.out.frozen 2
      simp at v2
      have v3 := HVz.out.cell 3
      have vf3 := HVz.out.frozen 3
      simp at v3
      have v4 := HVz.out.cell 4
      have vf4 := HVz.out.frozen 4
      simp at v4
      have v5 := HVz.out.cell 5
      have vf5 := HVz.out.frozen 5
      simp at v5
      have v6 := HVz.out.cell 6
      have vf6 := HVz.out.frozen 6
      simp at v6
      have v7 := HVz.out.cell 7
      have vf7 := HVz.out.frozen 7
      simp at v7
      have v8 := HVz.out.cell 8
      have vf8 := HVz.out.frozen 8
      simp at v8
      have v9 := HVz.out.cell 9
      have vf9 := HVz.out.frozen 9
      simp at v9
      have v10 := HVz.out.cell 10
      have vf10 := HVz.out.frozen 10
      simp at v10
      have z1 := (hxE.below hbz).cell 1
      simp only [List.getElem?_toArray, List.getElem?_cons_zero, List.getElem?_cons_succ] at z1
      have zz := set11_box HVz.out (.int .i64 0) (.int .i64 0) (.int .i64 0) (.int .u32 0) (.int .i64 0) (.slice none 0 0) (.int .i64 0) (.slice none 0 0) (.slice none 0 0) (.slice none 0 0) (.slice none 0 0)
      have r0' := zz.cell 0
      have r1' := zz.cell 1
      have r2' := zz.cell 2
      have r3' := zz.cell 3
      have r4' := zz.cell 4
      have r5' := zz.cell 5
      have r6' := zz.cell 6
      have r7' := zz.cell 7
      have r8' := zz.cell 8
      have r9' := zz.cell 9
      have r10' := zz.cell 10
      simp only [List.getElem?_toArray, List.getElem?_cons_zero, List.getElem?_cons_succ] at r0' r1' r2' r3' r4' r5' r6' r7' r8' r9' r10'
      have HZ := hid (And.intro r0' (And.intro r1' (And.intro r2' (And.intro r3' (And.intro r4' (And.intro r5' (And.intro r6' (And.intro r7' (And.intro r8' (And.intro r9' (r10')))))))))))
      clear zz r0' r1' r2' r3' r4' r5' r6' r7' r8' r9' r10'
      have HBz := hid hbz
      clear hbz hvW hxE
      go_wp2_with fail
      go_region
      go_wp2
      obtain ⟨r0', r1', r2', r3', r4', r5', r6', r7', r8', r9', r10'⟩ := HZ.out
      have hfin := (But.sets11 (V2.alloc (.cells #[.int .i64 0, .int .i64 0, .int .i64 0, .int .u32 0, .int .i64 0, .slice none 0 0, .int .i64 0, .slice none 0 0, .slice none 0 0, .slice none 0 0, .slice none 0 0] 38)) w.heap.size (.int .i64 0) (.int .i64 0) (.int .i64 0) (.int .u32 0) (.int .i64 0) (.slice none 0 0) (.int .i64 0) (.slice none 0 0) (.slice none 0 0) (.slice none 0 0) (.slice none 0 0)).drew
      have hbf : Below w.heap.size w _ := (HBl.out.trans (HBz.out.mono (by omega))).trans (hfin.below (by have := HBz.out.size; omega) (fun k hk e => by omega))
      refine bodyPost_ret (v := .tuple #[.agg #[.int .i64 0, .int .i64 0, .int .i64 0, .int .u32 0, .int .i64 0, .slice none 0 0, .int .i64 0, .slice none 0 0, .slice none 0 0, .slice none 0 0, .slice none 0 0], .int .i64 E]) (by simp [results, Try.results76, go_sem, r0', r1', r2', r3', r4', r5', r6', r7', r8', r9', r10']) rfl ⟨hbf, fun y hy => (by have h2 := (HRr.out.good rfl y _ hy).1; rw [h2] at HMm; exact absurd HMm.out h1), fun y z R2 hy => (by rw [HE.out, if_pos (HRr.out.good rfl y _ hy).2.1]), fun k hk => ⟨by rw [HE.out, if_neg (HRr.out.bad rfl k hk).2, (HRr.out.bad rfl k hk).1], fun h0 => (HRr.out.bad rfl k hk).2 (by rw [(HRr.out.bad rfl k hk).1, h0]; rfl)⟩⟩
end Go.Proofs.Ytikfpoabaaiegaa
