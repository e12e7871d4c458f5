import Derived.Test.YtbeibhmbaofjhaaYkG
import Derived.Test.YtbeibhmbaofjhaaUaC
import Derived.Deep.DeepCutAuto
namespace Go.Proofs.Ytbeibhmbaofjhaa
open Go.RowKit
set_option maxRecDepth 8000
theorem kindI : ∃ i, Kind 23 3 i (.int .i64 0) 1 8 := by
  obtain ⟨i0, hi, hz0, hz1, hz2⟩ := info_parts (show (Try.prog.info? 3).map (fun i => (i.zero, i.size, i.bytes)) = some (some (.int .i64 0), 1, 8) by kernel_rfl)
  exact ⟨i0, Try.underlying23, hi, hz0, hz1, hz2, rfl, by decide⟩
theorem put_X (b : Yb) (i : Nat) (v : Value) (xs : List Value) : (b.put i v xs).X i = xs := upd_self _ _ _
theorem put_ne (b : Yb) (i : Nat) (v : Value) (xs : List Value) {j : Nat} (h : j ≠ i) : (b.put i v xs).X j = b.X j := upd_ne _ _ h
theorem one_new (w : World) (a : Value) (e : TypeId) : ∀ j u, [a][j]? = some u → (w.alloc (.cells #[a] e)).cell? ((⟨w.heap.size, 0, none⟩ : Addr).add j) = some u := by
  intro j u hu
  have hX : Box (w.alloc (.cells #[a] e)) w.heap.size #[a] e := Box.new _ _ _
  rw [Go.WideShapes.add_plain, Nat.zero_add, hX.cell]
  match j, hu with
  | 0, hu => exact hu
theorem one_drew {w w' : World} {b : Nat} {a : Value} {e : TypeId} (hw : w' = (w.alloc (.cells #[a] e)).drew) (hb : b = w.heap.size) : ∀ j u, [a][j]? = some u → w'.cell? ((⟨b, 0, none⟩ : Addr).add j) = some u := by
  subst hw hb
  intro j u hu
  exact one_new w a e j u hu
theorem one_val (u : Value) (h : u.oneCell' = true) : ∀ x ∈ [u], x.oneCell' = true := by
  intro x hx
  obtain rfl := List.mem_singleton.1 hx
  exact h
def TnQ (Z : Nat → Prop) (kb : Nat) (sn : Int) (w : World) (e : Ending) (w' : World) : Prop :=
  e = .returned (.tuple #[]) ∧ Fr Z w w' ∧ ∃ (b' : Yb) (outs' told' waits' notes' : List YS) (marks' lefts' : List Int), YbI w' Z kb b' outs' told' waits' notes' marks' lefts' ∧ b'.sn = sn ∧ (∀ x ∈ waits', x.zs.length ≤ 100000)
set_option maxHeartbeats 16000000 in
/-- those that have waited long enough are written, the others wait on -/
theorem turnBytes_any (Z : Nat → Prop) (kb : Nat) (b : Yb) (outs told waits notes : List YS) (marks lefts : List Int) (w : World) (hM : YbM w Z kb b) (hL : YbL b outs told waits notes marks lefts) (hwz : ∀ x ∈ waits, x.zs.length ≤ 100000) :
    Calls Try.prog 35 #[.pointer (some ⟨kb, 0, none⟩)] w fun e w' => TnQ Z kb b.sn w e w' := by
  obtain ⟨w1, hw1⟩ : ∃ V, V = (((w.setCell ⟨kb, 4, none⟩ (.slice none 0 0)).setCell ⟨kb, 5, none⟩ (.slice none 0 0)).setCell ⟨kb, 6, none⟩ (.slice none 0 0)).setCell ⟨kb, 7, none⟩ (.slice none 0 0) := ⟨_, rfl⟩
  obtain ⟨hE1, hE2⟩ := hM.emp w1 hw1
  obtain ⟨Y, hY⟩ : ∃ Y : Nat → Prop, Y = fun k => Z k ∨ ∃ i, 2 ≤ i ∧ i < 6 ∧ k ∈ ob (b.F i) := ⟨_, rfl⟩
  rw [← hY] at hE1 hE2
  have HYZ : Hid (∀ k, Z k → Y k) := by intro k hk; rw [hY]; exact .inl hk
  obtain ⟨pL, cL, hvL⟩ := row_val (hM.row 2 (by decide))
  obtain ⟨pN, cN, hvN⟩ := row_val (hM.row 3 (by decide))
  obtain ⟨pM, cM, hvM⟩ := row_val (hM.row 4 (by decide))
  obtain ⟨pF, cF, hvF⟩ := row_val (hM.row 5 (by decide))
  have lL : (b.X 2).length = waits.length := by rw [hL.x2, List.length_map]
  have lN : (b.X 3).length = waits.length := by rw [hL.x3, List.length_map, zs_len hL.sn]
  have lM : (b.X 4).length = waits.length := by rw [hL.x4, ints, List.length_map, hL.lm]
  have lF : (b.X 5).length = waits.length := by rw [hL.x5, ints, List.length_map, hL.ll]
  rw [lL] at hvL
  rw [lN] at hvN
  rw [lM] at hvM
  rw [lF] at hvF
  have HRo : Hid (∀ W, Fr Y w1 W → W.ownsRow 0 51 1 (.slice pL waits.length cL) waits.length (waits.map YS.val) ∧ W.ownsRow 0 51 1 (.slice pN waits.length cN) waits.length (notes.map YS.val) ∧ W.ownsRow 0 3 1 (.slice pM waits.length cM) waits.length (ints marks) ∧ W.ownsRow 0 3 1 (.slice pF waits.length cF) waits.length (ints lefts)) := by
    intro W hW
    have hall := hE2.trans hW
    have key : ∀ i, 2 ≤ i → i < 6 → W.ownsRow 0 (ybTy i) 1 (b.F i) (b.X i).length (b.X i) := fun i h2 h6 => own_kept (hM.row i h6) fun k hk => hall.block k (own_lt (hM.row i h6) hk) fun e => e (by rw [hY]; exact .inr ⟨i, h2, h6, hk⟩)
    have k2 := key 2 (by decide) (by decide)
    have k3 := key 3 (by decide) (by decide)
    have k4 := key 4 (by decide) (by decide)
    have k5 := key 5 (by decide) (by decide)
    rw [lL, hvL, hL.x2] at k2
    rw [lN, hvN, hL.x3] at k3
    rw [lM, hvM, hL.x4] at k4
    rw [lF, hvF, hL.x5] at k5
    exact ⟨k2, k3, k4, k5⟩
  have HT0 : Hid (YbT b.emp outs told [] [] [] [] waits) := by
    refine ⟨hL.x0, hL.x1, rfl, rfl, rfl, rfl, hL.so, rfl, rfl, rfl, fun l hl => by simp at hl, fun m hm => by simp at hm, hL.ow, fun x hx => ?_, ?_, hL.s0, hwz⟩
    · rcases hx with hx | hx | hx
      · exact hL.rd x (.inl hx)
      · exact hL.rd x (.inr (.inl hx))
      · simp at hx
    · have := hL.le
      show outs.length + 2 * (0 + waits.length) ≤ 2 * b.sn.toNat
      omega
  have HNa0 : Hid (∀ y ∈ notes, y ∈ b.emp.rd) := fun y hy => hL.rd y (.inr (.inr hy))
  have HM1 := hid hE1
  have HF1 := hid hE2
  have HL := hid hL
  have hwn : waits.length ≤ 1000000 := by have := hL.le; have := hL.s0; omega
  have q4 : w.cell? ⟨kb, 4, none⟩ = some (.slice pL waits.length cL) := by rw [← hvL]; exact (hM.bx.cell 4).trans rfl
  have q5 : w.cell? ⟨kb, 5, none⟩ = some (.slice pN waits.length cN) := by rw [← hvN]; exact (hM.bx.cell 5).trans rfl
  have q6 : w.cell? ⟨kb, 6, none⟩ = some (.slice pM waits.length cM) := by rw [← hvM]; exact (hM.bx.cell 6).trans rfl
  have q7 : w.cell? ⟨kb, 7, none⟩ = some (.slice pF waits.length cF) := by rw [← hvF]; exact (hM.bx.cell 7).trans rfl
  have f4 := hM.bx.frozen 4
  have f5 := hM.bx.frozen 5
  have f6 := hM.bx.frozen 6
  have f7 := hM.bx.frozen 7
  have ql := hM.bx.lt
  have HW1 := hid hw1
  have HSn : Hid (b.emp.sn = b.sn) := rfl
  clear hM hL hwz hE1 hE2 hY hvL hvN hvM hvF lL lN lM lF hw1
  go_enter Try.func35, Try.ntmps35
  go_upto_region 5 with fail
  rw [← HW1.out]
  clear q4 q5 q6 q7 f4 f5 f6 f7 ql
  go_wp2_with fail
  go_loopw [6] (fun v wr => ∃ (i : Nat) (b2 : Yb) (outs2 told2 kept knotes : List YS) (kmarks klefts : List Int), i ≤ waits.length ∧ v = .int .i64 (i : Int) ∧ YbM wr Y kb b2 ∧ (YbT b2 outs2 told2 kept knotes kmarks klefts (waits.drop i) ∧ b2.sn = b.sn) ∧ (∀ y ∈ notes, y ∈ b2.rd) ∧ Fr Y w1 wr) (fun v _ => waits.length - (intOf v).toNat)
  case atStart => exact ⟨0, b.emp, outs, told, [], [], [], [], Nat.zero_le _, rfl, HM1.out, ⟨by rw [List.drop_zero]; exact HT0.out, rfl⟩, HNa0.out, Fr.refl _ _⟩
  case round =>
    obtain ⟨i, b2, outs2, told2, kept, knotes, kmarks, klefts, hi, rfl, hm, ⟨ht, hsn⟩, hna, hf⟩ := hrel
    have HM := hid hm
    have HT := hid ht
    have HSn2 := hid hsn
    have HNa := hid hna
    have HF := hid hf
    clear hm ht hna hf hsn HM1 HT0 HNa0
    by_cases hlt : i < waits.length
    · as_aux_lemma =>
      have hlt' : (i : Int) < (waits.length : Int) := by omega
      obtain ⟨gL, kL, hvL, hkL, hgL, _, _⟩ := row_at (HRo.out wr HF.out).1 (by omega)
      obtain ⟨gN, kN, hvN, hkN, hgN, _, _⟩ := row_at (HRo.out wr HF.out).2.1 (by omega)
      obtain ⟨gM, kM, hvM, hkM, hgM, _, _⟩ := row_at (HRo.out wr HF.out).2.2.1 (by omega)
      obtain ⟨gF, kF, hvF, hkF, hgF, _, _⟩ := row_at (HRo.out wr HF.out).2.2.2 (by omega)
      simp only [Value.slice.injEq, true_and] at hvL hvN hvM hvF
      obtain ⟨rfl, rfl⟩ := hvL
      obtain ⟨rfl, rfl⟩ := hvN
      obtain ⟨rfl, rfl⟩ := hvM
      obtain ⟨rfl, rfl⟩ := hvF
      obtain ⟨x, hx⟩ : ∃ x, waits[i]? = some x := ⟨_, List.getElem?_eq_getElem hlt⟩
      obtain ⟨y, hy, hyz⟩ := zs_at HL.out.sn hx
      obtain ⟨mk, hmk⟩ : ∃ x, marks[i]? = some x := ⟨_, List.getElem?_eq_getElem (by rw [HL.out.lm]; exact hlt)⟩
      obtain ⟨lf, hlf⟩ : ∃ x, lefts[i]? = some x := ⟨_, List.getElem?_eq_getElem (by rw [HL.out.ll]; exact hlt)⟩
      obtain ⟨xp, xc, xz⟩ := x
      obtain ⟨yp, yc, yz⟩ := y
      change yz = xz at hyz
      subst hyz
      have HAt : Hid (∀ W, Fr Y wr W → W.cell? ⟨gL, i, none⟩ = some (.slice xp yz.length xc) ∧ W.cell? ⟨gN, i, none⟩ = some (.slice yp yz.length yc) ∧ W.cell? ⟨gM, i, none⟩ = some (.int .i64 mk) ∧ W.cell? ⟨gF, i, none⟩ = some (.int .i64 lf)) := by
        intro W hW
        obtain ⟨r1, r2, r3, r4⟩ := HRo.out W (HF.out.trans hW)
        obtain ⟨_, _, e1, _, _, _, a1⟩ := row_at r1 (by omega)
        obtain ⟨_, _, e2, _, _, _, a2⟩ := row_at r2 (by omega)
        obtain ⟨_, _, e3, _, _, _, a3⟩ := row_at r3 (by omega)
        obtain ⟨_, _, e4, _, _, _, a4⟩ := row_at r4 (by omega)
        simp only [Value.slice.injEq, Option.some.injEq, Addr.mk.injEq, true_and, and_true] at e1 e2 e3 e4
        obtain ⟨rfl, rfl⟩ := e1
        obtain ⟨rfl, rfl⟩ := e2
        obtain ⟨rfl, rfl⟩ := e3
        obtain ⟨rfl, rfl⟩ := e4
        exact ⟨a1 i _ (by rw [List.getElem?_map, hx]; rfl), a2 i _ (by rw [List.getElem?_map, hy]; rfl), a3 i _ (by rw [ints, List.getElem?_map, hmk]; rfl), a4 i _ (by rw [ints, List.getElem?_map, hlf]; rfl)⟩
      have HLf := hid (HL.out.lp lf (List.mem_of_getElem? hlf))
      have HMk := hid (HL.out.mp mk (List.mem_of_getElem? hmk))
      have HDr : Hid (waits.drop i = ⟨xp, xc, yz⟩ :: waits.drop (i + 1)) := by
        show _ = _
        rw [List.drop_eq_getElem_cons hlt]
        rw [List.getElem?_eq_getElem hlt] at hx
        rw [Option.some.inj hx]
      have HIn : Hid ((⟨xp, xc, yz⟩ : YS) ∈ waits.drop i) := by show _ ∈ _; rw [HDr.out]; simp
      have HNt : Hid ((⟨yp, yc, yz⟩ : YS) ∈ b2.rd) := HNa.out _ (List.mem_of_getElem? hy)
      have HOw : Hid (b2.own = kept ++ ⟨xp, xc, yz⟩ :: waits.drop (i + 1)) := by show _ = _; rw [HT.out.ow, HDr.out]
      have HXz : Hid (yz.length ≤ 100000) := HT.out.wz ⟨xp, xc, yz⟩ (List.mem_append.2 (.inr HIn.out))
      clear hx hy hmk hlf
      have qb : wr.cell? ⟨kb, 1, none⟩ = some (.bool false) := (HM.out.bx.cell 1).trans rfl
      have ql := HM.out.bx.lt
      obtain ⟨cx, cy, cm, cl⟩ := HAt.out wr (Fr.refl _ _)
      have HSm : Hid (Calls Try.prog 39 #[.slice xp yz.length xc, .slice yp yz.length yc] wr.drew fun e w' => e = .returned (.bool true) ∧ w' = wr.drew) := by
        have hd := HM.out.below (Below.refl _ _).drew
        have kx := wait_ok (hd.cw ⟨xp, xc, yz⟩ (by rw [HT.out.ow]; exact List.mem_append.2 (.inr HIn.out)))
        have ky := hd.cc ⟨yp, yc, yz⟩ HNt.out
        exact ksame_yes _ _ _ _ _ _ _ _ _ kx ky
      have hM5 : YbM (wr.setCell ⟨kb, 1, none⟩ (.bool false)).drew Y kb b2 ∧ Fr Y wr (wr.setCell ⟨kb, 1, none⟩ (.bool false)).drew := ⟨HM.out.bad.1.below (Below.refl _ _).drew, HM.out.bad.2.trans (Fr.below (Below.refl _ _).drew)⟩
      have f1 := (HM.out.below (Below.refl _ _).drew).bx.frozen 1
      have q1 : wr.drew.cell? ⟨kb, 1, none⟩ = some (.bool false) := ((HM.out.below (Below.refl _ _).drew).bx.cell 1).trans rfl
      have q1l := (HM.out.below (Below.refl _ _).drew).bx.lt
      have HP5 := hid hM5
      clear hM5
      go_upto_region 8 with fail
      refine wp_region_calmE 30 (fun wx => Below wr.heap.size wr wx) [(0, true), (1, true), (2, true), (3, true), (4, false), (5, true), (6, true), (7, true), (8, true), (9, false), (10, true), (11, true), (12, true), (13, false)] (.one 14 false [(15, true), (16, true), (17, true), (18, true)] (.one 19 false [] .done)) (by kernel_rfl) (by kernel_rfl) (Below.refl _ _).drew ?_
      refine wpPre_e rfl rfl (fun K1 hK1 => ?_)
      apply Exists.intro
      refine And.intro (fun wx hx => ?_) ?_
      · go_simp
        try rfl
      go_simp
      refine hK1 _ ?_
      clear hK1 K1
      refine wpPre_e rfl rfl (fun K1 hK1 => ?_)
      apply Exists.intro
      refine And.intro (fun wx hx => ?_) ?_
      · go_simp
        try rfl
      go_simp
      refine hK1 _ ?_
      clear hK1 K1
      refine wpPre_e rfl rfl (fun K1 hK1 => ?_)
      apply Exists.intro
      refine And.intro (fun wx hx => ?_) ?_
      · go_simp
        try rfl
      go_simp
      refine hK1 _ ?_
      clear hK1 K1
      refine wpPre_e rfl rfl (fun K1 hK1 => ?_)
      apply Exists.intro
      refine And.intro (fun wx hx => ?_) ?_
      · go_simp
        try rfl
      go_simp
      refine hK1 _ ?_
      clear hK1 K1
      refine wpPre_e rfl rfl (fun K1 hK1 => ?_)
      apply Exists.intro
      refine And.intro (fun wx hx => ?_) ?_
      · have e0 := below_fact hx rfl qb
        go_simp
        try rfl
      go_simp
      refine hK1 _ ?_
      clear hK1 K1
      refine wpPre_e rfl rfl (fun K1 hK1 => ?_)
      apply Exists.intro
      refine And.intro (fun wx hx => ?_) ?_
      · go_simp
        try rfl
      go_simp
      refine hK1 _ ?_
      clear hK1 K1
      refine wpPre_i rfl (fun K1 hK1 => ?_)
      rw [if_pos (by go_simp)]
      apply Exists.intro
      refine And.intro (fun wx hx => ?_) ?_
      · go_simp
        try rfl
      go_simp
      refine hK1 _ ?_
      clear hK1 K1
      refine wpPre_i rfl (fun K1 hK1 => ?_)
      rw [if_pos (by go_simp)]
      apply Exists.intro
      refine And.intro (fun wx hx => ?_) ?_
      · go_simp
        try rfl
      go_simp
      refine hK1 _ ?_
      clear hK1 K1
      refine wpPre_i rfl (fun K1 hK1 => ?_)
      rw [if_pos (by go_simp)]
      apply Exists.intro
      refine And.intro (fun wx hx => ?_) ?_
      · go_simp
        try rfl
      go_simp
      refine hK1 _ ?_
      clear hK1 K1
      refine wpPre_i rfl (fun K1 hK1 => ?_)
      rw [if_pos (by go_simp)]
      apply Exists.intro
      refine And.intro (fun wx hx => ?_) ?_
      · have e0 := below_fact hx rfl cx
        go_simp
        try rfl
      go_simp
      refine hK1 _ ?_
      clear hK1 K1
      refine wpPre_i rfl (fun K1 hK1 => ?_)
      rw [if_pos (by go_simp)]
      apply Exists.intro
      refine And.intro (fun wx hx => ?_) ?_
      · go_simp
        try rfl
      go_simp
      refine hK1 _ ?_
      clear hK1 K1
      refine wpPre_i rfl (fun K1 hK1 => ?_)
      rw [if_pos (by go_simp)]
      apply Exists.intro
      refine And.intro (fun wx hx => ?_) ?_
      · go_simp
        try rfl
      go_simp
      refine hK1 _ ?_
      clear hK1 K1
      refine wpPre_i rfl (fun K1 hK1 => ?_)
      rw [if_pos (by go_simp)]
      apply Exists.intro
      refine And.intro (fun wx hx => ?_) ?_
      · go_simp
        try rfl
      go_simp
      refine hK1 _ ?_
      clear hK1 K1
      refine wpPre_i rfl (fun K1 hK1 => ?_)
      rw [if_pos (by go_simp)]
      apply Exists.intro
      refine And.intro (fun wx hx => ?_) ?_
      · have e0 := below_fact hx rfl cy
        go_simp
        try rfl
      go_simp
      refine hK1 _ ?_
      clear hK1 K1
      refine wpPre_nil ?_
      refine wpTr_e rfl (fun K1 hK1 => ?_)
      refine step_callG (by first | rfl | go_simp) 39 #[.tmp 50, .tmp 54] _ rfl Try.f39 Try.func39 (by kernel_rfl) rfl #[.slice xp yz.length xc, .slice yp yz.length yc] rfl _ (HSm.out) ?_
      rintro e_ w4 ⟨rfl, hw4⟩
      obtain rfl := hw4.symm
      refine ⟨_, rfl, ?_⟩
      go_simp
      refine hK1 _ _ (fun h => by cases h) ?_
      clear hK1 K1
      refine wpPre_i rfl (fun K1 hK1 => ?_)
      rw [if_pos (by go_simp)]
      apply Exists.intro
      refine And.intro (fun wx hx => ?_) ?_
      · go_simp
        try rfl
      go_simp
      refine hK1 _ ?_
      clear hK1 K1
      refine wpPre_e rfl rfl (fun K1 hK1 => ?_)
      apply Exists.intro
      refine And.intro (fun wx hx => ?_) ?_
      · go_simp
        try rfl
      go_simp
      refine hK1 _ ?_
      clear hK1 K1
      refine wpPre_e rfl rfl (fun K1 hK1 => ?_)
      apply Exists.intro
      refine And.intro (fun wx hx => ?_) ?_
      · go_simp
        try rfl
      go_simp
      refine hK1 _ ?_
      clear hK1 K1
      refine wpPre_e rfl rfl (fun K1 hK1 => ?_)
      apply Exists.intro
      refine And.intro (fun wx hx => ?_) ?_
      · go_simp
        try rfl
      go_simp
      refine hK1 _ ?_
      clear hK1 K1
      refine wpPre_nil ?_
      refine wpTr_e rfl (fun K1 hK1 => ?_)
      go_simp
      refine hK1 _ _ (fun h => by cases h) ?_
      clear hK1 K1
      refine wpPre_nil ?_
      refine wpTr_done ?_
      obtain ⟨w5, hw5⟩ : ∃ V, V = (wr.setCell ⟨kb, 1, none⟩ (.bool false)).drew := ⟨_, rfl⟩
      rw [← hw5]
      have hP5 := HP5.out
      rw [← hw5] at hP5
      have HM5 := hid hP5.1
      have HF5 : Hid (Fr Y wr w5) := hP5.2
      clear hw5 hP5 HP5 HSm qb ql cx cy cm cl f1 q1 q1l
      obtain ⟨cx, cy, cm, cl⟩ := HAt.out w5 HF5.out
      by_cases h1 : lf = 1
      · as_aux_lemma =>
        have hb1 : (lf == 1) = true := by simpa using h1
        subst h1
        have HWr := hid (writeBytes_any Y kb b2 kept (waits.drop (i + 1)) ⟨xp, xc, yz⟩ mk w5.drew (HM5.out.below (Below.refl _ _).drew) HOw.out HXz.out (by rw [HT.out.x0, List.length_map]; have := HT.out.le; have := HT.out.s0; omega) (by rw [HT.out.x1, List.length_map, zs_len HT.out.so]; have := HT.out.le; have := HT.out.s0; omega))
        go_upto_region 10 with fail
        refine wp_region_calmE 30 (fun wx => Below w5.heap.size w5 wx) [(0, true), (1, true), (2, true), (3, true), (4, false), (5, true), (6, true), (7, true), (8, false)] (.one 9 false [] .done) (by kernel_rfl) (by kernel_rfl) (Below.refl _ _).drew ?_
        refine wpPre_e rfl rfl (fun K1 hK1 => ?_)
        apply Exists.intro
        refine And.intro (fun wx hx => ?_) ?_
        · go_simp
          try rfl
        go_simp
        refine hK1 _ ?_
        clear hK1 K1
        refine wpPre_e rfl rfl (fun K1 hK1 => ?_)
        apply Exists.intro
        refine And.intro (fun wx hx => ?_) ?_
        · go_simp
          try rfl
        go_simp
        refine hK1 _ ?_
        clear hK1 K1
        refine wpPre_e rfl rfl (fun K1 hK1 => ?_)
        apply Exists.intro
        refine And.intro (fun wx hx => ?_) ?_
        · go_simp
          try rfl
        go_simp
        refine hK1 _ ?_
        clear hK1 K1
        refine wpPre_e rfl rfl (fun K1 hK1 => ?_)
        apply Exists.intro
        refine And.intro (fun wx hx => ?_) ?_
        · go_simp
          try rfl
        go_simp
        refine hK1 _ ?_
        clear hK1 K1
        refine wpPre_e rfl rfl (fun K1 hK1 => ?_)
        apply Exists.intro
        refine And.intro (fun wx hx => ?_) ?_
        · have e0 := below_fact hx rfl cx
          go_simp
          try rfl
        go_simp
        refine hK1 _ ?_
        clear hK1 K1
        refine wpPre_e rfl rfl (fun K1 hK1 => ?_)
        apply Exists.intro
        refine And.intro (fun wx hx => ?_) ?_
        · go_simp
          try rfl
        go_simp
        refine hK1 _ ?_
        clear hK1 K1
        refine wpPre_e rfl rfl (fun K1 hK1 => ?_)
        apply Exists.intro
        refine And.intro (fun wx hx => ?_) ?_
        · go_simp
          try rfl
        go_simp
        refine hK1 _ ?_
        clear hK1 K1
        refine wpPre_e rfl rfl (fun K1 hK1 => ?_)
        apply Exists.intro
        refine And.intro (fun wx hx => ?_) ?_
        · go_simp
          try rfl
        go_simp
        refine hK1 _ ?_
        clear hK1 K1
        refine wpPre_e rfl rfl (fun K1 hK1 => ?_)
        apply Exists.intro
        refine And.intro (fun wx hx => ?_) ?_
        · have e0 := below_fact hx rfl cm
          go_simp
          try rfl
        go_simp
        refine hK1 _ ?_
        clear hK1 K1
        refine wpPre_nil ?_
        refine wpTr_e rfl (fun K1 hK1 => ?_)
        refine step_callG (by first | rfl | go_simp) 54 #[.tmp 65, .tmp 69, .tmp 73] _ rfl Try.f54 Try.func54 (by kernel_rfl) rfl #[.pointer (some ⟨kb, 0, none⟩), .slice xp yz.length xc, .int .i64 mk] rfl _ (HWr.out) ?_
        rintro e_ w6 ⟨rfl, hf6, xo, go_, xt, gt, F', rd', e1, e2, hs, ⟨m1, m2, m3, m4⟩, hFF, hM6⟩
        refine ⟨_, rfl, ?_⟩
        have HM6 := hid hM6
        have HF6 : Hid (Fr Y wr w6) := HF5.out.trans ((Fr.below (Below.refl _ _).drew).trans hf6)
        have HT6 : Hid (YbT ⟨F', upd (upd b2.X 0 (b2.X 0 ++ [xo.val, go_.val])) 1 (b2.X 1 ++ [xt.val, gt.val]), b2.sn, kept ++ waits.drop (i + 1), rd'⟩ (outs2 ++ [xo, go_]) (told2 ++ [xt, gt]) kept knotes kmarks klefts (waits.drop (i + 1))) := by
          refine ⟨?_, ?_, HT.out.x2, HT.out.x3, HT.out.x4, HT.out.x5, ?_, HT.out.sn, HT.out.lm, HT.out.ll, HT.out.lp, HT.out.mp, rfl, fun y hy => ?_, ?_, HT.out.s0, fun y hy => HT.out.wz y ?_⟩
          · show b2.X 0 ++ [xo.val, go_.val] = _
            rw [HT.out.x0, List.map_append]; rfl
          · show b2.X 1 ++ [xt.val, gt.val] = _
            rw [HT.out.x1, List.map_append]; rfl
          · rw [List.map_append, List.map_append, HT.out.so]
            show _ ++ [xt.zs, gt.zs] = _ ++ [xo.zs, go_.zs]
            rw [e1, e2]
          · have hr := HT.out.rd y
            simp only [List.mem_append, List.mem_cons, List.not_mem_nil, or_false] at hy
            rcases hy with (hy | rfl | rfl) | (hy | rfl | rfl) | hy
            · exact hs y (hr (.inl hy))
            · exact m1
            · exact m2
            · exact hs y (hr (.inr (.inl hy)))
            · exact m3
            · exact m4
            · exact hs y (hr (.inr (.inr hy)))
          · have h1 := HT.out.le
            rw [List.length_append]
            simp only [List.length_drop, List.length_cons, List.length_nil] at h1 ⊢
            have h2 := hlt
            show _ ≤ 2 * b2.sn.toNat
            omega
          · rcases List.mem_append.1 hy with hy | hy
            · exact List.mem_append.2 (.inl hy)
            · exact List.mem_append.2 (.inr (by rw [HDr.out]; exact List.mem_cons_of_mem _ hy))
        have HN6 : Hid (∀ y ∈ notes, y ∈ rd') := fun y hy => hs y (HNa.out y hy)
        clear hM6 hf6 e1 e2 hs m1 m2 m3 m4 hFF HWr
        go_simp
        refine hK1 _ _ (fun h => by cases h) ?_
        clear hK1 K1
        refine wpPre_nil ?_
        refine wpTr_done ?_
        clear cx cy cm cl
        go_wp2
        go_roundw
        case rel => exact ⟨i + 1, _, _, _, _, _, _, _, by omega, by go_num, HM6.out, ⟨HT6.out, HSn2.out⟩, HN6.out, HF.out.trans HF6.out⟩
        case measure => simp [intOf]; omega
      · as_aux_lemma =>
        have hb1 : (lf == 1) = false := by simpa using h1
        have hlf1 : wrap64 (lf - 1) = lf - 1 := by have := HLf.out; rw [wrap64]; omega
        have hlf2 : IntKind.i64.wrap (lf - 1) = lf - 1 := by have := HLf.out; rw [IntKind.wrap_i64]; omega
        obtain ⟨i1, Kd1⟩ := kindBs
        have HKd1 := hid Kd1
        obtain ⟨i2, Kd2⟩ := kindI
        have HKd2 := hid Kd2
        clear Kd1 Kd2
        have HH1 := hid h1
        clear h1
        obtain ⟨pq, cq, hq0⟩ := row_val (HM5.out.row 2 (by decide))
        rw [(show (b2.X 2).length = kept.length by rw [HT.out.x2, List.length_map])] at hq0
        have HQ0 : Hid (b2.F 2 = .slice pq kept.length cq) := hq0
        have q0 : w5.cell? ⟨kb, 4, none⟩ = some (.slice pq kept.length cq) := by rw [← hq0]; exact (HM5.out.bx.cell 4).trans rfl
        have ql := HM5.out.bx.lt
        clear hq0
        go_upto_region 11 with fail
        refine wp_region_calmE 30 (fun wx => Below w5.heap.size w5 wx) [(0, true), (1, true), (2, true), (3, true), (4, false), (5, true), (6, true), (7, true), (8, false)] (.one 9 true [] (.one 10 false [(11, true), (12, true)] (.one 13 false [] .done))) (by kernel_rfl) (by kernel_rfl) (Below.refl _ _).drew ?_
        refine wpPre_e rfl rfl (fun K1 hK1 => ?_)
        apply Exists.intro
        refine And.intro (fun wx hx => ?_) ?_
        · go_simp
          try rfl
        go_simp
        refine hK1 _ ?_
        clear hK1 K1
        refine wpPre_e rfl rfl (fun K1 hK1 => ?_)
        apply Exists.intro
        refine And.intro (fun wx hx => ?_) ?_
        · go_simp
          try rfl
        go_simp
        refine hK1 _ ?_
        clear hK1 K1
        refine wpPre_e rfl rfl (fun K1 hK1 => ?_)
        apply Exists.intro
        refine And.intro (fun wx hx => ?_) ?_
        · go_simp
          try rfl
        go_simp
        refine hK1 _ ?_
        clear hK1 K1
        refine wpPre_e rfl rfl (fun K1 hK1 => ?_)
        apply Exists.intro
        refine And.intro (fun wx hx => ?_) ?_
        · go_simp
          try rfl
        go_simp
        refine hK1 _ ?_
        clear hK1 K1
        refine wpPre_e rfl rfl (fun K1 hK1 => ?_)
        apply Exists.intro
        refine And.intro (fun wx hx => ?_) ?_
        · have e0 := below_fact hx rfl q0
          go_simp
          try rfl
        go_simp
        refine hK1 _ ?_
        clear hK1 K1
        refine wpPre_e rfl rfl (fun K1 hK1 => ?_)
        apply Exists.intro
        refine And.intro (fun wx hx => ?_) ?_
        · go_simp
          try rfl
        go_simp
        refine hK1 _ ?_
        clear hK1 K1
        refine wpPre_e rfl rfl (fun K1 hK1 => ?_)
        apply Exists.intro
        refine And.intro (fun wx hx => ?_) ?_
        · go_simp
          try rfl
        go_simp
        refine hK1 _ ?_
        clear hK1 K1
        refine wpPre_e rfl rfl (fun K1 hK1 => ?_)
        apply Exists.intro
        refine And.intro (fun wx hx => ?_) ?_
        · go_simp
          try rfl
        go_simp
        refine hK1 _ ?_
        clear hK1 K1
        refine wpPre_e rfl rfl (fun K1 hK1 => ?_)
        apply Exists.intro
        refine And.intro (fun wx hx => ?_) ?_
        · have e0 := below_fact hx rfl cx
          go_simp
          try rfl
        go_simp
        refine hK1 _ ?_
        clear hK1 K1
        refine wpPre_nil ?_
        refine wpTr_e rfl (fun K1 hK1 => ?_)
        go_simp
        obtain ⟨x0, hx0⟩ : ∃ V, V = (w5.alloc (.cells #[.slice xp yz.length xc] 51)).drew := ⟨_, rfl⟩
        rw [← hx0]
        have HBx : Hid (Below w5.heap.size w5 x0) := by show Below _ _ _; rw [hx0]; exact ((Below.refl _ _).alloc (Nat.le_refl _) _).drew
        have HNx := hid (one_drew hx0 rfl)
        have HMx := hid (HM5.out.below HBx.out)
        have HRx : Hid (x0.ownsRow 0 51 1 (.slice pq kept.length cq) kept.length (b2.X 2)) := by
          have h := HMx.out.row 2 (by decide)
          rw [(show (b2.X 2).length = kept.length by rw [HT.out.x2, List.length_map]), HQ0.out] at h
          exact h
        clear hx0
        refine hK1 _ _ (fun _ => HBx.out) ?_
        clear hK1 K1
        refine wpPre_nil ?_
        refine wpTr_e rfl (fun K1 hK1 => ?_)
        refine step_app rfl (.tmp 79) (.tmp 84) 22 51 i1 _ 1 24 HKd1.out rfl 0 (.slice pq kept.length cq) kept.length (b2.X 2) rfl HRx.out ⟨w5.heap.size, 0, none⟩ 1 1 [.slice xp yz.length xc] rfl rfl HNx.out (one_val _ rfl) (by have := HT.out.le; have := HT.out.s0; omega) (by have := HT.out.le; have := HT.out.s0; omega) (Nat.zero_le _) ?_
        intro v0 y0 ho0 hg0 hn0
        rw [← HQ0.out] at hg0 hn0
        obtain ⟨pr, cr, hv0⟩ := row_val ho0
        subst hv0
        have hput := HMx.out.put (i := 2) (by decide) (v' := .slice pr (kept.length + 1) cr) (xs' := b2.X 2 ++ [.slice xp yz.length xc]) (w2 := y0) (by rw [List.length_append, (show (b2.X 2).length = kept.length by rw [HT.out.x2, List.length_map])]; exact ho0) ((But.refl _ x0).grown hg0 fun k hk _ => ob_mem.2 hk) (fun k hk => by
          rcases hn0 with e | e
          · exact .inl (ob_mem.2 (e ▸ ob_mem.1 hk))
          · exact .inr (e k (ob_mem.1 hk)))
        have hbx := HMx.out.bx.kept (((But.refl _ x0).grown (X := fun k => k ∈ ob (b2.F 2)) hg0 fun k hk _ => ob_mem.2 hk).block kb HMx.out.bx.lt (HMx.out.d1 2 (by decide)))
        have r0 : y0.cell? ⟨kb, 4, none⟩ = some (.slice pq kept.length cq) := by rw [← HQ0.out]; exact (hbx.cell 4).trans rfl
        have r1 := hbx.frozen 4
        have r2 := hbx.lt
        have HPu := hid hput
        clear hput hbx ho0 hg0 hn0
        refine hK1 _ _ (fun h => by cases h) ?_
        clear hK1 K1
        refine wpPre_e rfl rfl (fun K1 hK1 => ?_)
        apply Exists.intro
        refine And.intro (fun wx hx => ?_) ?_
        · go_simp
          try rfl
        go_simp
        refine hK1 _ ?_
        clear hK1 K1
        refine wpPre_e rfl rfl (fun K1 hK1 => ?_)
        apply Exists.intro
        refine And.intro (fun wx hx => ?_) ?_
        · go_simp
          try rfl
        go_simp
        refine hK1 _ ?_
        clear hK1 K1
        refine wpPre_nil ?_
        refine wpTr_e rfl (fun K1 hK1 => ?_)
        go_simp
        refine hK1 _ _ (fun h => by cases h) ?_
        clear hK1 K1
        refine wpPre_nil ?_
        refine wpTr_done ?_
        obtain ⟨w6, hw1⟩ : ∃ V, V = y0.setCell ⟨kb, 4, none⟩ (.slice pr (kept.length + 1) cr) := ⟨_, rfl⟩
        rw [← hw1]
        have hP := HPu.out
        rw [show (2 : Nat) + 2 = 4 from rfl, ← hw1] at hP
        obtain ⟨b3, hb1⟩ : ∃ B, B = b2.put 2 (.slice pr (kept.length + 1) cr) (b2.X 2 ++ [.slice xp yz.length xc]) := ⟨_, rfl⟩
        rw [← hb1] at hP
        have HEb3 : Hid (b3.X 2 = b2.X 2 ++ [.slice xp yz.length xc] ∧ (∀ j, j ≠ 2 → b3.X j = b2.X j) ∧ b3.own = b2.own ∧ b3.rd = b2.rd ∧ b3.sn = b2.sn) := by
          show _ ∧ _
          rw [hb1]
          exact ⟨put_X _ _ _ _, fun j hj => put_ne _ _ _ _ hj, rfl, rfl, rfl⟩
        have HMb3 := hid hP.1
        have HF6 : Hid (Fr Y wr w6) := HF5.out.trans ((Fr.below HBx.out).trans hP.2)
        clear hw1 hP hb1 HPu HBx HNx HMx HRx HQ0 q0 ql r0 r1 r2 cx cy cm cl
        obtain ⟨cx, cy, cm, cl⟩ := HAt.out w6 HF6.out
        obtain ⟨pq, cq, hq0⟩ := row_val (HMb3.out.row 3 (by decide))
        rw [(show (b3.X 3).length = kept.length by rw [HEb3.out.2.1 3 (by decide), HT.out.x3, List.length_map, zs_len HT.out.sn])] at hq0
        have HQ0 : Hid (b3.F 3 = .slice pq kept.length cq) := hq0
        have q0 : w6.cell? ⟨kb, 5, none⟩ = some (.slice pq kept.length cq) := by rw [← hq0]; exact (HMb3.out.bx.cell 5).trans rfl
        have ql := HMb3.out.bx.lt
        clear hq0
        go_upto_region 12 with fail
        refine wp_region_calmE 30 (fun wx => Below w6.heap.size w6 wx) [(0, true), (1, true), (2, true), (3, true), (4, false), (5, true), (6, true), (7, true), (8, false)] (.one 9 true [] (.one 10 false [(11, true), (12, true)] (.one 13 false [] .done))) (by kernel_rfl) (by kernel_rfl) (Below.refl _ _).drew ?_
        refine wpPre_e rfl rfl (fun K1 hK1 => ?_)
        apply Exists.intro
        refine And.intro (fun wx hx => ?_) ?_
        · go_simp
          try rfl
        go_simp
        refine hK1 _ ?_
        clear hK1 K1
        refine wpPre_e rfl rfl (fun K1 hK1 => ?_)
        apply Exists.intro
        refine And.intro (fun wx hx => ?_) ?_
        · go_simp
          try rfl
        go_simp
        refine hK1 _ ?_
        clear hK1 K1
        refine wpPre_e rfl rfl (fun K1 hK1 => ?_)
        apply Exists.intro
        refine And.intro (fun wx hx => ?_) ?_
        · go_simp
          try rfl
        go_simp
        refine hK1 _ ?_
        clear hK1 K1
        refine wpPre_e rfl rfl (fun K1 hK1 => ?_)
        apply Exists.intro
        refine And.intro (fun wx hx => ?_) ?_
        · go_simp
          try rfl
        go_simp
        refine hK1 _ ?_
        clear hK1 K1
        refine wpPre_e rfl rfl (fun K1 hK1 => ?_)
        apply Exists.intro
        refine And.intro (fun wx hx => ?_) ?_
        · have e0 := below_fact hx rfl q0
          go_simp
          try rfl
        go_simp
        refine hK1 _ ?_
        clear hK1 K1
        refine wpPre_e rfl rfl (fun K1 hK1 => ?_)
        apply Exists.intro
        refine And.intro (fun wx hx => ?_) ?_
        · go_simp
          try rfl
        go_simp
        refine hK1 _ ?_
        clear hK1 K1
        refine wpPre_e rfl rfl (fun K1 hK1 => ?_)
        apply Exists.intro
        refine And.intro (fun wx hx => ?_) ?_
        · go_simp
          try rfl
        go_simp
        refine hK1 _ ?_
        clear hK1 K1
        refine wpPre_e rfl rfl (fun K1 hK1 => ?_)
        apply Exists.intro
        refine And.intro (fun wx hx => ?_) ?_
        · go_simp
          try rfl
        go_simp
        refine hK1 _ ?_
        clear hK1 K1
        refine wpPre_e rfl rfl (fun K1 hK1 => ?_)
        apply Exists.intro
        refine And.intro (fun wx hx => ?_) ?_
        · have e0 := below_fact hx rfl cy
          go_simp
          try rfl
        go_simp
        refine hK1 _ ?_
        clear hK1 K1
        refine wpPre_nil ?_
        refine wpTr_e rfl (fun K1 hK1 => ?_)
        go_simp
        obtain ⟨x0, hx0⟩ : ∃ V, V = (w6.alloc (.cells #[.slice yp yz.length yc] 51)).drew := ⟨_, rfl⟩
        rw [← hx0]
        have HBx : Hid (Below w6.heap.size w6 x0) := by show Below _ _ _; rw [hx0]; exact ((Below.refl _ _).alloc (Nat.le_refl _) _).drew
        have HNx := hid (one_drew hx0 rfl)
        have HMx := hid (HMb3.out.below HBx.out)
        have HRx : Hid (x0.ownsRow 0 51 1 (.slice pq kept.length cq) kept.length (b3.X 3)) := by
          have h := HMx.out.row 3 (by decide)
          rw [(show (b3.X 3).length = kept.length by rw [HEb3.out.2.1 3 (by decide), HT.out.x3, List.length_map, zs_len HT.out.sn]), HQ0.out] at h
          exact h
        clear hx0
        refine hK1 _ _ (fun _ => HBx.out) ?_
        clear hK1 K1
        refine wpPre_nil ?_
        refine wpTr_e rfl (fun K1 hK1 => ?_)
        refine step_app rfl (.tmp 92) (.tmp 97) 22 51 i1 _ 1 24 HKd1.out rfl 0 (.slice pq kept.length cq) kept.length (b3.X 3) rfl HRx.out ⟨w6.heap.size, 0, none⟩ 1 1 [.slice yp yz.length yc] rfl rfl HNx.out (one_val _ rfl) (by have := HT.out.le; have := HT.out.s0; omega) (by have := HT.out.le; have := HT.out.s0; omega) (Nat.zero_le _) ?_
        intro v0 y0 ho0 hg0 hn0
        rw [← HQ0.out] at hg0 hn0
        obtain ⟨pr, cr, hv0⟩ := row_val ho0
        subst hv0
        have hput := HMx.out.put (i := 3) (by decide) (v' := .slice pr (kept.length + 1) cr) (xs' := b3.X 3 ++ [.slice yp yz.length yc]) (w2 := y0) (by rw [List.length_append, (show (b3.X 3).length = kept.length by rw [HEb3.out.2.1 3 (by decide), HT.out.x3, List.length_map, zs_len HT.out.sn])]; exact ho0) ((But.refl _ x0).grown hg0 fun k hk _ => ob_mem.2 hk) (fun k hk => by
          rcases hn0 with e | e
          · exact .inl (ob_mem.2 (e ▸ ob_mem.1 hk))
          · exact .inr (e k (ob_mem.1 hk)))
        have hbx := HMx.out.bx.kept (((But.refl _ x0).grown (X := fun k => k ∈ ob (b3.F 3)) hg0 fun k hk _ => ob_mem.2 hk).block kb HMx.out.bx.lt (HMx.out.d1 3 (by decide)))
        have r0 : y0.cell? ⟨kb, 5, none⟩ = some (.slice pq kept.length cq) := by rw [← HQ0.out]; exact (hbx.cell 5).trans rfl
        have r1 := hbx.frozen 5
        have r2 := hbx.lt
        have HPu := hid hput
        clear hput hbx ho0 hg0 hn0
        refine hK1 _ _ (fun h => by cases h) ?_
        clear hK1 K1
        refine wpPre_e rfl rfl (fun K1 hK1 => ?_)
        apply Exists.intro
        refine And.intro (fun wx hx => ?_) ?_
        · go_simp
          try rfl
        go_simp
        refine hK1 _ ?_
        clear hK1 K1
        refine wpPre_e rfl rfl (fun K1 hK1 => ?_)
        apply Exists.intro
        refine And.intro (fun wx hx => ?_) ?_
        · go_simp
          try rfl
        go_simp
        refine hK1 _ ?_
        clear hK1 K1
        refine wpPre_nil ?_
        refine wpTr_e rfl (fun K1 hK1 => ?_)
        go_simp
        refine hK1 _ _ (fun h => by cases h) ?_
        clear hK1 K1
        refine wpPre_nil ?_
        refine wpTr_done ?_
        obtain ⟨w7, hw1⟩ : ∃ V, V = y0.setCell ⟨kb, 5, none⟩ (.slice pr (kept.length + 1) cr) := ⟨_, rfl⟩
        rw [← hw1]
        have hP := HPu.out
        rw [show (3 : Nat) + 2 = 5 from rfl, ← hw1] at hP
        obtain ⟨b4, hb1⟩ : ∃ B, B = b3.put 3 (.slice pr (kept.length + 1) cr) (b3.X 3 ++ [.slice yp yz.length yc]) := ⟨_, rfl⟩
        rw [← hb1] at hP
        have HEb4 : Hid (b4.X 3 = b3.X 3 ++ [.slice yp yz.length yc] ∧ (∀ j, j ≠ 3 → b4.X j = b3.X j) ∧ b4.own = b3.own ∧ b4.rd = b3.rd ∧ b4.sn = b3.sn) := by
          show _ ∧ _
          rw [hb1]
          exact ⟨put_X _ _ _ _, fun j hj => put_ne _ _ _ _ hj, rfl, rfl, rfl⟩
        have HMb4 := hid hP.1
        have HF7 : Hid (Fr Y wr w7) := HF6.out.trans ((Fr.below HBx.out).trans hP.2)
        clear hw1 hP hb1 HPu HBx HNx HMx HRx HQ0 q0 ql r0 r1 r2 cx cy cm cl
        obtain ⟨cx, cy, cm, cl⟩ := HAt.out w7 HF7.out
        obtain ⟨pq, cq, hq0⟩ := row_val (HMb4.out.row 4 (by decide))
        rw [(show (b4.X 4).length = kept.length by rw [HEb4.out.2.1 4 (by decide), HEb3.out.2.1 4 (by decide), HT.out.x4, ints, List.length_map, HT.out.lm])] at hq0
        have HQ0 : Hid (b4.F 4 = .slice pq kept.length cq) := hq0
        have q0 : w7.cell? ⟨kb, 6, none⟩ = some (.slice pq kept.length cq) := by rw [← hq0]; exact (HMb4.out.bx.cell 6).trans rfl
        have ql := HMb4.out.bx.lt
        clear hq0
        go_upto_region 13 with fail
        refine wp_region_calmE 30 (fun wx => Below w7.heap.size w7 wx) [(0, true), (1, true), (2, true), (3, true), (4, false), (5, true), (6, true), (7, true), (8, false)] (.one 9 true [] (.one 10 false [(11, true), (12, true)] (.one 13 false [] .done))) (by kernel_rfl) (by kernel_rfl) (Below.refl _ _).drew ?_
        refine wpPre_e rfl rfl (fun K1 hK1 => ?_)
        apply Exists.intro
        refine And.intro (fun wx hx => ?_) ?_
        · go_simp
          try rfl
        go_simp
        refine hK1 _ ?_
        clear hK1 K1
        refine wpPre_e rfl rfl (fun K1 hK1 => ?_)
        apply Exists.intro
        refine And.intro (fun wx hx => ?_) ?_
        · go_simp
          try rfl
        go_simp
        refine hK1 _ ?_
        clear hK1 K1
        refine wpPre_e rfl rfl (fun K1 hK1 => ?_)
        apply Exists.intro
        refine And.intro (fun wx hx => ?_) ?_
        · go_simp
          try rfl
        go_simp
        refine hK1 _ ?_
        clear hK1 K1
        refine wpPre_e rfl rfl (fun K1 hK1 => ?_)
        apply Exists.intro
        refine And.intro (fun wx hx => ?_) ?_
        · go_simp
          try rfl
        go_simp
        refine hK1 _ ?_
        clear hK1 K1
        refine wpPre_e rfl rfl (fun K1 hK1 => ?_)
        apply Exists.intro
        refine And.intro (fun wx hx => ?_) ?_
        · have e0 := below_fact hx rfl q0
          go_simp
          try rfl
        go_simp
        refine hK1 _ ?_
        clear hK1 K1
        refine wpPre_e rfl rfl (fun K1 hK1 => ?_)
        apply Exists.intro
        refine And.intro (fun wx hx => ?_) ?_
        · go_simp
          try rfl
        go_simp
        refine hK1 _ ?_
        clear hK1 K1
        refine wpPre_e rfl rfl (fun K1 hK1 => ?_)
        apply Exists.intro
        refine And.intro (fun wx hx => ?_) ?_
        · go_simp
          try rfl
        go_simp
        refine hK1 _ ?_
        clear hK1 K1
        refine wpPre_e rfl rfl (fun K1 hK1 => ?_)
        apply Exists.intro
        refine And.intro (fun wx hx => ?_) ?_
        · go_simp
          try rfl
        go_simp
        refine hK1 _ ?_
        clear hK1 K1
        refine wpPre_e rfl rfl (fun K1 hK1 => ?_)
        apply Exists.intro
        refine And.intro (fun wx hx => ?_) ?_
        · have e0 := below_fact hx rfl cm
          go_simp
          try rfl
        go_simp
        refine hK1 _ ?_
        clear hK1 K1
        refine wpPre_nil ?_
        refine wpTr_e rfl (fun K1 hK1 => ?_)
        go_simp
        obtain ⟨x0, hx0⟩ : ∃ V, V = (w7.alloc (.cells #[.int .i64 mk] 3)).drew := ⟨_, rfl⟩
        rw [← hx0]
        have HBx : Hid (Below w7.heap.size w7 x0) := by show Below _ _ _; rw [hx0]; exact ((Below.refl _ _).alloc (Nat.le_refl _) _).drew
        have HNx := hid (one_drew hx0 rfl)
        have HMx := hid (HMb4.out.below HBx.out)
        have HRx : Hid (x0.ownsRow 0 3 1 (.slice pq kept.length cq) kept.length (b4.X 4)) := by
          have h := HMx.out.row 4 (by decide)
          rw [(show (b4.X 4).length = kept.length by rw [HEb4.out.2.1 4 (by decide), HEb3.out.2.1 4 (by decide), HT.out.x4, ints, List.length_map, HT.out.lm]), HQ0.out] at h
          exact h
        clear hx0
        refine hK1 _ _ (fun _ => HBx.out) ?_
        clear hK1 K1
        refine wpPre_nil ?_
        refine wpTr_e rfl (fun K1 hK1 => ?_)
        refine step_app rfl (.tmp 105) (.tmp 110) 23 3 i2 _ 1 8 HKd2.out rfl 0 (.slice pq kept.length cq) kept.length (b4.X 4) rfl HRx.out ⟨w7.heap.size, 0, none⟩ 1 1 [.int .i64 mk] rfl rfl HNx.out (one_val _ rfl) (by have := HT.out.le; have := HT.out.s0; omega) (by have := HT.out.le; have := HT.out.s0; omega) (Nat.zero_le _) ?_
        intro v0 y0 ho0 hg0 hn0
        rw [← HQ0.out] at hg0 hn0
        obtain ⟨pr, cr, hv0⟩ := row_val ho0
        subst hv0
        have hput := HMx.out.put (i := 4) (by decide) (v' := .slice pr (kept.length + 1) cr) (xs' := b4.X 4 ++ [.int .i64 mk]) (w2 := y0) (by rw [List.length_append, (show (b4.X 4).length = kept.length by rw [HEb4.out.2.1 4 (by decide), HEb3.out.2.1 4 (by decide), HT.out.x4, ints, List.length_map, HT.out.lm])]; exact ho0) ((But.refl _ x0).grown hg0 fun k hk _ => ob_mem.2 hk) (fun k hk => by
          rcases hn0 with e | e
          · exact .inl (ob_mem.2 (e ▸ ob_mem.1 hk))
          · exact .inr (e k (ob_mem.1 hk)))
        have hbx := HMx.out.bx.kept (((But.refl _ x0).grown (X := fun k => k ∈ ob (b4.F 4)) hg0 fun k hk _ => ob_mem.2 hk).block kb HMx.out.bx.lt (HMx.out.d1 4 (by decide)))
        have r0 : y0.cell? ⟨kb, 6, none⟩ = some (.slice pq kept.length cq) := by rw [← HQ0.out]; exact (hbx.cell 6).trans rfl
        have r1 := hbx.frozen 6
        have r2 := hbx.lt
        have HPu := hid hput
        clear hput hbx ho0 hg0 hn0
        refine hK1 _ _ (fun h => by cases h) ?_
        clear hK1 K1
        refine wpPre_e rfl rfl (fun K1 hK1 => ?_)
        apply Exists.intro
        refine And.intro (fun wx hx => ?_) ?_
        · go_simp
          try rfl
        go_simp
        refine hK1 _ ?_
        clear hK1 K1
        refine wpPre_e rfl rfl (fun K1 hK1 => ?_)
        apply Exists.intro
        refine And.intro (fun wx hx => ?_) ?_
        · go_simp
          try rfl
        go_simp
        refine hK1 _ ?_
        clear hK1 K1
        refine wpPre_nil ?_
        refine wpTr_e rfl (fun K1 hK1 => ?_)
        go_simp
        refine hK1 _ _ (fun h => by cases h) ?_
        clear hK1 K1
        refine wpPre_nil ?_
        refine wpTr_done ?_
        obtain ⟨w8, hw1⟩ : ∃ V, V = y0.setCell ⟨kb, 6, none⟩ (.slice pr (kept.length + 1) cr) := ⟨_, rfl⟩
        rw [← hw1]
        have hP := HPu.out
        rw [show (4 : Nat) + 2 = 6 from rfl, ← hw1] at hP
        obtain ⟨b5, hb1⟩ : ∃ B, B = b4.put 4 (.slice pr (kept.length + 1) cr) (b4.X 4 ++ [.int .i64 mk]) := ⟨_, rfl⟩
        rw [← hb1] at hP
        have HEb5 : Hid (b5.X 4 = b4.X 4 ++ [.int .i64 mk] ∧ (∀ j, j ≠ 4 → b5.X j = b4.X j) ∧ b5.own = b4.own ∧ b5.rd = b4.rd ∧ b5.sn = b4.sn) := by
          show _ ∧ _
          rw [hb1]
          exact ⟨put_X _ _ _ _, fun j hj => put_ne _ _ _ _ hj, rfl, rfl, rfl⟩
        have HMb5 := hid hP.1
        have HF8 : Hid (Fr Y wr w8) := HF7.out.trans ((Fr.below HBx.out).trans hP.2)
        clear hw1 hP hb1 HPu HBx HNx HMx HRx HQ0 q0 ql r0 r1 r2 cx cy cm cl
        obtain ⟨cx, cy, cm, cl⟩ := HAt.out w8 HF8.out
        obtain ⟨pq, cq, hq0⟩ := row_val (HMb5.out.row 5 (by decide))
        rw [(show (b5.X 5).length = kept.length by rw [HEb5.out.2.1 5 (by decide), HEb4.out.2.1 5 (by decide), HEb3.out.2.1 5 (by decide), HT.out.x5, ints, List.length_map, HT.out.ll])] at hq0
        have HQ0 : Hid (b5.F 5 = .slice pq kept.length cq) := hq0
        have q0 : w8.cell? ⟨kb, 7, none⟩ = some (.slice pq kept.length cq) := by rw [← hq0]; exact (HMb5.out.bx.cell 7).trans rfl
        have ql := HMb5.out.bx.lt
        clear hq0
        go_upto_region 14 with fail
        refine wp_region_calmE 30 (fun wx => Below w8.heap.size w8 wx) [(0, true), (1, true), (2, true), (3, true), (4, false), (5, true), (6, true), (7, true), (8, false), (9, true)] (.one 10 true [] (.one 11 false [(12, true), (13, true)] (.one 14 false [] .done))) (by kernel_rfl) (by kernel_rfl) (Below.refl _ _).drew ?_
        refine wpPre_e rfl rfl (fun K1 hK1 => ?_)
        apply Exists.intro
        refine And.intro (fun wx hx => ?_) ?_
        · go_simp
          try rfl
        go_simp
        refine hK1 _ ?_
        clear hK1 K1
        refine wpPre_e rfl rfl (fun K1 hK1 => ?_)
        apply Exists.intro
        refine And.intro (fun wx hx => ?_) ?_
        · go_simp
          try rfl
        go_simp
        refine hK1 _ ?_
        clear hK1 K1
        refine wpPre_e rfl rfl (fun K1 hK1 => ?_)
        apply Exists.intro
        refine And.intro (fun wx hx => ?_) ?_
        · go_simp
          try rfl
        go_simp
        refine hK1 _ ?_
        clear hK1 K1
        refine wpPre_e rfl rfl (fun K1 hK1 => ?_)
        apply Exists.intro
        refine And.intro (fun wx hx => ?_) ?_
        · go_simp
          try rfl
        go_simp
        refine hK1 _ ?_
        clear hK1 K1
        refine wpPre_e rfl rfl (fun K1 hK1 => ?_)
        apply Exists.intro
        refine And.intro (fun wx hx => ?_) ?_
        · have e0 := below_fact hx rfl q0
          go_simp
          try rfl
        go_simp
        refine hK1 _ ?_
        clear hK1 K1
        refine wpPre_e rfl rfl (fun K1 hK1 => ?_)
        apply Exists.intro
        refine And.intro (fun wx hx => ?_) ?_
        · go_simp
          try rfl
        go_simp
        refine hK1 _ ?_
        clear hK1 K1
        refine wpPre_e rfl rfl (fun K1 hK1 => ?_)
        apply Exists.intro
        refine And.intro (fun wx hx => ?_) ?_
        · go_simp
          try rfl
        go_simp
        refine hK1 _ ?_
        clear hK1 K1
        refine wpPre_e rfl rfl (fun K1 hK1 => ?_)
        apply Exists.intro
        refine And.intro (fun wx hx => ?_) ?_
        · go_simp
          try rfl
        go_simp
        refine hK1 _ ?_
        clear hK1 K1
        refine wpPre_e rfl rfl (fun K1 hK1 => ?_)
        apply Exists.intro
        refine And.intro (fun wx hx => ?_) ?_
        · have e0 := below_fact hx rfl cl
          go_simp
          try rfl
        go_simp
        refine hK1 _ ?_
        clear hK1 K1
        refine wpPre_e rfl rfl (fun K1 hK1 => ?_)
        apply Exists.intro
        refine And.intro (fun wx hx => ?_) ?_
        · go_simp
          try rfl
        go_simp
        refine hK1 _ ?_
        clear hK1 K1
        refine wpPre_nil ?_
        refine wpTr_e rfl (fun K1 hK1 => ?_)
        go_simp
        obtain ⟨x0, hx0⟩ : ∃ V, V = (w8.alloc (.cells #[.int .i64 (lf - 1)] 3)).drew := ⟨_, rfl⟩
        rw [← hx0]
        have HBx : Hid (Below w8.heap.size w8 x0) := by show Below _ _ _; rw [hx0]; exact ((Below.refl _ _).alloc (Nat.le_refl _) _).drew
        have HNx := hid (one_drew hx0 rfl)
        have HMx := hid (HMb5.out.below HBx.out)
        have HRx : Hid (x0.ownsRow 0 3 1 (.slice pq kept.length cq) kept.length (b5.X 5)) := by
          have h := HMx.out.row 5 (by decide)
          rw [(show (b5.X 5).length = kept.length by rw [HEb5.out.2.1 5 (by decide), HEb4.out.2.1 5 (by decide), HEb3.out.2.1 5 (by decide), HT.out.x5, ints, List.length_map, HT.out.ll]), HQ0.out] at h
          exact h
        clear hx0
        refine hK1 _ _ (fun _ => HBx.out) ?_
        clear hK1 K1
        refine wpPre_nil ?_
        refine wpTr_e rfl (fun K1 hK1 => ?_)
        refine step_app rfl (.tmp 118) (.tmp 124) 23 3 i2 _ 1 8 HKd2.out rfl 0 (.slice pq kept.length cq) kept.length (b5.X 5) rfl HRx.out ⟨w8.heap.size, 0, none⟩ 1 1 [.int .i64 (lf - 1)] rfl rfl HNx.out (one_val _ rfl) (by have := HT.out.le; have := HT.out.s0; omega) (by have := HT.out.le; have := HT.out.s0; omega) (Nat.zero_le _) ?_
        intro v0 y0 ho0 hg0 hn0
        rw [← HQ0.out] at hg0 hn0
        obtain ⟨pr, cr, hv0⟩ := row_val ho0
        subst hv0
        have hput := HMx.out.put (i := 5) (by decide) (v' := .slice pr (kept.length + 1) cr) (xs' := b5.X 5 ++ [.int .i64 (lf - 1)]) (w2 := y0) (by rw [List.length_append, (show (b5.X 5).length = kept.length by rw [HEb5.out.2.1 5 (by decide), HEb4.out.2.1 5 (by decide), HEb3.out.2.1 5 (by decide), HT.out.x5, ints, List.length_map, HT.out.ll])]; exact ho0) ((But.refl _ x0).grown hg0 fun k hk _ => ob_mem.2 hk) (fun k hk => by
          rcases hn0 with e | e
          · exact .inl (ob_mem.2 (e ▸ ob_mem.1 hk))
          · exact .inr (e k (ob_mem.1 hk)))
        have hbx := HMx.out.bx.kept (((But.refl _ x0).grown (X := fun k => k ∈ ob (b5.F 5)) hg0 fun k hk _ => ob_mem.2 hk).block kb HMx.out.bx.lt (HMx.out.d1 5 (by decide)))
        have r0 : y0.cell? ⟨kb, 7, none⟩ = some (.slice pq kept.length cq) := by rw [← HQ0.out]; exact (hbx.cell 7).trans rfl
        have r1 := hbx.frozen 7
        have r2 := hbx.lt
        have HPu := hid hput
        clear hput hbx ho0 hg0 hn0
        refine hK1 _ _ (fun h => by cases h) ?_
        clear hK1 K1
        refine wpPre_e rfl rfl (fun K1 hK1 => ?_)
        apply Exists.intro
        refine And.intro (fun wx hx => ?_) ?_
        · go_simp
          try rfl
        go_simp
        refine hK1 _ ?_
        clear hK1 K1
        refine wpPre_e rfl rfl (fun K1 hK1 => ?_)
        apply Exists.intro
        refine And.intro (fun wx hx => ?_) ?_
        · go_simp
          try rfl
        go_simp
        refine hK1 _ ?_
        clear hK1 K1
        refine wpPre_nil ?_
        refine wpTr_e rfl (fun K1 hK1 => ?_)
        go_simp
        refine hK1 _ _ (fun h => by cases h) ?_
        clear hK1 K1
        refine wpPre_nil ?_
        refine wpTr_done ?_
        obtain ⟨w9, hw1⟩ : ∃ V, V = y0.setCell ⟨kb, 7, none⟩ (.slice pr (kept.length + 1) cr) := ⟨_, rfl⟩
        rw [← hw1]
        have hP := HPu.out
        rw [show (5 : Nat) + 2 = 7 from rfl, ← hw1] at hP
        obtain ⟨b6, hb1⟩ : ∃ B, B = b5.put 5 (.slice pr (kept.length + 1) cr) (b5.X 5 ++ [.int .i64 (lf - 1)]) := ⟨_, rfl⟩
        rw [← hb1] at hP
        have HEb6 : Hid (b6.X 5 = b5.X 5 ++ [.int .i64 (lf - 1)] ∧ (∀ j, j ≠ 5 → b6.X j = b5.X j) ∧ b6.own = b5.own ∧ b6.rd = b5.rd ∧ b6.sn = b5.sn) := by
          show _ ∧ _
          rw [hb1]
          exact ⟨put_X _ _ _ _, fun j hj => put_ne _ _ _ _ hj, rfl, rfl, rfl⟩
        have HMb6 := hid hP.1
        have HF9 : Hid (Fr Y wr w9) := HF8.out.trans ((Fr.below HBx.out).trans hP.2)
        clear hw1 hP hb1 HPu HBx HNx HMx HRx HQ0 q0 ql r0 r1 r2 cx cy cm cl
        obtain ⟨cx, cy, cm, cl⟩ := HAt.out w9 HF9.out
        have HT9 : Hid (YbT b6 outs2 told2 (kept ++ [⟨xp, xc, yz⟩]) (knotes ++ [⟨yp, yc, yz⟩]) (kmarks ++ [mk]) (klefts ++ [lf - 1]) (waits.drop (i + 1))) := by
          obtain ⟨g3, g3', o3, r3, s3⟩ := HEb3.out
          obtain ⟨g4, g4', o4, r4, s4⟩ := HEb4.out
          obtain ⟨g5, g5', o5, r5, s5⟩ := HEb5.out
          obtain ⟨g6, g6', o6, r6, s6⟩ := HEb6.out
          refine ⟨?_, ?_, ?_, ?_, ?_, ?_, HT.out.so, ?_, ?_, ?_, fun l hl => ?_, fun m hm => ?_, ?_, fun y hy => ?_, ?_, ?_, fun y hy => HT.out.wz y ?_⟩
          · rw [g6' 0 (by decide), g5' 0 (by decide), g4' 0 (by decide), g3' 0 (by decide), HT.out.x0]
          · rw [g6' 1 (by decide), g5' 1 (by decide), g4' 1 (by decide), g3' 1 (by decide), HT.out.x1]
          · rw [g6' 2 (by decide), g5' 2 (by decide), g4' 2 (by decide), g3, HT.out.x2, List.map_append]; rfl
          · rw [g6' 3 (by decide), g5' 3 (by decide), g4, g3' 3 (by decide), HT.out.x3, List.map_append]; rfl
          · rw [g6' 4 (by decide), g5, g4' 4 (by decide), g3' 4 (by decide), HT.out.x4, ints, ints, List.map_append]; rfl
          · rw [g6, g5' 5 (by decide), g4' 5 (by decide), g3' 5 (by decide), HT.out.x5, ints, ints, List.map_append]; rfl
          · rw [List.map_append, List.map_append, HT.out.sn]; rfl
          · rw [List.length_append, List.length_append, HT.out.lm]; rfl
          · rw [List.length_append, List.length_append, HT.out.ll]; rfl
          · rcases List.mem_append.1 hl with hl | hl
            · exact HT.out.lp l hl
            · obtain rfl := List.mem_singleton.1 hl
              have := HLf.out
              have h8 := HH1.out
              omega
          · rcases List.mem_append.1 hm with hm | hm
            · exact HT.out.mp m hm
            · obtain rfl := List.mem_singleton.1 hm
              exact HMk.out
          · rw [o6, o5, o4, o3, HT.out.ow, HDr.out, List.append_assoc]; rfl
          · rw [r6, r5, r4, r3]
            rcases hy with hy | hy | hy
            · exact HT.out.rd y (.inl hy)
            · exact HT.out.rd y (.inr (.inl hy))
            · rcases List.mem_append.1 hy with hy | hy
              · exact HT.out.rd y (.inr (.inr hy))
              · obtain rfl := List.mem_singleton.1 hy
                exact HNt.out
          · have h1 := HT.out.le
            rw [s6, s5, s4, s3, List.length_append]
            simp only [List.length_drop, List.length_cons, List.length_nil] at h1 ⊢
            omega
          · rw [s6, s5, s4, s3]; exact HT.out.s0
          · rw [HDr.out]
            simpa using hy
        have HN9 : Hid (∀ y ∈ notes, y ∈ b6.rd) := fun y hy => by
          rw [HEb6.out.2.2.2.1, HEb5.out.2.2.2.1, HEb4.out.2.2.2.1, HEb3.out.2.2.2.1]
          exact HNa.out y hy
        clear cx cy cm cl
        go_wp2
        go_roundw
        case rel => exact ⟨i + 1, _, _, _, _, _, _, _, by omega, by go_num, HMb6.out, ⟨HT9.out, by rw [HEb6.out.2.2.2.2, HEb5.out.2.2.2.2, HEb4.out.2.2.2.2, HEb3.out.2.2.2.2]; exact HSn2.out⟩, HN9.out, HF.out.trans HF9.out⟩
        case measure => simp [intOf]; omega
    · as_aux_lemma =>
      have hlt' : ¬ (i : Int) < (waits.length : Int) := by omega
      have HT2 : Hid (YbT b2 outs2 told2 kept knotes kmarks klefts []) := by
        have h := HT.out
        rw [List.drop_eq_nil_of_le (by omega)] at h
        exact h
      go_wp2
      exact bodyPost_end (v := .tuple #[]) (by simp [results, Try.results35, go_sem]) rfl ⟨rfl, But.mono (HF1.out.trans HF.out) (fun k _ hn hk => hn (HYZ.out k hk)), b2, outs2, told2, kept, knotes, kmarks, klefts, ⟨HM.out.z HYZ.out, HT2.out.done⟩, HSn2.out, fun x hx => HT2.out.wz x (List.mem_append.2 (.inl hx))⟩
end Go.Proofs.Ytbeibhmbaofjhaa
