import Derived.Test.YtgnamngnmbaeeaaDoorLnG2
namespace Go.Proofs.YtgnamngnmbaeeaaDoor
open Go.RowKit
set_option maxRecDepth 8000
theorem wpList_cpO {w : World} {ops : Array Oper} {rest : List Oper} {o : Oper} {a : Act} {Q : Exit → Act → World → Prop} (hgd : o.guard = none) (s z : Operand) (hop : o.op = Op.call { callee := Callee.builtin Builtin.append, args := #[s, z], argTypes := #[36, 36] })
    (x : BS) (S : Nat → Prop) (hs : a.eval s = .slice none 0 0) (hz : a.eval z = x.val) (hx : x.In w S) (hp : 0 < x.zs.length)
    (hK : ∀ g c w', OwnBy w.heap.size w' (.slice (some ⟨g, 0, none⟩) x.zs.length c) x.zs → Below w.heap.size w w' → wpList Tryd.prog ops Q rest (a.put o.dst (.slice (some ⟨g, 0, none⟩) x.zs.length c)) w') : wpList Tryd.prog ops Q (o :: rest) a w := by
  refine wpList_plain hgd fun K hKK => ?_
  obtain ⟨g, c, w', hrun, r1, r3⟩ := run_cpO w o.type x S hx hp
  unfold Oper.wp
  simp [execOp, hop, resolve, invoke, builtin, hs, hz, hrun, Result.andThen]
  exact hKK _ _ (hK g c w' r1 r3)
theorem flip_num (zs : List Int) (hp : 0 < zs.length) (hl : zs.length ≤ 140737488355328) (k : Nat) (hk : k < 8 * zs.length) (hb : ∀ z ∈ zs, 0 ≤ z ∧ z < 256) : ∃ i rr : Nat, (k : Int).tdiv 8 = (i : Int) ∧ (k : Int).tmod 8 = (rr : Int) ∧ IntKind.i64.wrap (i : Int) = (i : Int) ∧ i < zs.length ∧ rr < 8 ∧ flipZ zs k = zs.set i (bits BinOp.xor IntKind.u8 (zs.getD i 0) (IntKind.u8.wrap (2 ^ rr))) := by
  refine ⟨k / 8, k % 8, ?_, ?_, wr64 (by omega) (by omega), by omega, Nat.mod_lt _ (by omega), ?_⟩
  · rw [Int.tdiv_eq_ediv_of_nonneg (by omega)]; rfl
  · rw [Int.tmod_eq_emod_of_nonneg (by omega)]; rfl
  · unfold flipZ
    rw [bits_flip _ (Nat.mod_lt _ (by omega))]
    rw [List.getD_eq_getElem?_getD, List.getElem?_eq_getElem (by omega), Option.getD_some]
    exact hb _ (List.getElem_mem _)
set_option maxHeartbeats 16000000 in
theorem turned_any (w : World) (C : Nat → Nat) (c lb : Nat) (S : LS) (h : LI w C c lb S) (hn : ∀ k, w.heap.size ≤ k → In8 C c k) (x : BS) (S0 : Nat → Prop) (hx : x.In w S0) (bit : Int) (hbit : Fit64 bit) (hf : x.zs = [] ∨ Frm x.zs) (hT : Tab w) (hO : Out8 C c) :
    Calls Tryd.prog 51 #[.pointer (some ⟨lb, 0, none⟩), x.val, .int .i64 bit] w fun e w' => e = .returned (.bool true) ∧ LQ w C c lb S w' := by
  have H := hid h
  have HN := hid hn
  have HT := hid hT
  have HO := hid hO
  have Hx := hid hx
  obtain ⟨xv, hxv⟩ : ∃ v, v = x.val := ⟨_, rfl⟩
  obtain ⟨n, hnn⟩ : ∃ n, n = x.zs.length := ⟨_, rfl⟩
  have hxs : xv = .slice x.p n x.c := by rw [hxv, hnn]; rfl
  have HXv := hid hxv
  have HNn := hid hnn
  rcases hf with hf | hf
  · as_aux_lemma =>
    have h0 : n = 0 := by rw [hnn, hf]; rfl
    subst h0
    rw [← hxv, hxs]
    clear h hn hx hT hO hxv hnn hf hxs
    go_enter Tryd.func51, Tryd.ntmps51
    go_wp2
    exact bodyPost_ret (v := .bool true) (by simp [results, Tryd.results51, go_sem]) rfl ⟨rfl, LQ.refl H.out HN.out⟩
  · as_aux_lemma =>
    have hp := hf.pos
    rw [← hnn] at hp
    obtain ⟨M, hM⟩ : ∃ M, M = 8 * n := ⟨_, rfl⟩
    have hmul : IntKind.i64.wrap (8 * (n : Int)) = (M : Int) := by rw [wr64 (by omega) (by omega)]; omega
    have hM0 : ¬ (M : Int) = 0 := by omega
    have hn0 : ((n : Int) == 0) = false := beq_eq_false_iff_ne.2 (by omega)
    obtain ⟨j, hk, hrem, hneg, hpos⟩ := at_num bit M (by omega) hbit
    obtain ⟨k, hk2⟩ : ∃ k, k = idxP bit M := ⟨_, rfl⟩
    rw [← hk2] at hk hrem
    obtain ⟨i, rr, hq, hqr, hwi, hil, hr8, hfl⟩ := flip_num x.zs (by omega) (by omega) k (by omega) hx.byte
    have hli : (i : Int) < (n : Int) := by omega
    obtain ⟨z, hz⟩ : ∃ z, z = x.zs.getD i 0 := ⟨_, rfl⟩
    rw [← hz] at hfl
    have HFl := hid hfl
    have HRd : Hid (readP (flipZ x.zs k) = none) := hf.flip (by omega)
    have HIl := hid hil
    have HHp := hid hp
    have HZ := hid hz
    have HXs : Hid (Value.slice x.p n x.c = x.val) := hxs.symm.trans hxv
    rw [← hxv]
    clear h hn hx hT hO hnn hf hM hk hk2 hil hfl hz
    by_cases hi0 : bit < 0
    · obtain ⟨hw1, hw2⟩ := hneg hi0
      clear hneg hpos
      rw [hxs]
      go_enter Tryd.func51, Tryd.ntmps51
      go_wp2_with (at_builtin; refine wpList_cpO rfl (.const (.slice none 0 0)) (.tmp 21) rfl x S0 rfl HXs.out Hx.out (by have h1 := HNn.out; have h2 := HHp.out; omega) ?_)
      intro g cc w1 ho1 hb1
      obtain ⟨_, hog, hfz, hput⟩ := own_put ho1 rfl
      have HOw := hid ho1
      rw [← HNn.out] at ⊢
      have HB1 := hid hb1
      have HPut := hid hput
      have HOg := hid hog
      obtain ⟨b3, c3, hv3, hgb, hgl, hat⟩ := OwnBy.slice HOw.out (by have h1 := HNn.out; have h2 := HHp.out; omega)
      have e3 : g = b3 := by injection hv3 with h1; injection h1 with h1; injection h1
      have r0 : w1.cell? ⟨g, i, none⟩ = some (.int .u8 (x.zs.getD i 0)) := by
        have h1 := hat i (.int .u8 (x.zs.getD i 0)) (by
          have h1 := HNn.out
          have h2 := HIl.out
          rw [List.getElem?_map, List.getElem?_eq_getElem (by omega), List.getD_eq_getElem?_getD, List.getElem?_eq_getElem (by omega)]; rfl)
        rw [Go.WideShapes.add_plain, ← e3, Nat.zero_add] at h1
        exact h1
      rw [← e3] at hgl hgb
      have HGb := hid hgb
      rw [← HZ.out] at r0
      have qz := hfz i
      clear ho1 hb1 hput hog hat hfz hv3 e3 hgb
      go_upto_region 7 with fail
      refine wp_region_calmE 30 (fun wx => Below w1.heap.size w1 wx) [(0, true), (1, true), (2, true), (3, true), (4, true), (5, true), (6, true), (7, false), (8, true), (9, true), (10, true), (11, true), (12, true)] (.one 13 false [] .done) (by kernel_rfl) (by kernel_rfl) (Below.refl _ _).drew ?_
      refine wpPre_e rfl rfl (fun K1 hK1 => ?_)
      apply Exists.intro
      refine And.intro (fun wx hx => ?_) ?_
      · go_simp
        try rfl
      go_simp
      refine hK1 _ ?_
      clear hK1 K1
      refine wpPre_e rfl rfl (fun K1 hK1 => ?_)
      apply Exists.intro
      refine And.intro (fun wx hx => ?_) ?_
      · go_simp
        try rfl
      go_simp
      refine hK1 _ ?_
      clear hK1 K1
      refine wpPre_e rfl rfl (fun K1 hK1 => ?_)
      apply Exists.intro
      refine And.intro (fun wx hx => ?_) ?_
      · go_simp
        try rfl
      go_simp
      refine hK1 _ ?_
      clear hK1 K1
      refine wpPre_e rfl rfl (fun K1 hK1 => ?_)
      apply Exists.intro
      refine And.intro (fun wx hx => ?_) ?_
      · go_simp
        try rfl
      go_simp
      refine hK1 _ ?_
      clear hK1 K1
      refine wpPre_e rfl rfl (fun K1 hK1 => ?_)
      apply Exists.intro
      refine And.intro (fun wx hx => ?_) ?_
      · go_simp
        try rfl
      go_simp
      refine hK1 _ ?_
      clear hK1 K1
      refine wpPre_e rfl rfl (fun K1 hK1 => ?_)
      apply Exists.intro
      refine And.intro (fun wx hx => ?_) ?_
      · go_simp
        try rfl
      go_simp
      refine hK1 _ ?_
      clear hK1 K1
      refine wpPre_e rfl rfl (fun K1 hK1 => ?_)
      apply Exists.intro
      refine And.intro (fun wx hx => ?_) ?_
      · go_simp
        try rfl
      go_simp
      refine hK1 _ ?_
      clear hK1 K1
      refine wpPre_e rfl rfl (fun K1 hK1 => ?_)
      apply Exists.intro
      refine And.intro (fun wx hx => ?_) ?_
      · have e0 := below_fact hx rfl r0
        go_simp
        try rfl
      go_simp
      refine hK1 _ ?_
      clear hK1 K1
      refine wpPre_e rfl rfl (fun K1 hK1 => ?_)
      apply Exists.intro
      refine And.intro (fun wx hx => ?_) ?_
      · go_simp
        try rfl
      go_simp
      refine hK1 _ ?_
      clear hK1 K1
      refine wpPre_e rfl rfl (fun K1 hK1 => ?_)
      apply Exists.intro
      refine And.intro (fun wx hx => ?_) ?_
      · go_simp
        try rfl
      go_simp
      refine hK1 _ ?_
      clear hK1 K1
      refine wpPre_e rfl rfl (fun K1 hK1 => ?_)
      apply Exists.intro
      refine And.intro (fun wx hx => ?_) ?_
      · go_simp
        try rfl
      go_simp
      refine hK1 _ ?_
      clear hK1 K1
      refine wpPre_e rfl rfl (fun K1 hK1 => ?_)
      apply Exists.intro
      refine And.intro (fun wx hx => ?_) ?_
      · go_simp
        try rfl
      go_simp
      refine hK1 _ ?_
      clear hK1 K1
      refine wpPre_e rfl rfl (fun K1 hK1 => ?_)
      apply Exists.intro
      refine And.intro (fun wx hx => ?_) ?_
      · go_simp
        try rfl
      go_simp
      refine hK1 _ ?_
      clear hK1 K1
      refine wpPre_nil ?_
      refine wpTr_e rfl (fun K1 hK1 => ?_)
      have s2 : w1.drew.frozen? ⟨g, i, none⟩ = false := qz
      go_simp
      refine hK1 _ _ (fun h => by cases h) ?_
      clear s2
      clear hK1 K1
      refine wpPre_nil ?_
      refine wpTr_done ?_
      obtain ⟨u, hu⟩ : ∃ u, u = bits BinOp.xor IntKind.u8 z (IntKind.u8.wrap (2 ^ rr)) := ⟨_, rfl⟩
      rw [← hu]
      obtain ⟨W2, hW2⟩ : ∃ W, W = (w1.setCell ⟨g, i, none⟩ (.int .u8 u)).drew := ⟨_, rfl⟩
      rw [← hW2]
      obtain ⟨sb, rb, dv, nv, bv, pv, wv, D, N, P, hM⟩ := H.out
      have hfl := HFl.out
      rw [← hu] at hfl
      have hub : 0 ≤ u ∧ u < 256 := by
        have hzb : 0 ≤ z ∧ z < 256 := by
          rw [HZ.out]
          have h2 := HIl.out
          rw [List.getD_eq_getElem?_getD, List.getElem?_eq_getElem h2, Option.getD_some]
          exact Hx.out.byte _ (List.getElem_mem _)
        rw [hu, bits_flip hzb hr8]
        have := xor_byte (y := z.toNat) (r := rr) (by omega) hr8
        omega
      have ho2 := HPut.out i u
      rw [← hfl] at ho2
      have hby : ∀ q ∈ flipZ x.zs k, 0 ≤ q ∧ q < 256 := by
        rw [hfl]
        intro q hq
        rcases List.mem_or_eq_of_mem_set hq with h | h
        · exact Hx.out.byte q h
        · rw [h]; exact hub
      have hln : (flipZ x.zs k).length = n := by rw [hfl, List.length_set, HNn.out]
      obtain ⟨y, hy1, hy2, hy3⟩ := bs_own ho2 hby (by have := HHp.out; omega)
      rw [hln] at hy2
      have hBT : But (fun _ => False) w W2 := (But.ofBelow HB1.out).cc (by
        rw [hW2]
        exact (((But.one w1 g).setAt i _).drew).mono fun k _ e => .inr (by rw [show k = g from e]; exact HGb.out))
      have hX2 := (LX.refl hM HN.out).gone hBT
      obtain ⟨C2, hC2⟩ : ∃ C2, C2 = upC w C (c + 7) := ⟨_, rfl⟩
      rw [← hC2] at hX2
      have hY2 : Tmp W2 C2 c y := by
        rw [hW2, hC2]
        exact (hy3.below (Below.refl _ _).drew).mono fun k hk _ => upC_new hk
      have hRd : readP y.zs = none := by rw [hy1]; exact HRd.out
      have HX2 := hid hX2
      have HY2 := hid hY2
      have HRy := hid hRd
      have HYv := hid hy2
      have HOp := hid (open_any W2.drew _ sb S.A (hX2.m.s.below (Below.refl _ _).drew fun _ _ h => h))
      have HWo := hid (word_any W2.drew _ sb S.A (hX2.m.s.below (Below.refl _ _).drew fun _ _ h => h))
      obtain ⟨qn, hqn⟩ : ∃ q, q = S.A.q.length := ⟨_, rfl⟩
      obtain ⟨wd, hwd⟩ : ∃ q, q = S.A.wd := ⟨_, rfl⟩
      rw [← hqn] at HOp
      rw [← hwd] at HWo
      have HQn := hid hqn
      have HWd := hid hwd
      have c0 := hX2.m.bx.cell 0
      have cl := hX2.m.bx.lt
      simp at c0
      clear hu hW2 hM hfl hub ho2 hby hln hy1 hy2 hy3 hBT hX2 hC2 hY2 hRd hqn hwd r0 qz hgl hq hqr hwi hr8 hli hrem hmul hM0 hn0
      go_upto_region 8 with fail
      refine wp_region_calmE 30 (fun wx => Below W2.heap.size W2 wx) [(0, true), (1, true), (2, true), (3, false), (5, true), (6, true), (7, true), (8, false)] (.one 4 true [] (.one 9 false [(10, true), (11, true)] .done)) (by kernel_rfl) (by kernel_rfl) (Below.refl _ _).drew ?_
      refine wpPre_e rfl rfl (fun K1 hK1 => ?_)
      apply Exists.intro
      refine And.intro (fun wx hx => ?_) ?_
      · go_simp
        try rfl
      go_simp
      refine hK1 _ ?_
      clear hK1 K1
      refine wpPre_e rfl rfl (fun K1 hK1 => ?_)
      apply Exists.intro
      refine And.intro (fun wx hx => ?_) ?_
      · go_simp
        try rfl
      go_simp
      refine hK1 _ ?_
      clear hK1 K1
      refine wpPre_e rfl rfl (fun K1 hK1 => ?_)
      apply Exists.intro
      refine And.intro (fun wx hx => ?_) ?_
      · go_simp
        try rfl
      go_simp
      refine hK1 _ ?_
      clear hK1 K1
      refine wpPre_e rfl rfl (fun K1 hK1 => ?_)
      apply Exists.intro
      refine And.intro (fun wx hx => ?_) ?_
      · have e0 := below_fact hx rfl c0
        go_simp
        try rfl
      go_simp
      refine hK1 _ ?_
      clear hK1 K1
      refine wpPre_e rfl rfl (fun K1 hK1 => ?_)
      apply Exists.intro
      refine And.intro (fun wx hx => ?_) ?_
      · go_simp
        try rfl
      go_simp
      refine hK1 _ ?_
      clear hK1 K1
      refine wpPre_e rfl rfl (fun K1 hK1 => ?_)
      apply Exists.intro
      refine And.intro (fun wx hx => ?_) ?_
      · go_simp
        try rfl
      go_simp
      refine hK1 _ ?_
      clear hK1 K1
      refine wpPre_e rfl rfl (fun K1 hK1 => ?_)
      apply Exists.intro
      refine And.intro (fun wx hx => ?_) ?_
      · go_simp
        try rfl
      go_simp
      refine hK1 _ ?_
      clear hK1 K1
      refine wpPre_e rfl rfl (fun K1 hK1 => ?_)
      apply Exists.intro
      refine And.intro (fun wx hx => ?_) ?_
      · have e0 := below_fact hx rfl c0
        go_simp
        try rfl
      go_simp
      refine hK1 _ ?_
      clear hK1 K1
      refine wpPre_nil ?_
      refine wpTr_e rfl (fun K1 hK1 => ?_)
      refine step_callG (by first | rfl | go_simp) 10 #[.tmp 49] _ rfl Tryd.f10 Tryd.func10 (by kernel_rfl) rfl #[.pointer (some ⟨sb, 0, none⟩)] rfl _ (HOp.out) ?_
      rintro e_ w3 ⟨rfl, rfl⟩
      refine ⟨_, rfl, ?_⟩
      go_simp
      refine hK1 _ _ (fun _ => (Below.refl _ _).drew) ?_
      clear hK1 K1
      refine wpPre_nil ?_
      refine wpTr_e rfl (fun K1 hK1 => ?_)
      refine step_callG (by first | rfl | go_simp) 18 #[.tmp 54] _ rfl Tryd.f18 Tryd.func18 (by kernel_rfl) rfl #[.pointer (some ⟨sb, 0, none⟩)] rfl _ (HWo.out) ?_
      rintro e_ w4 ⟨rfl, rfl⟩
      refine ⟨_, rfl, ?_⟩
      go_simp
      refine hK1 _ _ (fun h => by cases h) ?_
      clear hK1 K1
      refine wpPre_e rfl rfl (fun K1 hK1 => ?_)
      apply Exists.intro
      refine And.intro (fun wx hx => ?_) ?_
      · go_simp
        try rfl
      go_simp
      refine hK1 _ ?_
      clear hK1 K1
      refine wpPre_e rfl rfl (fun K1 hK1 => ?_)
      apply Exists.intro
      refine And.intro (fun wx hx => ?_) ?_
      · go_simp
        try rfl
      go_simp
      refine hK1 _ ?_
      clear hK1 K1
      refine wpPre_nil ?_
      refine wpTr_done ?_
      obtain ⟨W3, hW3⟩ : ∃ W, W = W2.drew := ⟨_, rfl⟩
      rw [← hW3]
      have hb3 : Below W2.heap.size W2 W3 := by rw [hW3]; exact (Below.refl _ _).drew
      obtain ⟨C3, hC3⟩ : ∃ C3, C3 = upC W2 C2 (c + 7) := ⟨_, rfl⟩
      have hX3 := HX2.out.below hb3
      have hY3 := Tmp.below HY2.out hb3
      rw [← hC3] at hX3 hY3
      have hT3 := hX3.tab HT.out HO.out
      have HAn := hid (answer_any W3 (Zc W3 C3 (c + 2)) rb S.R hX3.m.r hT3)
      have HX3 := hid hX3
      have HY3 := hid hY3
      clear c0 cl HOp HWo hW3 hb3 hC3 hY3 hT3
      have c1 := hX3.m.bx.cell 1
      have cl := hX3.m.bx.lt
      simp at c1
      clear hX3
      go_wp2_with fail
      refine HAn.out.mono ?_
      rintro e w4 ⟨y4, rfl, hy4, hi4, hb4⟩
      obtain ⟨C4, hC4⟩ : ∃ C4, C4 = upC W3 C3 (c + 7) := ⟨_, rfl⟩
      have hX4 := HX3.out.below hb4
      have hY4 := Tmp.below HY3.out hb4
      have hV4 : Tmp w4 (upC W3 C3 (c + 7)) c y4 := Tmp.new hi4
      rw [← hC4] at hX4 hY4 hV4
      have HTk := hid (take_any w4 (Zc w4 C4 (c + 2)) rb S.R hX4.m.r zc_lt y _ hY4 (hX4.tab HT.out HO.out) (hX4.z0 HT.out HO.out (by omega)))
      rw [← HYv.out] at HTk
      have HX4 := hid hX4
      have HY4 := hid hY4
      have HV4 := hid hV4
      have HZ4 := hid hy4
      obtain ⟨v4, hv4⟩ : ∃ v, v = y4.val := ⟨_, rfl⟩
      have Hv4 := hid hv4
      rw [← hv4]
      clear c1 cl HAn hC4 hY4 hV4 hy4 hi4 hb4 hv4
      have c1 := hX4.m.bx.cell 1
      have cl := hX4.m.bx.lt
      simp at c1
      clear hX4
      go_wp2_with fail
      refine HTk.out.mono ?_
      rintro e w5 ⟨hne, _⟩
      obtain ⟨he, hq5⟩ := hne (by rw [unpE_none HRy.out]; decide)
      rw [unpE_none HRy.out] at he
      subst he
      obtain ⟨C5, hC5⟩ : ∃ C5, C5 = upC w4 C4 (c + 2) := ⟨_, rfl⟩
      have hX5 : LX w C c lb sb rb dv nv bv pv wv D N P S w5 (upC w4 C4 (c + 2)) := HX4.out.rcv hq5
      have hY5 := Tmp.part (d := 2) HY4.out hq5.2 (by decide)
      have hV5 := Tmp.part (d := 2) HV4.out hq5.2 (by decide)
      rw [← hC5] at hX5 hY5 hV5
      have HAk := hid (ack_any w5 (Zc w5 C5 (c + 1)) sb S.A hX5.m.s zc_lt y _ hY5 (hX5.tab HT.out HO.out))
      rw [← HYv.out] at HAk
      have HX5 := hid hX5
      have HY5 := hid hY5
      have HV5 := hid hV5
      clear c1 cl HTk hC5 hY5 hV5 hq5 hne
      have c0 := hX5.m.bx.cell 0
      have cl := hX5.m.bx.lt
      simp at c0
      clear hX5
      go_wp2_with fail
      refine HAk.out.mono ?_
      rintro e w6 ⟨he, hq6⟩
      rw [ackE_none HRy.out] at he
      rw [ackE_none HRy.out, if_neg (by decide)] at hq6
      subst he
      obtain ⟨C6, hC6⟩ : ∃ C6, C6 = upC w5 C5 (c + 1) := ⟨_, rfl⟩
      have hX6 : LX w C c lb sb rb dv nv bv pv wv D N P S w6 (upC w5 C5 (c + 1)) := HX5.out.snd hq6
      have hY6 := Tmp.part (d := 1) HY5.out hq6.2 (by decide)
      have hV6 := Tmp.part (d := 1) HV5.out hq6.2 (by decide)
      rw [← hC6] at hX6 hY6 hV6
      have HLa := hid (lane_any y w6 _ hY6 (hX6.tab HT.out HO.out))
      rw [← HYv.out, laneV_none HRy.out] at HLa
      have HX6 := hid hX6
      have HV6 := hid hV6
      clear c0 cl HAk hC6 hY6 hV6 hq6 hX6
      go_wp2_with fail
      refine HLa.out.mono ?_
      rintro e w7 ⟨rfl, hb7⟩
      obtain ⟨C7, hC7⟩ : ∃ C7, C7 = upC w6 C6 (c + 7) := ⟨_, rfl⟩
      have hX7 := HX6.out.below hb7
      have hV7 := Tmp.below HV6.out hb7
      rw [← hC7] at hX7 hV7
      have HOp := hid (open_any w7 _ sb S.A hX7.m.s)
      have HWo := hid (word_any w7 _ sb S.A hX7.m.s)
      rw [← HQn.out] at HOp
      rw [← HWd.out] at HWo
      have HAn := hid (answer_any w7 (Zc w7 C7 (c + 2)) rb S.R hX7.m.r (hX7.tab HT.out HO.out))
      have HX7 := hid hX7
      have HV7 := hid hV7
      clear hC7 hb7 HLa hV7
      have c0 := hX7.m.bx.cell 0
      have c1 := hX7.m.bx.cell 1
      have cl := hX7.m.bx.lt
      simp at c0 c1
      clear hX7
      go_wp2_with fail
      refine HOp.out.mono ?_
      rintro e w8 ⟨rfl, rfl⟩
      go_wp2_with fail
      refine HWo.out.mono ?_
      rintro e w8 ⟨rfl, rfl⟩
      go_wp2_with fail
      refine HAn.out.mono ?_
      rintro e w8 ⟨y8, rfl, hy8, hi8, hb8⟩
      have HSm := hid (sameB_any y8 y4 w8 _ _ hi8 (Tmp.below HV7.out hb8))
      rw [decide_eq_true (show y8.zs = y4.zs by rw [hy8, HZ4.out]), ← Hv4.out] at HSm
      have HX8 := hid (HX7.out.below hb8)
      obtain ⟨v8, hv8⟩ : ∃ v, v = y8.val := ⟨_, rfl⟩
      rw [← hv8] at HSm ⊢
      clear hy8 hi8 hb8 hv8 c0 c1 cl
      go_wp2_with fail
      refine HSm.out.mono ?_
      rintro e w9 ⟨rfl, rfl⟩
      go_wp2
      exact bodyPost_ret (v := .bool true) (by simp [results, Tryd.results51, go_sem]) rfl ⟨rfl, HX8.out.lq⟩
    · have hj := hpos hi0
      clear hneg hpos
      subst hj
      rw [hxs]
      go_enter Tryd.func51, Tryd.ntmps51
      go_wp2_with (at_builtin; refine wpList_cpO rfl (.const (.slice none 0 0)) (.tmp 21) rfl x S0 rfl HXs.out Hx.out (by have h1 := HNn.out; have h2 := HHp.out; omega) ?_)
      intro g cc w1 ho1 hb1
      obtain ⟨_, hog, hfz, hput⟩ := own_put ho1 rfl
      have HOw := hid ho1
      rw [← HNn.out] at ⊢
      have HB1 := hid hb1
      have HPut := hid hput
      have HOg := hid hog
      obtain ⟨b3, c3, hv3, hgb, hgl, hat⟩ := OwnBy.slice HOw.out (by have h1 := HNn.out; have h2 := HHp.out; omega)
      have e3 : g = b3 := by injection hv3 with h1; injection h1 with h1; injection h1
      have r0 : w1.cell? ⟨g, i, none⟩ = some (.int .u8 (x.zs.getD i 0)) := by
        have h1 := hat i (.int .u8 (x.zs.getD i 0)) (by
          have h1 := HNn.out
          have h2 := HIl.out
          rw [List.getElem?_map, List.getElem?_eq_getElem (by omega), List.getD_eq_getElem?_getD, List.getElem?_eq_getElem (by omega)]; rfl)
        rw [Go.WideShapes.add_plain, ← e3, Nat.zero_add] at h1
        exact h1
      rw [← e3] at hgl hgb
      have HGb := hid hgb
      rw [← HZ.out] at r0
      have qz := hfz i
      clear ho1 hb1 hput hog hat hfz hv3 e3 hgb
      go_upto_region 7 with fail
      refine wp_region_calmE 30 (fun wx => Below w1.heap.size w1 wx) [(0, true), (1, true), (2, true), (3, true), (4, true), (5, true), (6, true), (7, false), (8, true), (9, true), (10, true), (11, true), (12, true)] (.one 13 false [] .done) (by kernel_rfl) (by kernel_rfl) (Below.refl _ _).drew ?_
      refine wpPre_e rfl rfl (fun K1 hK1 => ?_)
      apply Exists.intro
      refine And.intro (fun wx hx => ?_) ?_
      · go_simp
        try rfl
      go_simp
      refine hK1 _ ?_
      clear hK1 K1
      refine wpPre_e rfl rfl (fun K1 hK1 => ?_)
      apply Exists.intro
      refine And.intro (fun wx hx => ?_) ?_
      · go_simp
        try rfl
      go_simp
      refine hK1 _ ?_
      clear hK1 K1
      refine wpPre_e rfl rfl (fun K1 hK1 => ?_)
      apply Exists.intro
      refine And.intro (fun wx hx => ?_) ?_
      · go_simp
        try rfl
      go_simp
      refine hK1 _ ?_
      clear hK1 K1
      refine wpPre_e rfl rfl (fun K1 hK1 => ?_)
      apply Exists.intro
      refine And.intro (fun wx hx => ?_) ?_
      · go_simp
        try rfl
      go_simp
      refine hK1 _ ?_
      clear hK1 K1
      refine wpPre_e rfl rfl (fun K1 hK1 => ?_)
      apply Exists.intro
      refine And.intro (fun wx hx => ?_) ?_
      · go_simp
        try rfl
      go_simp
      refine hK1 _ ?_
      clear hK1 K1
      refine wpPre_e rfl rfl (fun K1 hK1 => ?_)
      apply Exists.intro
      refine And.intro (fun wx hx => ?_) ?_
      · go_simp
        try rfl
      go_simp
      refine hK1 _ ?_
      clear hK1 K1
      refine wpPre_e rfl rfl (fun K1 hK1 => ?_)
      apply Exists.intro
      refine And.intro (fun wx hx => ?_) ?_
      · go_simp
        try rfl
      go_simp
      refine hK1 _ ?_
      clear hK1 K1
      refine wpPre_e rfl rfl (fun K1 hK1 => ?_)
      apply Exists.intro
      refine And.intro (fun wx hx => ?_) ?_
      · have e0 := below_fact hx rfl r0
        go_simp
        try rfl
      go_simp
      refine hK1 _ ?_
      clear hK1 K1
      refine wpPre_e rfl rfl (fun K1 hK1 => ?_)
      apply Exists.intro
      refine And.intro (fun wx hx => ?_) ?_
      · go_simp
        try rfl
      go_simp
      refine hK1 _ ?_
      clear hK1 K1
      refine wpPre_e rfl rfl (fun K1 hK1 => ?_)
      apply Exists.intro
      refine And.intro (fun wx hx => ?_) ?_
      · go_simp
        try rfl
      go_simp
      refine hK1 _ ?_
      clear hK1 K1
      refine wpPre_e rfl rfl (fun K1 hK1 => ?_)
      apply Exists.intro
      refine And.intro (fun wx hx => ?_) ?_
      · go_simp
        try rfl
      go_simp
      refine hK1 _ ?_
      clear hK1 K1
      refine wpPre_e rfl rfl (fun K1 hK1 => ?_)
      apply Exists.intro
      refine And.intro (fun wx hx => ?_) ?_
      · go_simp
        try rfl
      go_simp
      refine hK1 _ ?_
      clear hK1 K1
      refine wpPre_e rfl rfl (fun K1 hK1 => ?_)
      apply Exists.intro
      refine And.intro (fun wx hx => ?_) ?_
      · go_simp
        try rfl
      go_simp
      refine hK1 _ ?_
      clear hK1 K1
      refine wpPre_nil ?_
      refine wpTr_e rfl (fun K1 hK1 => ?_)
      have s2 : w1.drew.frozen? ⟨g, i, none⟩ = false := qz
      go_simp
      refine hK1 _ _ (fun h => by cases h) ?_
      clear s2
      clear hK1 K1
      refine wpPre_nil ?_
      refine wpTr_done ?_
      obtain ⟨u, hu⟩ : ∃ u, u = bits BinOp.xor IntKind.u8 z (IntKind.u8.wrap (2 ^ rr)) := ⟨_, rfl⟩
      rw [← hu]
      obtain ⟨W2, hW2⟩ : ∃ W, W = (w1.setCell ⟨g, i, none⟩ (.int .u8 u)).drew := ⟨_, rfl⟩
      rw [← hW2]
      obtain ⟨sb, rb, dv, nv, bv, pv, wv, D, N, P, hM⟩ := H.out
      have hfl := HFl.out
      rw [← hu] at hfl
      have hub : 0 ≤ u ∧ u < 256 := by
        have hzb : 0 ≤ z ∧ z < 256 := by
          rw [HZ.out]
          have h2 := HIl.out
          rw [List.getD_eq_getElem?_getD, List.getElem?_eq_getElem h2, Option.getD_some]
          exact Hx.out.byte _ (List.getElem_mem _)
        rw [hu, bits_flip hzb hr8]
        have := xor_byte (y := z.toNat) (r := rr) (by omega) hr8
        omega
      have ho2 := HPut.out i u
      rw [← hfl] at ho2
      have hby : ∀ q ∈ flipZ x.zs k, 0 ≤ q ∧ q < 256 := by
        rw [hfl]
        intro q hq
        rcases List.mem_or_eq_of_mem_set hq with h | h
        · exact Hx.out.byte q h
        · rw [h]; exact hub
      have hln : (flipZ x.zs k).length = n := by rw [hfl, List.length_set, HNn.out]
      obtain ⟨y, hy1, hy2, hy3⟩ := bs_own ho2 hby (by have := HHp.out; omega)
      rw [hln] at hy2
      have hBT : But (fun _ => False) w W2 := (But.ofBelow HB1.out).cc (by
        rw [hW2]
        exact (((But.one w1 g).setAt i _).drew).mono fun k _ e => .inr (by rw [show k = g from e]; exact HGb.out))
      have hX2 := (LX.refl hM HN.out).gone hBT
      obtain ⟨C2, hC2⟩ : ∃ C2, C2 = upC w C (c + 7) := ⟨_, rfl⟩
      rw [← hC2] at hX2
      have hY2 : Tmp W2 C2 c y := by
        rw [hW2, hC2]
        exact (hy3.below (Below.refl _ _).drew).mono fun k hk _ => upC_new hk
      have hRd : readP y.zs = none := by rw [hy1]; exact HRd.out
      have HX2 := hid hX2
      have HY2 := hid hY2
      have HRy := hid hRd
      have HYv := hid hy2
      have HOp := hid (open_any W2.drew _ sb S.A (hX2.m.s.below (Below.refl _ _).drew fun _ _ h => h))
      have HWo := hid (word_any W2.drew _ sb S.A (hX2.m.s.below (Below.refl _ _).drew fun _ _ h => h))
      obtain ⟨qn, hqn⟩ : ∃ q, q = S.A.q.length := ⟨_, rfl⟩
      obtain ⟨wd, hwd⟩ : ∃ q, q = S.A.wd := ⟨_, rfl⟩
      rw [← hqn] at HOp
      rw [← hwd] at HWo
      have HQn := hid hqn
      have HWd := hid hwd
      have c0 := hX2.m.bx.cell 0
      have cl := hX2.m.bx.lt
      simp at c0
      clear hu hW2 hM hfl hub ho2 hby hln hy1 hy2 hy3 hBT hX2 hC2 hY2 hRd hqn hwd r0 qz hgl hq hqr hwi hr8 hli hrem hmul hM0 hn0
      go_upto_region 8 with fail
      refine wp_region_calmE 30 (fun wx => Below W2.heap.size W2 wx) [(0, true), (1, true), (2, true), (3, false), (5, true), (6, true), (7, true), (8, false)] (.one 4 true [] (.one 9 false [(10, true), (11, true)] .done)) (by kernel_rfl) (by kernel_rfl) (Below.refl _ _).drew ?_
      refine wpPre_e rfl rfl (fun K1 hK1 => ?_)
      apply Exists.intro
      refine And.intro (fun wx hx => ?_) ?_
      · go_simp
        try rfl
      go_simp
      refine hK1 _ ?_
      clear hK1 K1
      refine wpPre_e rfl rfl (fun K1 hK1 => ?_)
      apply Exists.intro
      refine And.intro (fun wx hx => ?_) ?_
      · go_simp
        try rfl
      go_simp
      refine hK1 _ ?_
      clear hK1 K1
      refine wpPre_e rfl rfl (fun K1 hK1 => ?_)
      apply Exists.intro
      refine And.intro (fun wx hx => ?_) ?_
      · go_simp
        try rfl
      go_simp
      refine hK1 _ ?_
      clear hK1 K1
      refine wpPre_e rfl rfl (fun K1 hK1 => ?_)
      apply Exists.intro
      refine And.intro (fun wx hx => ?_) ?_
      · have e0 := below_fact hx rfl c0
        go_simp
        try rfl
      go_simp
      refine hK1 _ ?_
      clear hK1 K1
      refine wpPre_e rfl rfl (fun K1 hK1 => ?_)
      apply Exists.intro
      refine And.intro (fun wx hx => ?_) ?_
      · go_simp
        try rfl
      go_simp
      refine hK1 _ ?_
      clear hK1 K1
      refine wpPre_e rfl rfl (fun K1 hK1 => ?_)
      apply Exists.intro
      refine And.intro (fun wx hx => ?_) ?_
      · go_simp
        try rfl
      go_simp
      refine hK1 _ ?_
      clear hK1 K1
      refine wpPre_e rfl rfl (fun K1 hK1 => ?_)
      apply Exists.intro
      refine And.intro (fun wx hx => ?_) ?_
      · go_simp
        try rfl
      go_simp
      refine hK1 _ ?_
      clear hK1 K1
      refine wpPre_e rfl rfl (fun K1 hK1 => ?_)
      apply Exists.intro
      refine And.intro (fun wx hx => ?_) ?_
      · have e0 := below_fact hx rfl c0
        go_simp
        try rfl
      go_simp
      refine hK1 _ ?_
      clear hK1 K1
      refine wpPre_nil ?_
      refine wpTr_e rfl (fun K1 hK1 => ?_)
      refine step_callG (by first | rfl | go_simp) 10 #[.tmp 49] _ rfl Tryd.f10 Tryd.func10 (by kernel_rfl) rfl #[.pointer (some ⟨sb, 0, none⟩)] rfl _ (HOp.out) ?_
      rintro e_ w3 ⟨rfl, rfl⟩
      refine ⟨_, rfl, ?_⟩
      go_simp
      refine hK1 _ _ (fun _ => (Below.refl _ _).drew) ?_
      clear hK1 K1
      refine wpPre_nil ?_
      refine wpTr_e rfl (fun K1 hK1 => ?_)
      refine step_callG (by first | rfl | go_simp) 18 #[.tmp 54] _ rfl Tryd.f18 Tryd.func18 (by kernel_rfl) rfl #[.pointer (some ⟨sb, 0, none⟩)] rfl _ (HWo.out) ?_
      rintro e_ w4 ⟨rfl, rfl⟩
      refine ⟨_, rfl, ?_⟩
      go_simp
      refine hK1 _ _ (fun h => by cases h) ?_
      clear hK1 K1
      refine wpPre_e rfl rfl (fun K1 hK1 => ?_)
      apply Exists.intro
      refine And.intro (fun wx hx => ?_) ?_
      · go_simp
        try rfl
      go_simp
      refine hK1 _ ?_
      clear hK1 K1
      refine wpPre_e rfl rfl (fun K1 hK1 => ?_)
      apply Exists.intro
      refine And.intro (fun wx hx => ?_) ?_
      · go_simp
        try rfl
      go_simp
      refine hK1 _ ?_
      clear hK1 K1
      refine wpPre_nil ?_
      refine wpTr_done ?_
      obtain ⟨W3, hW3⟩ : ∃ W, W = W2.drew := ⟨_, rfl⟩
      rw [← hW3]
      have hb3 : Below W2.heap.size W2 W3 := by rw [hW3]; exact (Below.refl _ _).drew
      obtain ⟨C3, hC3⟩ : ∃ C3, C3 = upC W2 C2 (c + 7) := ⟨_, rfl⟩
      have hX3 := HX2.out.below hb3
      have hY3 := Tmp.below HY2.out hb3
      rw [← hC3] at hX3 hY3
      have hT3 := hX3.tab HT.out HO.out
      have HAn := hid (answer_any W3 (Zc W3 C3 (c + 2)) rb S.R hX3.m.r hT3)
      have HX3 := hid hX3
      have HY3 := hid hY3
      clear c0 cl HOp HWo hW3 hb3 hC3 hY3 hT3
      have c1 := hX3.m.bx.cell 1
      have cl := hX3.m.bx.lt
      simp at c1
      clear hX3
      go_wp2_with fail
      refine HAn.out.mono ?_
      rintro e w4 ⟨y4, rfl, hy4, hi4, hb4⟩
      obtain ⟨C4, hC4⟩ : ∃ C4, C4 = upC W3 C3 (c + 7) := ⟨_, rfl⟩
      have hX4 := HX3.out.below hb4
      have hY4 := Tmp.below HY3.out hb4
      have hV4 : Tmp w4 (upC W3 C3 (c + 7)) c y4 := Tmp.new hi4
      rw [← hC4] at hX4 hY4 hV4
      have HTk := hid (take_any w4 (Zc w4 C4 (c + 2)) rb S.R hX4.m.r zc_lt y _ hY4 (hX4.tab HT.out HO.out) (hX4.z0 HT.out HO.out (by omega)))
      rw [← HYv.out] at HTk
      have HX4 := hid hX4
      have HY4 := hid hY4
      have HV4 := hid hV4
      have HZ4 := hid hy4
      obtain ⟨v4, hv4⟩ : ∃ v, v = y4.val := ⟨_, rfl⟩
      have Hv4 := hid hv4
      rw [← hv4]
      clear c1 cl HAn hC4 hY4 hV4 hy4 hi4 hb4 hv4
      have c1 := hX4.m.bx.cell 1
      have cl := hX4.m.bx.lt
      simp at c1
      clear hX4
      go_wp2_with fail
      refine HTk.out.mono ?_
      rintro e w5 ⟨hne, _⟩
      obtain ⟨he, hq5⟩ := hne (by rw [unpE_none HRy.out]; decide)
      rw [unpE_none HRy.out] at he
      subst he
      obtain ⟨C5, hC5⟩ : ∃ C5, C5 = upC w4 C4 (c + 2) := ⟨_, rfl⟩
      have hX5 : LX w C c lb sb rb dv nv bv pv wv D N P S w5 (upC w4 C4 (c + 2)) := HX4.out.rcv hq5
      have hY5 := Tmp.part (d := 2) HY4.out hq5.2 (by decide)
      have hV5 := Tmp.part (d := 2) HV4.out hq5.2 (by decide)
      rw [← hC5] at hX5 hY5 hV5
      have HAk := hid (ack_any w5 (Zc w5 C5 (c + 1)) sb S.A hX5.m.s zc_lt y _ hY5 (hX5.tab HT.out HO.out))
      rw [← HYv.out] at HAk
      have HX5 := hid hX5
      have HY5 := hid hY5
      have HV5 := hid hV5
      clear c1 cl HTk hC5 hY5 hV5 hq5 hne
      have c0 := hX5.m.bx.cell 0
      have cl := hX5.m.bx.lt
      simp at c0
      clear hX5
      go_wp2_with fail
      refine HAk.out.mono ?_
      rintro e w6 ⟨he, hq6⟩
      rw [ackE_none HRy.out] at he
      rw [ackE_none HRy.out, if_neg (by decide)] at hq6
      subst he
      obtain ⟨C6, hC6⟩ : ∃ C6, C6 = upC w5 C5 (c + 1) := ⟨_, rfl⟩
      have hX6 : LX w C c lb sb rb dv nv bv pv wv D N P S w6 (upC w5 C5 (c + 1)) := HX5.out.snd hq6
      have hY6 := Tmp.part (d := 1) HY5.out hq6.2 (by decide)
      have hV6 := Tmp.part (d := 1) HV5.out hq6.2 (by decide)
      rw [← hC6] at hX6 hY6 hV6
      have HLa := hid (lane_any y w6 _ hY6 (hX6.tab HT.out HO.out))
      rw [← HYv.out, laneV_none HRy.out] at HLa
      have HX6 := hid hX6
      have HV6 := hid hV6
      clear c0 cl HAk hC6 hY6 hV6 hq6 hX6
      go_wp2_with fail
      refine HLa.out.mono ?_
      rintro e w7 ⟨rfl, hb7⟩
      obtain ⟨C7, hC7⟩ : ∃ C7, C7 = upC w6 C6 (c + 7) := ⟨_, rfl⟩
      have hX7 := HX6.out.below hb7
      have hV7 := Tmp.below HV6.out hb7
      rw [← hC7] at hX7 hV7
      have HOp := hid (open_any w7 _ sb S.A hX7.m.s)
      have HWo := hid (word_any w7 _ sb S.A hX7.m.s)
      rw [← HQn.out] at HOp
      rw [← HWd.out] at HWo
      have HAn := hid (answer_any w7 (Zc w7 C7 (c + 2)) rb S.R hX7.m.r (hX7.tab HT.out HO.out))
      have HX7 := hid hX7
      have HV7 := hid hV7
      clear hC7 hb7 HLa hV7
      have c0 := hX7.m.bx.cell 0
      have c1 := hX7.m.bx.cell 1
      have cl := hX7.m.bx.lt
      simp at c0 c1
      clear hX7
      go_wp2_with fail
      refine HOp.out.mono ?_
      rintro e w8 ⟨rfl, rfl⟩
      go_wp2_with fail
      refine HWo.out.mono ?_
      rintro e w8 ⟨rfl, rfl⟩
      go_wp2_with fail
      refine HAn.out.mono ?_
      rintro e w8 ⟨y8, rfl, hy8, hi8, hb8⟩
      have HSm := hid (sameB_any y8 y4 w8 _ _ hi8 (Tmp.below HV7.out hb8))
      rw [decide_eq_true (show y8.zs = y4.zs by rw [hy8, HZ4.out]), ← Hv4.out] at HSm
      have HX8 := hid (HX7.out.below hb8)
      obtain ⟨v8, hv8⟩ : ∃ v, v = y8.val := ⟨_, rfl⟩
      rw [← hv8] at HSm ⊢
      clear hy8 hi8 hb8 hv8 c0 c1 cl
      go_wp2_with fail
      refine HSm.out.mono ?_
      rintro e w9 ⟨rfl, rfl⟩
      go_wp2
      exact bodyPost_ret (v := .bool true) (by simp [results, Tryd.results51, go_sem]) rfl ⟨rfl, HX8.out.lq⟩
end Go.Proofs.YtgnamngnmbaeeaaDoor
