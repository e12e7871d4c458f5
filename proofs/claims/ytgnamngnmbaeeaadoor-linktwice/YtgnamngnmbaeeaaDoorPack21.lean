import Derived.Test.YtgnamngnmbaeeaaDoorPack20
namespace Go.Proofs.YtgnamngnmbaeeaaDoor
open Go.RowKit
set_option maxRecDepth 8000
/-- which one of a row a number picks -/
def idxP (i : Int) (n : Nat) : Nat := (if i < 0 then (-(i + 1)).toNat else i.toNat) % n
def atP (L : List BS) (i : Int) : BS := L.getD (idxP i L.length) ⟨none, 0, []⟩
theorem atP_mem {L : List BS} (h : L ≠ []) (i : Int) : L[idxP i L.length]? = some (atP L i) := by
  have hp : 0 < L.length := List.length_pos_iff.2 h
  have hl : idxP i L.length < L.length := Nat.mod_lt _ hp
  unfold atP
  rw [List.getD_eq_getElem?_getD, List.getElem?_eq_getElem hl, Option.getD_some]
theorem wr64 {x : Int} (h1 : -9223372036854775808 ≤ x) (h2 : x ≤ 9223372036854775807) : IntKind.i64.wrap x = x := by rw [IntKind.wrap_i64]; omega
theorem wq64 {x : Int} (h1 : -9223372036854775808 ≤ x) (h2 : x ≤ 9223372036854775807) : wrap64 x = x := by unfold wrap64; omega
def Fit64 (i : Int) : Prop := -9223372036854775808 ≤ i ∧ i ≤ 9223372036854775807
theorem at_num (i : Int) (n : Nat) (hn : 0 < n) (hi : Fit64 i) : ∃ j : Nat, idxP i n < n ∧ (j : Int).tmod (n : Int) = ((idxP i n : Nat) : Int) ∧ (i < 0 → IntKind.i64.wrap (i + 1) = i + 1 ∧ IntKind.i64.wrap (-(i + 1)) = (j : Int)) ∧ (¬ i < 0 → i = (j : Int)) := by
  unfold Fit64 at hi
  by_cases h : i < 0
  · refine ⟨(-(i + 1)).toNat, Nat.mod_lt _ hn, ?_, fun _ => ⟨wr64 (by omega) (by omega), ?_⟩, fun e => absurd h e⟩
    · unfold idxP
      rw [if_pos h, Int.tmod_eq_emod_of_nonneg (by omega)]
      exact (Int.natCast_emod _ _).symm
    · rw [wr64 (by omega) (by omega)]
      omega
  · refine ⟨i.toNat, Nat.mod_lt _ hn, ?_, fun e => absurd e h, fun _ => by omega⟩
    unfold idxP
    rw [if_neg h, Int.tmod_eq_emod_of_nonneg (by omega)]
    exact (Int.natCast_emod _ _).symm
set_option maxHeartbeats 8000000 in
theorem at_any (w : World) (Z : Nat → Prop) (b o : Nat) (v : Value) (L : List BS) (hl : b < w.heap.size) (hc : w.cell? ⟨b, o, none⟩ = some v) (h : Rw w Z v L) (i : Int) (hi : Fit64 i) :
    Calls Tryd.prog 15 #[.pointer (some ⟨b, o, none⟩), .int .i64 i] w fun e w' => e = .returned (atP L i).val ∧ Below w.heap.size w w' := by
  by_cases h0 : L = []
  · subst h0
    obtain ⟨p, c, rfl⟩ := h.slice
    dsimp only [List.length_nil] at hc
    clear h hi
    go_enter Tryd.func15, Tryd.ntmps15
    go_wp2
    exact bodyPost_ret (v := .slice none 0 0) (by simp [results, Tryd.results15, go_sem]) rfl ⟨rfl, Below.refl _ _⟩
  · obtain ⟨g, q, cap, rfl, hg, hx, hfz, hcap, hIn⟩ := h.at_ (atP_mem h0 i)
    have hp : 0 < L.length := List.length_pos_iff.2 h0
    obtain ⟨n, hn⟩ : ∃ n, n = L.length := ⟨_, rfl⟩
    rw [← hn] at hp hc hx hcap
    obtain ⟨j, hk, hrem, hneg, hpos⟩ := at_num i n hp hi
    obtain ⟨k, hk2⟩ : ∃ k, k = idxP i n := ⟨_, rfl⟩
    rw [← hk2] at hx hk hrem
    have hn0 : ((n : Int) == 0) = false := beq_eq_false_iff_ne.2 (by omega)
    have hkl : (k : Int) < (n : Int) := by omega
    obtain ⟨x, hx2⟩ : ∃ x, x = (atP L i).val := ⟨_, rfl⟩
    rw [← hx2] at hx ⊢
    have HX2 := hid hx2
    clear h h0 hIn hfz hcap hk2 hn hx2 hi
    by_cases hi0 : i < 0
    · obtain ⟨hw1, hw2⟩ := hneg hi0
      clear hneg hpos
      go_enter Tryd.func15, Tryd.ntmps15
      go_upto_region 5 with fail
      have E0 := fun u : BW w => u.fact hc hl
      have E1 := fun u : BW w => u.fact hx hg
      refine wp_region_bw w (Below.refl _ _).drew (by kernel_rfl) (by kernel_rfl) ?_
      repeat (go_big_quiet_step (fail))
      refine wpQuiet_nil ?_
      rintro w4 ⟨u0, hw0⟩
      have hb4 : Below w.heap.size w w4 := by rw [hw0]; exact u0.prop
      clear hw0 u0 E0 E1
      have HB4 := hid hb4
      clear hb4
      go_wp2
      exact bodyPost_ret (v := x) (by simp [results, Tryd.results15, go_sem]) rfl ⟨rfl, HB4.out⟩
    · have hj := hpos hi0
      clear hneg hpos
      subst hj
      go_enter Tryd.func15, Tryd.ntmps15
      go_upto_region 5 with fail
      have E0 := fun u : BW w => u.fact hc hl
      have E1 := fun u : BW w => u.fact hx hg
      refine wp_region_bw w (Below.refl _ _).drew (by kernel_rfl) (by kernel_rfl) ?_
      repeat (go_big_quiet_step (fail))
      refine wpQuiet_nil ?_
      rintro w4 ⟨u0, hw0⟩
      have hb4 : Below w.heap.size w w4 := by rw [hw0]; exact u0.prop
      clear hw0 u0 E0 E1
      have HB4 := hid hb4
      clear hb4
      go_wp2
      exact bodyPost_ret (v := x) (by simp [results, Tryd.results15, go_sem]) rfl ⟨rfl, HB4.out⟩
end Go.Proofs.YtgnamngnmbaeeaaDoor

namespace Go.Proofs.YtgnamngnmbaeeaaDoor
open Go.RowKit
set_option maxRecDepth 8000
theorem run_cpB (w : World) (ty : TypeId) (x : BS) (S : Nat → Prop) (hx : x.In w S) : ∃ (y : BS) (w' : World), (Builtin.append_ #[36, 36] ty #[.slice none 0 0, x.val]).run Tryd.prog w = .ok y.val w' ∧ y.zs = x.zs ∧ y.In w' (fun k => w.heap.size ≤ k) ∧ Below w.heap.size w w' := by
  obtain ⟨i0, Kd⟩ := kindB
  have hs := hx.bsrc
  have hby := hx.byte
  have hnn := hx.nn
  obtain ⟨xp, xc, xz⟩ := x
  dsimp only [BS.val] at hs hnn ⊢
  rcases hs with ⟨h1, h2, h3, h4⟩ | ⟨ad, h1, hl, hnews⟩
  · subst h1 h3
    obtain rfl : xz = [] := List.eq_nil_of_length_eq_zero h2
    refine ⟨⟨none, 0, []⟩, w, ?_, rfl, bs_nil _ _, Below.refl _ _⟩
    simp [Builtin.append_, run_underlying Kd.ht, sizeOf, typeInfo, Kd.hi, Builtin.lenOf, Builtin.firstCells]
  · subst h1
    obtain ⟨v', w', hrun, r1, r2, r3⟩ := run_app w ty 36 5 i0 _ 1 1 Kd w.heap.size (.slice none 0 0) 0 [] (World.ownsRow_nil w _ 5 1) ad xz.length xc (xz.map (.int .u8)) hl hnews (oneu8 _) (by simpa using hnn) (by have h9 : xz.length ≤ 140737488355328 := hnn; omega) (Nat.le_refl _)
    have hO : OwnBy w.heap.size w' v' xz := by
      unfold OwnBy
      simpa using r1
    obtain ⟨y, hy1, hy2, hy3⟩ := bs_own hO hby hnn
    exact ⟨y, w', by rw [hrun, hy2]; rfl, hy1, hy3, Below.grown (Below.refl _ _) r2 (Nat.le_refl _) fun k hk => by cases hk⟩
theorem step_cpB {ops : Array Oper} {o : Oper} {a : Act} {w : World} {K : Act → World → Prop} {Q : Exit → Act → World → Prop} {E : Prop}
    (hgd : o.guard = none) (s z : Operand) (hop : o.op = Op.call { callee := Callee.builtin Builtin.append, args := #[s, z], argTypes := #[36, 36] })
    (x : BS) (S : Nat → Prop) (hs : a.eval s = .slice none 0 0) (hz : a.eval z = x.val) (hx : x.In w S)
    (hK : ∀ (y : BS) w', y.zs = x.zs → y.In w' (fun k => w.heap.size ≤ k) → Below w.heap.size w w' → K (a.put o.dst y.val) w') :
    if Region.wanted o (yielded ops a.tmps) = true then Oper.wp Tryd.prog o a w K Q else E := by
  have hw : Region.wanted o (yielded ops a.tmps) = true := by simp [Region.wanted, hgd]
  rw [if_pos hw]
  obtain ⟨y, w', hrun, r1, r2, r3⟩ := run_cpB w o.type x S hx
  unfold Oper.wp
  simp [execOp, hop, resolve, invoke, builtin, hs, hz, hrun, Result.andThen]
  exact hK y w' r1 r2 r3
end Go.Proofs.YtgnamngnmbaeeaaDoor

namespace Go.Proofs.YtgnamngnmbaeeaaDoor
open Go.RowKit
set_option maxRecDepth 8000
/-- what a pool holds behind add -/
def addP (l : List (List Int)) (x : List Int) : List (List Int) := if l.length < 400 then l ++ [x] else l
def AddQ (w : World) (Z : Nat → Prop) (b o : Nat) (cs : Array Value) (ty : TypeId) (_v : Value) (L : List BS) (x : List Int) (e : Ending) (w' : World) : Prop :=
  e = .returned (.tuple #[]) ∧ ∃ v' L', Box w' b (cs.setIfInBounds o v') ty ∧ Rw w' Z v' L' ∧ L'.map BS.zs = addP (L.map BS.zs) x ∧ But (fun k => k = b ∨ ¬ Z k) w w'
theorem set_same (cs : Array Value) (o : Nat) (v : Value) (h : cs[o]? = some v) : cs.setIfInBounds o v = cs := by
  apply Array.ext_getElem?
  intro i
  rw [Array.getElem?_setIfInBounds]
  split
  · rename_i e
    subst e
    split
    · exact h.symm
    · rename_i h2
      rw [Array.getElem?_eq_none (by omega)] at h
      cases h
  · rfl
set_option maxHeartbeats 8000000 in
theorem padd_any (w : World) (Z : Nat → Prop) (b o : Nat) (cs : Array Value) (ty : TypeId) (hX : Box w b cs ty) (v : Value) (hv : cs[o]? = some v) (L : List BS) (h : Rw w Z v L) (hb : Z b) (hZ : ∀ k, Z k → k < w.heap.size) (x : BS) (S : Nat → Prop) (hx : x.In w S) :
    Calls Tryd.prog 36 #[.pointer (some ⟨b, o, none⟩), x.val] w fun e w' => AddQ w Z b o cs ty v L x.zs e w' := by
  obtain ⟨p, c, rfl⟩ := h.slice
  have hc : w.cell? ⟨b, o, none⟩ = some (.slice p L.length c) := by rw [hX.cell, hv]
  have hl := hX.lt
  have hR := hid h
  have HX := hid hX
  have HZ := hid hZ
  have Hb := hid hb
  have Hv := hid hv
  have Hx := hid hx
  obtain ⟨xv, hxv⟩ : ∃ xv, xv = x.val := ⟨_, rfl⟩
  rw [← hxv]
  have HXv := hid hxv
  obtain ⟨n, hn⟩ : ∃ n, n = L.length := ⟨_, rfl⟩
  have HN := hid hn
  rw [← hn] at hc
  clear h hX hv hb hZ hx hxv hn
  by_cases h4 : n < 400
  case neg =>
    as_aux_lemma =>
    have h4b : ¬ (n : Int) < 400 := by omega
    have H4 : Hid (¬ n < 400) := h4
    clear h4
    go_enter Tryd.func36, Tryd.ntmps36
    go_wp2
    refine bodyPost_end (v := .tuple #[]) (by simp [results, Tryd.results36, go_sem]) rfl ⟨rfl, .slice p L.length c, L, ?_, hR.out, ?_, But.refl _ _⟩
    · rw [set_same cs o _ Hv.out]; exact HX.out
    · unfold addP
      rw [if_neg (by rw [List.length_map, ← HN.out]; exact H4.out)]
  case pos =>
    as_aux_lemma =>
    have h4b : (n : Int) < 400 := by omega
    have H4 : Hid (n < 400) := h4
    clear h4
    go_enter Tryd.func36, Tryd.ntmps36
    go_upto_region 1 with fail
    refine wp_region_calmE 30 (fun wx => Below w.heap.size w wx) [(0, true), (1, true), (2, true), (3, true), (4, false), (5, true)] (.one 6 true [] (.one 7 true [] (.one 8 false [(9, true), (10, true)] (.one 11 false [] .done)))) (by kernel_rfl) (by kernel_rfl) (Below.refl _ _).drew ?_
    refine wpPre_e rfl rfl (fun K1 hK1 => ?_)
    apply Exists.intro
    refine And.intro (fun wx hx => ?_) ?_
    · go_simp
      try rfl
    go_simp
    refine hK1 _ ?_
    clear hK1 K1
    refine wpPre_e rfl rfl (fun K1 hK1 => ?_)
    apply Exists.intro
    refine And.intro (fun wx hx => ?_) ?_
    · go_simp
      try rfl
    go_simp
    refine hK1 _ ?_
    clear hK1 K1
    refine wpPre_e rfl rfl (fun K1 hK1 => ?_)
    apply Exists.intro
    refine And.intro (fun wx hx => ?_) ?_
    · go_simp
      try rfl
    go_simp
    refine hK1 _ ?_
    clear hK1 K1
    refine wpPre_e rfl rfl (fun K1 hK1 => ?_)
    apply Exists.intro
    refine And.intro (fun wx hx => ?_) ?_
    · go_simp
      try rfl
    go_simp
    refine hK1 _ ?_
    clear hK1 K1
    refine wpPre_e rfl rfl (fun K1 hK1 => ?_)
    apply Exists.intro
    refine And.intro (fun wx hx => ?_) ?_
    · have e0 := below_fact hx rfl hc
      go_simp
      try rfl
    go_simp
    refine hK1 _ ?_
    clear hK1 K1
    refine wpPre_e rfl rfl (fun K1 hK1 => ?_)
    apply Exists.intro
    refine And.intro (fun wx hx => ?_) ?_
    · go_simp
      try rfl
    go_simp
    refine hK1 _ ?_
    clear hK1 K1
    refine wpPre_nil ?_
    refine wpTr_e rfl (fun K1 hK1 => ?_)
    refine step_cpB rfl (.const (.slice none 0 0)) (.tmp 15) rfl x S rfl HXv.out (Hx.out.below (Below.refl _ _).drew) ?_
    rintro ⟨yp, yc, yz⟩ w2 hy1 hy2 hb2
    dsimp only [BS.val]
    have hb2w : Below w.heap.size w w2 := (Below.refl _ _).drew.trans (hb2.mono (Nat.le_refl _))
    have HB2 := hid hb2w
    have HY := hid hy2
    have HYz := hid hy1
    clear hb2 hb2w hy1 hy2
    refine hK1 _ _ (fun _ => HB2.out) ?_
    clear hK1 K1
    refine wpPre_nil ?_
    refine wpTr_e rfl (fun K1 hK1 => ?_)
    obtain ⟨V3, hV3⟩ : ∃ V, V = w2.alloc (.cells #[.slice yp yz.length yc] 36) := ⟨_, rfl⟩
    have hb3 : Below w2.heap.size w2 V3 := by rw [hV3]; exact (Below.refl _ _).alloc (Nat.le_refl _) _
    have hX3 : Box V3 w2.heap.size #[.slice yp yz.length yc] 36 := by rw [hV3]; exact Box.new _ _ _
    have HB3 : Hid (Below w.heap.size w V3) := HB2.out.trans (hb3.mono HB2.out.size)
    have HX3 := hid hX3
    have HV3 := hid hV3
    have HY3 := hid (HY.out.below hb3)
    have HS2 := hid HB2.out.size
    have hV3c := hV3
    clear hb3 hX3 hV3
    go_simp
    rw [← hV3c]
    refine hK1 _ _ (fun _ => HB3.out) ?_
    clear hV3c
    clear hK1 K1
    refine wpPre_nil ?_
    refine wpTr_e rfl (fun K1 hK1 => ?_)
    have HRow := hid (hR.out.below HB3.out fun _ _ h => h)
    obtain ⟨nb, hnb⟩ : ∃ nb, nb = w2.heap.size := ⟨_, rfl⟩
    rw [← hnb]
    have hy0 : V3.cell? ⟨nb, 0, none⟩ = some (.slice yp yz.length yc) := by rw [hnb]; exact HX3.out.cell 0
    refine step_appQ rfl (.tmp 14) (.tmp 17) rfl _ (L.map BS.val) (by rw [← HN.out] at *; rfl) HRow.out.row ⟨nb, 0, none⟩ 1 (.slice yp yz.length yc) rfl hy0 rfl (by rw [List.length_map, ← HN.out]; have h9 : n < 400 := H4; omega) ?_
    intro v4 w4 hr4 hg4 hn4
    have hpush := HRow.out.push (x := ⟨yp, yc, yz⟩) hr4 hg4 hn4 (HY3.out.mono fun k hk hl => by
      have hk' : w.heap.size ≤ k := hk
      exact ⟨fun e => by have := HZ.out k e; omega, fun e => by have := (hR.out.row.lt e).1; omega⟩) (fun k hk => by
      have h3 := HB3.out.size
      have := HZ.out k hk
      omega)
    obtain ⟨p4, c4, hv4⟩ := hpush.slice
    subst hv4
    have HX4 : Hid (Box w4 b cs ty) := (HX.out.below HB3.out).but (But.grow hg4) (fun e => hR.out.z b e Hb.out)
    have HP := hid hpush
    have HG4 := hid (But.grow hg4)
    have df : w4.frozen? ⟨b, o, none⟩ = false := HX4.out.frozen o
    have dc : w4.cell? ⟨b, o, none⟩ = some (.slice p L.length c) := by rw [HX4.out.cell]; exact Hv.out
    have dl := HX4.out.lt
    clear hr4 hg4 hn4 hpush hnb hy0
    refine hK1 _ _ (fun h => by cases h) ?_
    clear hK1 K1
    refine wpPre_e rfl rfl (fun K1 hK1 => ?_)
    apply Exists.intro
    refine And.intro (fun wx hx => ?_) ?_
    · go_simp
      try rfl
    go_simp
    refine hK1 _ ?_
    clear hK1 K1
    refine wpPre_e rfl rfl (fun K1 hK1 => ?_)
    apply Exists.intro
    refine And.intro (fun wx hx => ?_) ?_
    · go_simp
      try rfl
    go_simp
    refine hK1 _ ?_
    clear hK1 K1
    refine wpPre_nil ?_
    refine wpTr_e rfl (fun K1 hK1 => ?_)
    go_simp
    refine hK1 _ _ (fun h => by cases h) ?_
    clear hK1 K1
    refine wpPre_nil ?_
    refine wpTr_done ?_
    clear hc hl
    obtain ⟨W5, hW5⟩ : ∃ W, W = w4.setCell ⟨b, o, none⟩ (.slice p4 (L.length + 1) c4) := ⟨_, rfl⟩
    have hbt : But (fun k => k = b) w4 W5 := by rw [hW5]; exact (But.one _ _).setAt _ _
    have HQ : Hid (AddQ w Z b o cs ty (.slice p L.length c) L x.zs (.returned (.tuple #[])) W5) := by
      refine ⟨rfl, .slice p4 (L.length + 1) c4, L ++ [(⟨yp, yc, yz⟩ : BS)], ?_, ?_, ?_, ?_⟩
      · rw [hW5]; exact HX4.out.set o _
      · have h := HP.out
        rw [List.length_append] at h
        exact h.but (hbt.mono fun k _ e => by rw [show k = b from e]; exact Hb.out) fun _ _ h => h
      · unfold addP
        rw [if_pos (by rw [List.length_map, ← HN.out]; exact H4.out), List.map_append, ← HYz.out]; rfl
      · refine ((But.ofBelow HB3.out).trans (HG4.out.mono fun k _ e => .inr (hR.out.z k e))).trans (hbt.mono fun k _ e => .inl e)
    rw [← hW5]
    clear hW5 hbt
    go_wp2
    exact bodyPost_end (v := .tuple #[]) (by simp [results, Tryd.results36, go_sem]) rfl HQ.out
end Go.Proofs.YtgnamngnmbaeeaaDoor
