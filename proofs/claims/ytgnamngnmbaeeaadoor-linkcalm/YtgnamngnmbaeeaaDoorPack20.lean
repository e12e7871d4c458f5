import Derived.Test.YtgnamngnmbaeeaaDoorPack19
namespace Go.Proofs.YtgnamngnmbaeeaaDoor
open Go.RowKit
set_option maxRecDepth 8000
def takeN (R : RA) (zs : List Int) : RA := match readP zs with
  | none => R
  | some l => if unpE R.ln 68 zs = 0 then readyR (keepR R l.nu l.ms) else R
theorem keepR_ln (R : RA) (n : Nat) (m : List Int) : (keepR R n m).ln = R.ln := by
  unfold keepR
  split
  · rfl
  · split <;> rfl
theorem tab_fr {Z : Nat → Prop} {w w' : World} (h : Tab w) (hb : Fr Z w w') (h0 : Z 0) : Tab w' := by
  have hk := hb.block 0 h.1 fun e => e h0
  refine ⟨Nat.lt_of_lt_of_le h.1 hb.size, fun i hi => ?_⟩
  rw [← h.2 i hi]
  exact World.cell?_of_block (a := ⟨0, i, none⟩) hk
def TakeQ (w : World) (Z : Nat → Prop) (b : Nat) (R : RA) (zs : List Int) (e : Ending) (w' : World) : Prop :=
  (unpE R.ln 68 zs ≠ 0 → e = .returned (.tuple #[.slice none 0 0, .int .i64 (unpE R.ln 68 zs)]) ∧ RcvQ w Z b R w') ∧
  (unpE R.ln 68 zs = 0 → ∃ (y : BS) (N : Nat), e = .returned (.tuple #[y.val, .int .i64 0]) ∧ y.zs = pktA (takeN R zs) ∧ w.heap.size ≤ N ∧ N ≤ w'.heap.size ∧ y.In w' (fun k => N ≤ k) ∧ RcvI w' (fun k => Z k ∨ N ≤ k) b (takeN R zs) ∧ Fr Z w w')
set_option maxHeartbeats 8000000 in
theorem take_any (w : World) (Z : Nat → Prop) (b : Nat) (R : RA) (h : RcvI w Z b R) (hZ : ∀ k, Z k → k < w.heap.size) (x : BS) (S : Nat → Prop) (hx : x.In w S) (hT : Tab w) (hZ0 : Z 0) : Calls Tryd.prog 21 #[.pointer (some ⟨b, 0, none⟩), x.val] w fun e w' => TakeQ w Z b R x.zs e w' := by
  have H := hid h
  have HUp := hid (unpack_any R.ln R.wi x 68 w S hx hT)
  obtain ⟨xv, hxv⟩ : ∃ xv, xv = x.val := ⟨_, rfl⟩
  rw [← hxv] at HUp ⊢
  obtain ⟨mb, v, E, L, h1⟩ := h
  have c0 := h1.bx.cell 0
  have c1 := h1.bx.cell 1
  have cl := h1.bx.lt
  simp at c0 c1
  have HZ := hid hZ
  have HT := hid hT
  have HZ0 := hid hZ0
  clear h1 hZ hx hT hxv hZ0
  go_enter Tryd.func21, Tryd.ntmps21
  go_wp2_with fail
  refine HUp.out.mono ?_
  rintro e w1 ⟨hn, hs, hb1⟩
  have HB1 := hid hb1
  by_cases hu : unpE R.ln 68 x.zs = 0
  case neg =>
    as_aux_lemma =>
    obtain ⟨U, hU⟩ : ∃ U, U = unpE R.ln 68 x.zs := ⟨_, rfl⟩
    have he := hn hu
    subst he
    rw [← hU]
    have hub : (U != 0) = true := by rw [bne_iff_ne, hU]; exact hu
    have HU0 : Hid (¬ unpE R.ln 68 x.zs = 0) := hu
    have HUe := hid hU
    unfold letZ
    clear hn hs hb1 hu hU HUp c0 c1 cl
    obtain ⟨V3, hV3⟩ : ∃ V, V = w1.alloc (.cells #[.int .u8 0, .int .i64 0, .int .i64 0, .int .i64 0, .slice none 0 0] 100) := ⟨_, rfl⟩
    have HB3 : Hid (Below w.heap.size w V3) := HB1.out.trans (by rw [hV3]; exact ((Below.refl _ _).alloc (Nat.le_refl _) _).mono HB1.out.size)
    have HV3 := hid hV3
    clear hV3
    go_upto_region 2 with fail
    rw [← HV3.out]
    go_wp2
    exact bodyPost_ret (v := .tuple #[.slice none 0 0, .int .i64 U]) (by simp [results, Tryd.results21, go_sem]) rfl ⟨fun _ => ⟨by rw [HUe.out], H.out.same HB3.out⟩, fun h => absurd h HU0.out⟩
  case pos =>
    cases hr : readP x.zs with
    | none => exfalso; unfold unpE at hu; rw [hr] at hu; cases hu
    | some l =>
      as_aux_lemma =>
      obtain ⟨y, hy1, hy2, rfl⟩ := hs l hr hu
      have hkd : l.kd = 68 := by
        unfold unpE at hu
        rw [hr] at hu
        simp only at hu
        by_cases hk : l.kd = 68
        · exact hk
        · rw [if_pos hk] at hu; cases hu
      have HLo := hid (readP_ok hr)
      have HTN : Hid (takeN R x.zs = readyR (keepR R l.nu l.ms)) := by show takeN R x.zs = _; unfold takeN; rw [hr]; simp only; rw [if_pos hu]
      obtain ⟨nu, hnu⟩ : ∃ nu, nu = l.nu := ⟨_, rfl⟩
      have hnb : 1 ≤ nu ∧ nu ≤ 1073741824 := by rw [hnu]; exact HLo.out.n68 hkd
      rw [← hnu] at HTN ⊢
      have HNb := hid hnb
      have HY1 := hid hy1
      have hyl : y.zs.length ≤ 4096 := by rw [hy1]; exact HLo.out.ms
      have HYl := hid hyl
      have HUz := hid hu
      obtain ⟨V3, hV3⟩ : ∃ V, V = w1.alloc (.cells #[.int .u8 68, .int .i64 (l.ln : Int), .int .i64 (nu : Int), .int .i64 (l.wd : Int), y.val] 100) := ⟨_, rfl⟩
      have hb3 : Below w1.heap.size w1 V3 := by rw [hV3]; exact (Below.refl _ _).alloc (Nat.le_refl _) _
      obtain ⟨pb, hpb⟩ : ∃ pb, pb = w1.heap.size := ⟨_, rfl⟩
      have hX3 : Box V3 pb #[.int .u8 68, .int .i64 (l.ln : Int), .int .i64 (nu : Int), .int .i64 (l.wd : Int), y.val] 100 := by rw [hV3, hpb]; exact Box.new _ _ _
      have HB3 : Hid (Below w.heap.size w V3) := HB1.out.trans (hb3.mono HB1.out.size)
      have HKp := hid (keep_any w V3 Z b R H.out HB3.out HZ.out nu hnb y (hy2.below hb3) hyl)
      obtain ⟨yp, yc, yz⟩ := y
      dsimp only [BS.val] at hX3 hV3 HKp ⊢
      have HV3 := hid hV3
      have HPb := hid hpb
      have z2 := hX3.cell 2
      have z4 := hX3.cell 4
      have zl := hX3.lt
      simp at z2 z4
      clear hn hs hb1 hu hr HUp hy1 hy2 hkd hnu hnb hyl hV3 hb3 hpb hX3 c0 c1 cl
      go_upto_region 2 with fail
      rw [← HV3.out, ← HPb.out]
      go_wp2_with fail
      refine HKp.out.mono ?_
      rintro e w4 ⟨rfl, hI4, hF4⟩
      have HI4 := hid hI4
      have HF4 : Hid (Fr Z w w4) := (Fr.below HB3.out).trans hF4
      have hs4 := HF4.out.size
      have HRy := hid (ready_any w4 Z b _ hI4 fun k hk => Nat.lt_of_lt_of_le (HZ.out k hk) hs4)
      clear hI4 hF4 HKp z2 z4 zl
      go_wp2_with fail
      refine HRy.out.mono ?_
      rintro e w5 ⟨rfl, hI5, hF5⟩
      have HI5 := hid hI5
      have HF5 : Hid (Fr Z w w5) := HF4.out.trans hF5
      have HT5 := tab_fr HT.out HF5.out HZ0.out
      have HAn := hid (answer_any w5 Z b _ HI5.out HT5)
      clear hI5 hF5 HRy HT5
      go_wp2_with fail
      refine HAn.out.mono ?_
      rintro e w6 ⟨y6, rfl, hy6, hi6, hb6⟩
      have HI6 := hid hi6
      have HB6 := hid hb6
      have HY6 := hid hy6
      obtain ⟨v6, hv6⟩ : ∃ v, v = y6.val := ⟨_, rfl⟩
      rw [← hv6]
      have HV6 := hid hv6
      clear HAn hy6 hi6 hb6 hv6
      go_wp2
      refine bodyPost_ret (v := .tuple #[v6, .int .i64 0]) (by simp [results, Tryd.results21, go_sem]) rfl ⟨fun h => absurd HUz.out h, fun _ => ⟨y6, w5.heap.size, ?_, ?_, HF5.out.size, HB6.out.size, HI6.out, ?_, HF5.out.trans (Fr.below HB6.out)⟩⟩
      · rw [HV6.out]
      · rw [HTN.out, ← HY1.out]; exact HY6.out
      · rw [HTN.out, ← HY1.out]
        exact HI5.out.below HB6.out fun k hk (e : Z k ∨ w5.heap.size ≤ k) => e.elim id fun e => absurd e (by omega)
end Go.Proofs.YtgnamngnmbaeeaaDoor

namespace Go.Proofs.YtgnamngnmbaeeaaDoor
open Go.RowKit
set_option maxRecDepth 8000
def NextQ (w : World) (Z : Nat → Prop) (b : Nat) (R : RA) (e : Ending) (w' : World) : Prop :=
  (R.rd = [] → e = .returned (.tuple #[.slice none 0 0, .bool false]) ∧ RcvQ w Z b R w') ∧
  (∀ m r, R.rd = m :: r → ∃ y : BS, e = .returned (.tuple #[y.val, .bool true]) ∧ y.zs = m ∧ y.In w' (fun k => ¬ Z k) ∧ RcvQ w Z b { R with rd := r } w')
set_option maxHeartbeats 8000000 in
theorem next_any (w : World) (Z : Nat → Prop) (b : Nat) (R : RA) (h : RcvI w Z b R) : Calls Tryd.prog 43 #[.pointer (some ⟨b, 0, none⟩)] w fun e w' => NextQ w Z b R e w' := by
  obtain ⟨mb, v, E, L, h⟩ := h
  have c3 := h.bx.cell 4
  have cl := h.bx.lt
  have cf := h.bx.frozen
  simp at c3
  have HM := hid h
  obtain ⟨p, c, hv⟩ := h.row.slice
  have hlen : L.length = R.rd.length := by rw [← h.rd, List.length_map]
  have HLn := hid hlen
  cases L with
  | nil =>
    as_aux_lemma =>
    rw [hv] at c3
    dsimp only [List.length_nil] at c3
    have HV := hid hv
    have hr : R.rd = [] := List.eq_nil_of_length_eq_zero (by rw [← hlen]; rfl)
    have HR := hid hr
    clear h hlen hr hv
    go_enter Tryd.func43, Tryd.ntmps43
    go_upto_region 2 with fail
    go_wp2
    refine bodyPost_ret (v := .tuple #[.slice none 0 0, .bool false]) (by simp [results, Tryd.results43, go_sem]) rfl ⟨fun _ => ⟨rfl, RcvI.same ⟨mb, v, E, [], HM.out⟩ (Below.refl _ _)⟩, fun m r e => by rw [HR.out] at e; cases e⟩
  | cons x L =>
    as_aux_lemma =>
    obtain ⟨g, o, cap, hv2, hg, hx, hfz, hcap, hIn⟩ := h.row.at_ (i := 0) (x := x) rfl
    rw [hv2] at c3
    have HV2 := hid hv2
    have hgb : g ≠ b := fun e => h.row.z g (by rw [hv2]; rfl) (.inr (.inl e))
    clear h hlen hv
    dsimp only [List.length_cons] at c3 hcap
    rw [Nat.add_zero] at hx
    have HGb := hid hgb
    have HWo := hid (without_any w (Zr Z b mb) (.slice (some ⟨g, o, none⟩) (L.length + 1) cap) (x :: L) (by have h := HM.out.row; rw [HV2.out] at h; exact h) 1 (by simp))
    have HIn := hid hIn
    clear hIn hgb
    go_enter Tryd.func43, Tryd.ntmps43
    go_wp2_with fail
    refine HWo.out.mono ?_
    rintro e w1 ⟨v1, rfl, hR1, hb1, hv0⟩
    obtain ⟨p1, c1, hv1⟩ := hR1.slice
    rw [show ((x :: L).drop 1).length = L.length from rfl] at hv1
    subst hv1
    have HV0 := hid hv0
    have hbd : But (fun k => k = g) w w1 := hb1.mono fun k _ e => by have e : some g = some k := e; injection e with e; exact e.symm
    have hX1 := HM.out.bx.but hbd fun e => HGb.out e.symm
    have HX1 := hid hX1
    have HBd := hid hbd
    have HR1 := hid hR1
    have d3 := hX1.cell 4
    have dl := hX1.lt
    have df := hX1.frozen
    simp at d3
    clear hb1 hbd hv0 hR1 HWo hX1 c3 cl cf hx hg hfz
    go_upto_region 5 with fail
    obtain ⟨W5, hW5⟩ : ∃ W, W = w1.setCell ⟨b, 4, none⟩ (.slice p1 L.length c1) := ⟨_, rfl⟩
    have hbt : But (fun k => k = b) w1 W5 := by rw [hW5]; exact (But.one _ _).setAt _ _
    have HQ : Hid (NextQ w Z b R (.returned (.tuple #[x.val, .bool true])) W5) := by
      have hrd : x.zs :: L.map BS.zs = R.rd := HM.out.rd
      have hb2 : But (fun k => k = g ∨ k = b) w W5 := (HBd.out.mono fun k _ e => .inl e).trans (hbt.mono fun k _ e => .inr e)
      have hgz : ∀ k, v.ownBlock = some k → k = g := fun k e => by rw [HV2.out] at e; injection e with e; exact e.symm
      have hgv : v.ownBlock = some g := by rw [HV2.out]; rfl
      have hgz2 : ¬ Zr Z b mb g := HM.out.row.z g hgv
      have hmb := HM.out.z
      have hml := HM.out.mp.lt
      have keepB : ∀ y : BS, y.In w (fun k => ¬ Zr Z b mb k ∧ v.ownBlock ≠ some k) → y.In W5 (fun k => ¬ Zr Z b mb k ∧ v.ownBlock ≠ some k) := fun y hy => hy.kept hb2.size fun k hk hl => hb2.block k hl fun e => e.elim (fun e => hk.2 (by rw [e]; exact hgv)) (fun e => hk.1 (.inr (.inl e)))
      have hok := HM.out.ok
      refine ⟨fun e => (by rw [e] at hrd; cases hrd), fun m r e => ⟨x, rfl, ?_, ?_, ⟨mb, .slice p1 L.length c1, E, L, ?_, ?_, ?_, fun p hp => ?_, HM.out.kp, ?_, hmb, ?_⟩, ?_⟩⟩
      · rw [e] at hrd; exact (List.cons.inj hrd).1
      · exact (keepB x HIn.out).mono fun k hk _ e => hk.1 (.inl e)
      · rw [hW5]; exact HX1.out.set 4 _
      · exact HM.out.mp.kept (hb2.block mb hml fun e => e.elim (fun e => hgz2 (.inr (.inr e.symm))) fun e => hmb.2.2 e.symm)
      · exact HR1.out.but (hbt.mono fun k _ e => .inr (.inl e)) fun _ _ h => h
      · refine (keepB p.2 (HM.out.ent p (by exact hp))).mono fun k hk _ => ⟨hk.1, fun e => hk.2 ?_⟩
        rw [HV0.out] at e
        rw [HV2.out]
        exact e
      · rw [e] at hrd; exact (List.cons.inj hrd).2
      · refine ⟨hok.ln, hok.wi, hok.wt, ?_, fun q hq => hok.rz q (by rw [e]; exact List.mem_cons_of_mem _ hq), hok.wd, hok.kp⟩
        have h1 := hok.rd
        rw [e, List.length_cons] at h1
        show r.length + 1 ≤ R.wt
        omega
      · exact hb2.mono fun k _ e hz => e.elim (fun e => hgz2 (.inl (by rw [← e]; exact hz))) fun e => hmb.1 (by rw [← e]; exact hz)
    rw [← hW5]
    clear hW5 hbt
    go_wp2
    exact bodyPost_ret (v := .tuple #[x.val, .bool true]) (by simp [results, Tryd.results43, go_sem]) rfl HQ.out
end Go.Proofs.YtgnamngnmbaeeaaDoor

namespace Go.Proofs.YtgnamngnmbaeeaaDoor
open Go.RowKit
set_option maxRecDepth 8000
def laneV (zs : List Int) : Value := match readP zs with
  | none => .tuple #[.int .i64 0, .bool false, .bool false]
  | some l => .tuple #[.int .i64 (l.ln : Int), .bool (decide (l.kd = 65)), .bool true]
set_option maxHeartbeats 8000000 in
theorem lane_any (x : BS) (w : World) (S : Nat → Prop) (hx : x.In w S) (hT : Tab w) : Calls Tryd.prog 38 #[x.val] w fun e w' => e = .returned (laneV x.zs) ∧ Below w.heap.size w w' := by
  have HRd := hid (read_any x w S hx hT)
  obtain ⟨xv, hxv⟩ : ∃ xv, xv = x.val := ⟨_, rfl⟩
  rw [← hxv] at HRd ⊢
  clear hx hT hxv
  go_enter Tryd.func38, Tryd.ntmps38
  go_wp2_with fail
  refine HRd.out.mono ?_
  rintro e w1 ⟨hn, hs, hb1⟩
  have HB1 := hid hb1
  cases hr : readP x.zs with
  | none =>
    as_aux_lemma =>
      have HLn : Hid (laneV x.zs = .tuple #[.int .i64 0, .bool false, .bool false]) := by show laneV x.zs = _; unfold laneV; rw [hr]
      have he := hn hr
      subst he
      unfold letZ
      clear hr
      obtain ⟨V3, hV3⟩ : ∃ V, V = w1.alloc (.cells #[.int .u8 0, .int .i64 0, .int .i64 0, .int .i64 0, .slice none 0 0] 100) := ⟨_, rfl⟩
      have hb3 : Below w1.heap.size w1 V3 := by rw [hV3]; exact (Below.refl _ _).alloc (Nat.le_refl _) _
      obtain ⟨pb, hpb⟩ : ∃ pb, pb = w1.heap.size := ⟨_, rfl⟩
      have hX3 : Box V3 pb #[.int .u8 0, .int .i64 0, .int .i64 0, .int .i64 0, .slice none 0 0] 100 := by rw [hV3, hpb]; exact Box.new _ _ _
      have HB3 : Hid (Below w.heap.size w V3) := HB1.out.trans (hb3.mono HB1.out.size)
      have HV3 := hid hV3
      have HPb := hid hpb
      have z0 := hX3.cell 0
      have z1 := hX3.cell 1
      have zl := hX3.lt
      simp at z0 z1
      clear hn hs hb1 hV3 hb3 hpb hX3 HRd
      go_upto_region 2 with fail
      rw [← HV3.out, ← HPb.out]
      have E0 := fun u : BW V3 => u.fact z0 zl
      have E1 := fun u : BW V3 => u.fact z1 zl
      refine wp_region_bw V3 (Below.refl _ _).drew (by kernel_rfl) (by kernel_rfl) ?_
      repeat (go_big_quiet_step (fail))
      refine wpQuiet_nil ?_
      rintro w4 ⟨u0, hw0⟩
      have hb4 : Below V3.heap.size V3 w4 := by rw [hw0]; exact u0.prop
      clear hw0 u0 E0 E1
      have HB4 : Hid (Below w.heap.size w w4) := HB3.out.trans (hb4.mono HB3.out.size)
      clear hb4 z0 z1 zl
      go_wp2
      exact bodyPost_ret (v := .tuple #[.int .i64 0, .bool false, .bool false]) (by simp [results, Tryd.results38, go_sem]) rfl ⟨by rw [HLn.out], HB4.out⟩
  | some l =>
    as_aux_lemma =>
      have HLn : Hid (laneV x.zs = .tuple #[.int .i64 (l.ln : Int), .bool (decide (l.kd = 65)), .bool true]) := by show laneV x.zs = _; unfold laneV; rw [hr]
      obtain ⟨y, hy1, hy2, rfl⟩ := hs l hr
      obtain ⟨yp, yc, yz⟩ := y
      dsimp only [BS.val]
      obtain ⟨kd, hkd⟩ : ∃ kd, kd = l.kd := ⟨_, rfl⟩
      rw [← hkd] at HLn ⊢
      obtain ⟨B, hB⟩ : ∃ B, B = decide (kd = 65) := ⟨_, rfl⟩
      have hkb : (kd == 65) = B := hB.symm ▸ rfl
      rw [← hB] at HLn
      clear hr hy1 hy2 hkd
      obtain ⟨V3, hV3⟩ : ∃ V, V = w1.alloc (.cells #[.int .u8 kd, .int .i64 (l.ln : Int), .int .i64 (l.nu : Int), .int .i64 (l.wd : Int), .slice yp yz.length yc] 100) := ⟨_, rfl⟩
      have hb3 : Below w1.heap.size w1 V3 := by rw [hV3]; exact (Below.refl _ _).alloc (Nat.le_refl _) _
      obtain ⟨pb, hpb⟩ : ∃ pb, pb = w1.heap.size := ⟨_, rfl⟩
      have hX3 : Box V3 pb #[.int .u8 kd, .int .i64 (l.ln : Int), .int .i64 (l.nu : Int), .int .i64 (l.wd : Int), .slice yp yz.length yc] 100 := by rw [hV3, hpb]; exact Box.new _ _ _
      have HB3 : Hid (Below w.heap.size w V3) := HB1.out.trans (hb3.mono HB1.out.size)
      have HV3 := hid hV3
      have HPb := hid hpb
      have z0 := hX3.cell 0
      have z1 := hX3.cell 1
      have zl := hX3.lt
      simp at z0 z1
      clear hn hs hb1 hV3 hb3 hpb hX3 HRd
      go_upto_region 2 with fail
      rw [← HV3.out, ← HPb.out]
      have E0 := fun u : BW V3 => u.fact z0 zl
      have E1 := fun u : BW V3 => u.fact z1 zl
      refine wp_region_bw V3 (Below.refl _ _).drew (by kernel_rfl) (by kernel_rfl) ?_
      repeat (go_big_quiet_step (fail))
      refine wpQuiet_nil ?_
      rintro w4 ⟨u0, hw0⟩
      have hb4 : Below V3.heap.size V3 w4 := by rw [hw0]; exact u0.prop
      clear hw0 u0 E0 E1
      have HB4 : Hid (Below w.heap.size w w4) := HB3.out.trans (hb4.mono HB3.out.size)
      clear hb4 z0 z1 zl
      go_wp2
      exact bodyPost_ret (v := .tuple #[.int .i64 (l.ln : Int), .bool B, .bool true]) (by simp [results, Tryd.results38, go_sem, hB]) rfl ⟨by rw [HLn.out], HB4.out⟩
end Go.Proofs.YtgnamngnmbaeeaaDoor
