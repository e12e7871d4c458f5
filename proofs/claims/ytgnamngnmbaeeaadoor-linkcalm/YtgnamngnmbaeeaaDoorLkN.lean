import Derived.Test.YtgnamngnmbaeeaaDoorPack16
namespace Go.Proofs.YtgnamngnmbaeeaaDoor
open Go.RowKit
set_option maxRecDepth 8000
/-- what Ack comes to -/
def ackE (A : SA) (zs : List Int) : Int := if unpE A.ln 65 zs ≠ 0 then unpE A.ln 65 zs else match readP zs with
  | none => 0
  | some l => if l.nu = 0 ∨ A.an + A.q.length + 1 < l.nu then 214 else 0
def ackN (A : SA) (zs : List Int) : SA := match readP zs with
  | none => A
  | some l => { A with q := A.q.drop (max A.an (l.nu - 1) - A.an), an := max A.an (l.nu - 1), wd := max A.wd l.wd }
def AckQ (w : World) (Z : Nat → Prop) (b : Nat) (A : SA) (zs : List Int) (e : Ending) (w' : World) : Prop :=
  e = .returned (.int .i64 (ackE A zs)) ∧ SndQ w Z b (if ackE A zs = 0 then ackN A zs else A) w'
set_option maxHeartbeats 16000000 in
theorem ack_any (w : World) (Z : Nat → Prop) (b : Nat) (A : SA) (h : SndI w Z b A) (hZ : ∀ k, Z k → k < w.heap.size) (x : BS) (S : Nat → Prop) (hx : x.In w S) (hT : Tab w) : Calls Tryd.prog 24 #[.pointer (some ⟨b, 0, none⟩), x.val] w fun e w' => AckQ w Z b A x.zs e w' := by
  have H := hid h
  have HUp := hid (unpack_any A.ln A.wi x 65 w S hx hT)
  obtain ⟨xv, hxv⟩ : ∃ xv, xv = x.val := ⟨_, rfl⟩
  rw [← hxv] at HUp ⊢
  obtain ⟨v, L, hX, hR, hq, hz, hok⟩ := h
  obtain ⟨p, c, hv⟩ := hR.slice
  subst hv
  have c0 := hX.cell 0
  have c1 := hX.cell 1
  have cl := hX.lt
  simp at c0 c1
  have HZ := hid hZ
  have HXb := hid hX
  have HR := hid hR
  have Hq := hid hq
  have Hz := hid hz
  have Hok := hid hok
  clear hZ hX hR hq hz hok hx hT hxv
  go_enter Tryd.func24, Tryd.ntmps24
  go_wp2_with fail
  refine HUp.out.mono ?_
  rintro e w1 ⟨hn, hs, hb1⟩
  have HB1 := hid hb1
  have H1 := hid (H.out.below hb1 fun _ _ h => h)
  by_cases hu : unpE A.ln 65 x.zs = 0
  case neg =>
    as_aux_lemma =>
    obtain ⟨U, hU⟩ : ∃ U, U = unpE A.ln 65 x.zs := ⟨_, rfl⟩
    have HE : Hid (ackE A x.zs = U) := by show ackE A x.zs = U; unfold ackE; rw [if_pos hu, hU]
    have he := hn hu
    subst he
    rw [← hU]
    have hub : (U != 0) = true := by rw [bne_iff_ne, hU]; exact hu
    have HU0 : Hid (¬ U = 0) := by show ¬ U = 0; rw [hU]; exact hu
    unfold letZ
    clear hn hs hb1 hu hU HUp c0 c1 cl
    obtain ⟨V3, hV3⟩ : ∃ V, V = w1.alloc (.cells #[.int .u8 0, .int .i64 0, .int .i64 0, .int .i64 0, .slice none 0 0] 100) := ⟨_, rfl⟩
    have HB3 : Hid (Below w.heap.size w V3) := HB1.out.trans (by rw [hV3]; exact ((Below.refl _ _).alloc (Nat.le_refl _) _).mono HB1.out.size)
    have HV3 := hid hV3
    clear hV3
    go_upto_region 2 with fail
    rw [← HV3.out]
    go_wp2
    exact bodyPost_ret (v := .int .i64 U) (by simp [results, Tryd.results24, go_sem]) rfl ⟨by rw [HE.out], by rw [HE.out, if_neg HU0.out]; exact H.out.same HB3.out⟩
  case pos =>
    cases hr : readP x.zs with
    | none => exfalso; unfold unpE at hu; rw [hr] at hu; cases hu
    | some l =>
      obtain ⟨y, hy1, hy2, rfl⟩ := hs l hr hu
      obtain ⟨yp, yc, yz⟩ := y
      dsimp only [BS.val]
      obtain ⟨nu, hnu⟩ : ∃ nu, nu = l.nu := ⟨_, rfl⟩
      obtain ⟨N, hN⟩ : ∃ N, N = A.an + A.q.length := ⟨_, rfl⟩
      have HE : Hid (ackE A x.zs = if nu = 0 ∨ N + 1 < nu then 214 else 0) := by show ackE A x.zs = _; unfold ackE; rw [if_neg (by simpa using hu), hr, hN, hnu]
      have HA : Hid (ackN A x.zs = { A with q := A.q.drop (max A.an (nu - 1) - A.an), an := max A.an (nu - 1), wd := max A.wd l.wd }) := by show ackN A x.zs = _; unfold ackN; rw [hr, hnu]
      rw [← hnu]
      have HNn := hid hN
      have HLo := hid (readP_ok hr)
      clear hn hs hb1 hu hr HUp hy1 hy2 hnu hN c0 c1 cl
      obtain ⟨pb, hpb⟩ : ∃ pb, pb = w1.heap.size := ⟨_, rfl⟩
      obtain ⟨V3, hV3⟩ : ∃ V, V = w1.alloc (.cells #[.int .u8 65, .int .i64 (l.ln : Int), .int .i64 (nu : Int), .int .i64 (l.wd : Int), .slice yp yz.length yc] 100) := ⟨_, rfl⟩
      have hb3 : Below w1.heap.size w1 V3 := by rw [hV3]; exact (Below.refl _ _).alloc (Nat.le_refl _) _
      have hX3 : Box V3 pb #[.int .u8 65, .int .i64 (l.ln : Int), .int .i64 (nu : Int), .int .i64 (l.wd : Int), .slice yp yz.length yc] 100 := by rw [hV3, hpb]; exact Box.new _ _ _
      have HB3 : Hid (Below w.heap.size w V3) := HB1.out.trans (hb3.mono HB1.out.size)
      have HX3 := hid hX3
      have HV3 := hid hV3
      have HPb := hid hpb
      have HPs : Hid (w.heap.size ≤ pb) := by show _ ≤ pb; rw [hpb]; exact HB1.out.size
      have z2 := hX3.cell 2
      have zl := hX3.lt
      simp at z2
      clear hb3 hX3 hV3 hpb
      go_upto_region 2 with fail
      rw [← HV3.out, ← HPb.out]
      have HLa := hid (fun (u : BW V3) => last_any u.val Z b A (H.out.below (HB3.out.trans (u.prop.mono HB3.out.size) |> fun h => (h : Below w.heap.size w u.val)) fun _ _ h => h))
      rw [← HNn.out] at HLa
      have HLc : Hid (∀ u : BW V3, Calls Tryd.prog 27 #[.pointer (some ⟨b, 0, none⟩)] u.val fun e w' => e = .returned (.int .i64 ((N : Nat) : Int)) ∧ ∃ u' : BW V3, w' = u'.val) := fun u => (HLa.out u).mono fun e w' hq => ⟨hq.1, u.ret hq.2⟩
      have hwr : wrap64 ((N : Int) + 1) = (N : Int) + 1 := by
        have h9 := Hok.out.an
        rw [← HNn.out] at h9
        unfold wrap64
        omega
      have HWr := hid hwr
      clear hwr
      go_upto_region 4 with fail
      by_cases h0 : nu = 0
      · as_aux_lemma =>
        subst h0
        have HE2 : Hid (ackE A x.zs = 214) := by show ackE A x.zs = 214; rw [HE.out]; rfl
        have E0 := fun u : BW V3 => u.fact z2 zl
        refine wp_region_bw V3 (Below.refl _ _).drew (by kernel_rfl) (by kernel_rfl) ?_
        repeat (go_big_quiet_step (fail))
        refine wpQuiet_nil ?_
        rintro w4 ⟨u0, hw0⟩
        have hb4 : Below V3.heap.size V3 w4 := by rw [hw0]; exact u0.prop
        clear hw0 u0 E0
        have HB4 := hid (HB3.out.trans (hb4.mono HB3.out.size))
        clear hb4 HE
        go_wp2
        exact bodyPost_ret (v := .int .i64 214) (by simp [results, Tryd.results24, go_sem]) rfl ⟨by rw [HE2.out], by rw [HE2.out]; exact H.out.same HB4.out⟩
      · have h0b : ((nu : Int) == 0) = false := by simp [h0]
        by_cases h1 : N + 1 < nu
        · as_aux_lemma =>
          have h1' : (N : Int) + 1 < (nu : Int) := by omega
          have HE2 : Hid (ackE A x.zs = 214) := by show ackE A x.zs = 214; rw [HE.out, if_pos (.inr h1)]
          clear h0 h1
          have hwr := HWr.out
          have E0 := fun u : BW V3 => u.fact z2 zl
          refine wp_region_bw V3 (Below.refl _ _).drew (by kernel_rfl) (by kernel_rfl) ?_
          repeat (go_big_quiet_step (fail))
          go_big_quiet_step (exact HLc.out _)
          repeat (go_big_quiet_step (fail))
          refine wpQuiet_nil ?_
          rintro w4 ⟨u0, hw0⟩
          have hb4 : Below V3.heap.size V3 w4 := by rw [hw0]; exact u0.prop
          clear hw0 u0 E0
          clear hwr
          have HB4 := hid (HB3.out.trans (hb4.mono HB3.out.size))
          clear hb4 HE
          go_wp2
          exact bodyPost_ret (v := .int .i64 214) (by simp [results, Tryd.results24, go_sem]) rfl ⟨by rw [HE2.out], by rw [HE2.out]; exact H.out.same HB4.out⟩
        · have h1' : ¬ (N : Int) + 1 < (nu : Int) := by omega
          have HE2 : Hid (ackE A x.zs = 0) := by show ackE A x.zs = 0; rw [HE.out, if_neg (by omega)]
          have Hh0 := hid h0
          have Hh1 := hid h1
          clear h0 h1
          have hwr := HWr.out
          have E0 := fun u : BW V3 => u.fact z2 zl
          refine wp_region_bw V3 (Below.refl _ _).drew (by kernel_rfl) (by kernel_rfl) ?_
          repeat (go_big_quiet_step (fail))
          go_big_quiet_step (exact HLc.out _)
          repeat (go_big_quiet_step (fail))
          refine wpQuiet_nil ?_
          rintro w4 ⟨u0, hw0⟩
          have hb4 : Below V3.heap.size V3 w4 := by rw [hw0]; exact u0.prop
          clear hw0 u0 E0
          clear hwr
          have HB4 := hid (HB3.out.trans (hb4.mono HB3.out.size))
          have HX4 := hid (HX3.out.below hb4)
          have HXb4 := hid ((HXb.out.below HB4.out))
          have HR4 := hid (HR.out.below HB4.out (Z' := fun k => Z k ∨ k = b) fun _ _ h => h)
          have z2' := HX4.out.cell 2
          have zl' := HX4.out.lt
          have a2 := HXb4.out.cell 2
          have al := HXb4.out.lt
          simp at z2' a2
          clear hb4 z2 zl HLc HLa
          obtain ⟨an, han⟩ : ∃ an, an = A.an := ⟨_, rfl⟩
          rw [← han] at a2
          have HAn := hid han
          clear han
          go_upto_region 6 with fail
          have E0 := fun u : BW w4 => u.fact z2' zl'
          have E1 := fun u : BW w4 => u.fact a2 al
          refine wp_region_bw w4 (Below.refl _ _).drew (by kernel_rfl) (by kernel_rfl) ?_
          repeat (go_big_quiet_step (fail))
          refine wpQuiet_nil ?_
          rintro w5 ⟨u0, hw0⟩
          have hb5 : Below w4.heap.size w4 w5 := by rw [hw0]; exact u0.prop
          clear hw0 u0 E0 E1
          have HB5 := hid (HB4.out.trans (hb5.mono HB4.out.size))
          have HX5 := hid (HX4.out.below hb5)
          have HXb5 := hid (HXb4.out.below hb5)
          have HR5 := hid (HR4.out.below hb5 (Z' := fun k => Z k ∨ k = b) fun _ _ h => h)
          obtain ⟨M, hM⟩ : ∃ M, M = max an (nu - 1) := ⟨_, rfl⟩
          obtain ⟨d, hd⟩ : ∃ d, d = M - an := ⟨_, rfl⟩
          have hlen : L.length = A.q.length := by rw [← Hq.out, List.length_map]
          have hnu1 := HLo.out.nu
          have hnuN : nu ≤ N + 1 := by have := Hh1.out; omega
          have hanN : an + L.length = N := by rw [HNn.out, HAn.out, hlen]
          have hnu0 : nu ≠ 0 := Hh0.out
          have hN30 : N ≤ 1073741824 := by have := Hok.out.an; rw [HNn.out]; exact this
          have hMM : M = an ∨ M = nu - 1 := by omega
          have hMa : an ≤ M := by omega
          have hMn : nu - 1 ≤ M := by omega
          have hd2 : d ≤ L.length := by omega
          have hM30 : M ≤ 1073741824 := by omega
          have hmax : (if (an : Int) < wrap64 ((nu : Int) - 1) then wrap64 ((nu : Int) - 1) else (an : Int)) = (M : Int) := by
            have hw : wrap64 ((nu : Int) - 1) = (nu : Int) - 1 := by unfold wrap64; omega
            rw [hw]
            split <;> omega
          have hsub : wrap64 ((M : Int) - (an : Int)) = (d : Int) := by unfold wrap64; omega
          rw [hmax]
          have HM := hid hM
          have Hd := hid hd
          have HSub := hid hsub
          have HWo := hid (without_any w5.drew (fun k => Z k ∨ k = b) (.slice p L.length c) L (HR5.out.below (Below.refl _ _).drew fun _ _ h => h) d hd2)
          have HMx : Hid (M ≤ 1073741824 ∧ M + (L.length - d) = N ∧ N ≤ 1073741824) := ⟨hM30, by omega, hN30⟩
          clear hb5 z2' zl' a2 al hM hd hlen hnu1 hnuN hanN hnu0 hN30 hMM hMa hMn hd2 hM30 hmax hsub
          have a2 := HXb5.out.cell 2
          have a3 := HXb5.out.cell 3
          have al := HXb5.out.lt
          simp at a2 a3
          rw [← HAn.out] at a2
          have hsub := HSub.out
          go_upto_region 7 with fail
          refine wp_region_calmE 30 (fun wx => Below w5.heap.size w5 wx) [(0, true), (1, true), (2, true), (3, true), (4, false), (5, true), (6, true), (7, true), (8, true), (9, false), (10, true)] (.one 11 false [(12, true), (13, true)] (.one 14 false [] .done)) (by kernel_rfl) (by kernel_rfl) (Below.refl _ _).drew ?_
          refine wpPre_e rfl rfl (fun K1 hK1 => ?_)
          apply Exists.intro
          refine And.intro (fun wx hx => ?_) ?_
          · go_simp
            try rfl
          go_simp
          refine hK1 _ ?_
          clear hK1 K1
          refine wpPre_e rfl rfl (fun K1 hK1 => ?_)
          apply Exists.intro
          refine And.intro (fun wx hx => ?_) ?_
          · go_simp
            try rfl
          go_simp
          refine hK1 _ ?_
          clear hK1 K1
          refine wpPre_e rfl rfl (fun K1 hK1 => ?_)
          apply Exists.intro
          refine And.intro (fun wx hx => ?_) ?_
          · go_simp
            try rfl
          go_simp
          refine hK1 _ ?_
          clear hK1 K1
          refine wpPre_e rfl rfl (fun K1 hK1 => ?_)
          apply Exists.intro
          refine And.intro (fun wx hx => ?_) ?_
          · go_simp
            try rfl
          go_simp
          refine hK1 _ ?_
          clear hK1 K1
          refine wpPre_e rfl rfl (fun K1 hK1 => ?_)
          apply Exists.intro
          refine And.intro (fun wx hx => ?_) ?_
          · have e0 := below_fact hx rfl a3
            have e1 := below_fact hx rfl a2
            go_simp
            try rfl
          go_simp
          refine hK1 _ ?_
          clear hK1 K1
          refine wpPre_e rfl rfl (fun K1 hK1 => ?_)
          apply Exists.intro
          refine And.intro (fun wx hx => ?_) ?_
          · go_simp
            try rfl
          go_simp
          refine hK1 _ ?_
          clear hK1 K1
          refine wpPre_e rfl rfl (fun K1 hK1 => ?_)
          apply Exists.intro
          refine And.intro (fun wx hx => ?_) ?_
          · go_simp
            try rfl
          go_simp
          refine hK1 _ ?_
          clear hK1 K1
          refine wpPre_e rfl rfl (fun K1 hK1 => ?_)
          apply Exists.intro
          refine And.intro (fun wx hx => ?_) ?_
          · go_simp
            try rfl
          go_simp
          refine hK1 _ ?_
          clear hK1 K1
          refine wpPre_e rfl rfl (fun K1 hK1 => ?_)
          apply Exists.intro
          refine And.intro (fun wx hx => ?_) ?_
          · go_simp
            try rfl
          go_simp
          refine hK1 _ ?_
          clear hK1 K1
          refine wpPre_e rfl rfl (fun K1 hK1 => ?_)
          apply Exists.intro
          refine And.intro (fun wx hx => ?_) ?_
          · have e0 := below_fact hx rfl a3
            have e1 := below_fact hx rfl a2
            go_simp
            try rfl
          go_simp
          refine hK1 _ ?_
          clear hK1 K1
          refine wpPre_e rfl rfl (fun K1 hK1 => ?_)
          apply Exists.intro
          refine And.intro (fun wx hx => ?_) ?_
          · go_simp
            try rfl
          go_simp
          refine hK1 _ ?_
          clear hK1 K1
          refine wpPre_nil ?_
          refine wpTr_e rfl (fun K1 hK1 => ?_)
          refine step_callG (by first | rfl | go_simp) 56 #[.tmp 43, .tmp 49] _ rfl Tryd.f56 Tryd.func56 (by kernel_rfl) rfl #[.slice p L.length c, .int .i64 (d : Int)] (by go_simp; exact (IntKind.wrap_i64 _).trans (by unfold wrap64 at hsub; exact hsub)) _ (HWo.out) ?_
          rintro e_ w6 ⟨v6, rfl, hR6, hb6, _⟩
          refine ⟨_, rfl, ?_⟩
          obtain ⟨p6, c6, hv6⟩ := hR6.slice
          subst hv6
          have hbd : But (fun k => (Value.slice p L.length c).ownBlock = some k) w5 w6 := (But.ofBelow (Below.refl _ _).drew).trans hb6
          have HXb6 := hid (HXb5.out.but hbd fun e => HR5.out.z b e (.inr rfl))
          have HP6 := hid (HX5.out.but hbd fun e => by have h1 := (HR.out.row.lt e).1; have h2 := HPs.out; omega)
          have HBd := hid hbd
          have HR6 := hid hR6
          have d3 := HXb6.out.cell 3
          have dl := HXb6.out.lt
          have df := HXb6.out.frozen
          simp at d3
          clear hb6 hbd hR6 HWo a2 a3 al
          go_simp
          refine hK1 _ _ (fun h => by cases h) ?_
          clear hK1 K1
          refine wpPre_e rfl rfl (fun K1 hK1 => ?_)
          apply Exists.intro
          refine And.intro (fun wx hx => ?_) ?_
          · go_simp
            try rfl
          go_simp
          refine hK1 _ ?_
          clear hK1 K1
          refine wpPre_e rfl rfl (fun K1 hK1 => ?_)
          apply Exists.intro
          refine And.intro (fun wx hx => ?_) ?_
          · go_simp
            try rfl
          go_simp
          refine hK1 _ ?_
          clear hK1 K1
          refine wpPre_nil ?_
          refine wpTr_e rfl (fun K1 hK1 => ?_)
          go_simp
          refine hK1 _ _ (fun h => by cases h) ?_
          clear hK1 K1
          refine wpPre_nil ?_
          refine wpTr_done ?_
          clear hsub
          obtain ⟨W7, hW7⟩ : ∃ W, W = w6.setCell ⟨b, 3, none⟩ (.slice p6 (L.length - d) c6) := ⟨_, rfl⟩
          have hbt7 : But (fun k => k = b) w6 W7 := by rw [hW7]; exact (But.one _ _).setAt _ _
          have hX7 : Box W7 b #[.int .i64 (A.ln : Int), .int .i64 (A.wi : Int), .int .i64 (A.an : Int), .slice p6 (L.length - d) c6, .int .i64 (A.wd : Int)] 67 := by rw [hW7]; exact HXb6.out.set 3 _
          have hP7 : Box W7 pb #[.int .u8 65, .int .i64 (l.ln : Int), .int .i64 (nu : Int), .int .i64 (l.wd : Int), .slice yp yz.length yc] 100 := HP6.out.but hbt7 fun e => by have e' : pb = b := e; have h1 := HXb.out.lt; have h2 := HPs.out; omega
          have HBt7 := hid hbt7
          have HX7 := hid hX7
          have HP7 := hid hP7
          rw [← hW7]
          have b2 := hX7.cell 2
          have bl := hX7.lt
          have bf := hX7.frozen
          simp at b2
          clear hW7 hbt7 hX7 hP7 df d3 dl
          obtain ⟨W8, hW8⟩ : ∃ W, W = W7.setCell ⟨b, 2, none⟩ (.int .i64 (M : Int)) := ⟨_, rfl⟩
          have HW8 := hid hW8
          have hbt8 : But (fun k => k = b) W7 W8 := by rw [hW8]; exact (But.one _ _).setAt _ _
          have HX8 : Hid (Box W8 b #[.int .i64 (A.ln : Int), .int .i64 (A.wi : Int), .int .i64 (M : Int), .slice p6 (L.length - d) c6, .int .i64 (A.wd : Int)] 67) := by show Box _ _ _ _; rw [hW8]; exact HX7.out.set 2 _
          have HP8 := hid (HP7.out.but hbt8 fun e => by have e' : pb = b := e; have h1 := HXb.out.lt; have h2 := HPs.out; omega)
          have HBt8 := hid hbt8
          clear hW8 hbt8
          go_upto_region 9 with fail
          rw [← HW8.out]
          clear b2 bl bf
          have e4 := HX8.out.cell 4
          have el := HX8.out.lt
          have ef := HX8.out.frozen
          have p3_ := HP8.out.cell 3
          have pl_ := HP8.out.lt
          simp at e4 p3_
          obtain ⟨wd, hwd⟩ : ∃ wd, wd = A.wd := ⟨_, rfl⟩
          obtain ⟨lw, hlw⟩ : ∃ lw, lw = l.wd := ⟨_, rfl⟩
          have HWd := hid hwd
          have HLw := hid hlw
          rw [← hwd] at e4
          rw [← hlw] at p3_
          clear hwd hlw
          refine wp_region_calmE 30 (fun wx => Below W8.heap.size W8 wx) [(0, true), (1, true), (2, true), (3, true), (4, false), (5, true), (6, false), (7, true), (8, true), (9, true)] (.one 10 false [] .done) (by kernel_rfl) (by kernel_rfl) (Below.refl _ _).drew ?_
          refine wpPre_e rfl rfl (fun K1 hK1 => ?_)
          apply Exists.intro
          refine And.intro (fun wx hx => ?_) ?_
          · go_simp
            try rfl
          go_simp
          refine hK1 _ ?_
          clear hK1 K1
          refine wpPre_e rfl rfl (fun K1 hK1 => ?_)
          apply Exists.intro
          refine And.intro (fun wx hx => ?_) ?_
          · go_simp
            try rfl
          go_simp
          refine hK1 _ ?_
          clear hK1 K1
          refine wpPre_e rfl rfl (fun K1 hK1 => ?_)
          apply Exists.intro
          refine And.intro (fun wx hx => ?_) ?_
          · go_simp
            try rfl
          go_simp
          refine hK1 _ ?_
          clear hK1 K1
          refine wpPre_e rfl rfl (fun K1 hK1 => ?_)
          apply Exists.intro
          refine And.intro (fun wx hx => ?_) ?_
          · go_simp
            try rfl
          go_simp
          refine hK1 _ ?_
          clear hK1 K1
          refine wpPre_e rfl rfl (fun K1 hK1 => ?_)
          apply Exists.intro
          refine And.intro (fun wx hx => ?_) ?_
          · have e0 := below_fact hx rfl e4
            have e1 := below_fact hx rfl p3_
            go_simp
            try rfl
          go_simp
          refine hK1 _ ?_
          clear hK1 K1
          refine wpPre_e rfl rfl (fun K1 hK1 => ?_)
          apply Exists.intro
          refine And.intro (fun wx hx => ?_) ?_
          · go_simp
            try rfl
          go_simp
          refine hK1 _ ?_
          clear hK1 K1
          refine wpPre_e rfl rfl (fun K1 hK1 => ?_)
          apply Exists.intro
          refine And.intro (fun wx hx => ?_) ?_
          · have e0 := below_fact hx rfl e4
            have e1 := below_fact hx rfl p3_
            go_simp
            try rfl
          go_simp
          refine hK1 _ ?_
          clear hK1 K1
          refine wpPre_e rfl rfl (fun K1 hK1 => ?_)
          apply Exists.intro
          refine And.intro (fun wx hx => ?_) ?_
          · go_simp
            try rfl
          go_simp
          refine hK1 _ ?_
          clear hK1 K1
          refine wpPre_e rfl rfl (fun K1 hK1 => ?_)
          apply Exists.intro
          refine And.intro (fun wx hx => ?_) ?_
          · go_simp
            try rfl
          go_simp
          refine hK1 _ ?_
          clear hK1 K1
          refine wpPre_e rfl rfl (fun K1 hK1 => ?_)
          apply Exists.intro
          refine And.intro (fun wx hx => ?_) ?_
          · go_simp
            try rfl
          go_simp
          refine hK1 _ ?_
          clear hK1 K1
          refine wpPre_nil ?_
          refine wpTr_e rfl (fun K1 hK1 => ?_)
          go_simp
          refine hK1 _ _ (fun h => by cases h) ?_
          clear hK1 K1
          refine wpPre_nil ?_
          refine wpTr_done ?_
          obtain ⟨X, hXm⟩ : ∃ X, X = max wd lw := ⟨_, rfl⟩
          have hmax : (if wd < lw then (lw : Int) else (wd : Int)) = (X : Int) := by split <;> omega
          obtain ⟨W9, hW9⟩ : ∃ W, W = (W8.setCell ⟨b, 4, none⟩ (.int .i64 (X : Int))).drew := ⟨_, rfl⟩
          have hbt9 : But (fun k => k = b) W8 W9 := by rw [hW9]; exact ((But.one _ _).setAt _ _).trans (But.ofBelow (Below.refl _ _).drew)
          have hX9 : Box W9 b #[.int .i64 (A.ln : Int), .int .i64 (A.wi : Int), .int .i64 (M : Int), .slice p6 (L.length - d) c6, .int .i64 (X : Int)] 67 := by rw [hW9]; exact HX8.out.set 4 _
          have HQ : Hid (AckQ w Z b A x.zs (.returned (.int .i64 0)) W9) := by
            refine ⟨by rw [HE2.out], ?_⟩
            rw [HE2.out, if_pos rfl, HA.out, ← HAn.out, ← HM.out, ← Hd.out, ← HWd.out, ← HLw.out, ← hXm]
            have hall : But (fun k => Z k ∨ k = b → False) w6 W9 ∨ True := .inr trivial
            have hb69 : But (fun k => k = b) w6 W9 := (HBt7.out.trans HBt8.out).trans hbt9
            have hrl : (L.drop d).length = L.length - d := List.length_drop
            refine ⟨⟨.slice p6 (L.length - d) c6, L.drop d, hX9, ?_, by rw [List.map_drop, Hq.out], Hz.out, ?_⟩, ?_⟩
            · have h := HR6.out.but (hb69.mono fun k _ e => .inr e) (Z' := fun k => Z k ∨ k = b) fun _ _ h => h
              rw [hrl] at h
              exact h
            · have h := Hok.out
              obtain ⟨m1, m2, m3⟩ := HMx.out
              have hlen : L.length = A.q.length := by rw [← Hq.out, List.length_map]
              refine ⟨h.ln, h.wi, ?_, fun y hy => h.q y (List.mem_of_mem_drop hy), ?_⟩
              · show M + (A.q.drop d).length ≤ _
                rw [List.length_drop, ← hlen]
                omega
              · show X ≤ _
                have h1 := h.wd
                have h2 := HLo.out.wd
                have h3 := HWd.out
                have h4 := HLw.out
                omega
            · refine (Fr.below HB5.out).trans ((HBd.out.mono fun k _ e => ?_ : Fr Z w5 w6).trans (hb69.mono fun k _ e => ?_))
              · exact fun hz => HR5.out.z k e (.inl hz)
              · have e' : k = b := e
                subst e'
                exact Hz.out
          rw [hmax, ← hW9]
          clear hW9 hbt9 hX9 hmax hXm
          go_wp2
          exact bodyPost_ret (v := .int .i64 0) (by simp [results, Tryd.results24, go_sem]) rfl HQ.out
end Go.Proofs.YtgnamngnmbaeeaaDoor
