import Derived.Test.YtebiidfdokhpaabGreatDoorPack16
import Derived.Test.YtebiidfdokhpaabGreatDoorFaJ
namespace Go.Proofs.YtebiidfdokhpaabGreatDoor
open Go.RowKit
set_option maxRecDepth 8000
/-- behind Read -/
def RdQ (R : RK) (s : ByteArray) (w : World) (e : Ending) (w' : World) : Prop :=
  Below w.heap.size w w' ∧ ((ahE R s false ≠ 0 ∧ e = .returned (.tuple #[.slice none 0 0, .int .i64 (ahE R s false)])) ∨
  (ahE R s false = 0 ∧ R.no s ∧ e = .returned (.tuple #[.slice none 0 0, .int .i64 103])) ∨
  (ahE R s false = 0 ∧ ∃ i f p c, R.is s i f ∧ e = .returned (.tuple #[.slice p (f.su ++ f.lo).length c, .int .i64 0]) ∧ OwnBy w.heap.size w' (.slice p (f.su ++ f.lo).length c) (f.su ++ f.lo)))
theorem ahR_false (R : RK) (s : ByteArray) : ahR R s false = R := by simp [ahR]
theorem rahead0_any (R : RK) (s : ByteArray) (w : World) (C : Nat → Prop) (rb : Nat) (hR : RkI w C rb R) (hmx : s.size ≤ 140737488355328) :
    Calls Tryz.prog 27 #[.pointer (some ⟨rb, 0, none⟩), .string s, .bool false] w fun e w' => e = .returned (.int .i64 (ahE R s false)) ∧ w' = w := by
  have r1 := hR.bx.cell 1
  simp at r1
  go_enter Tryz.func27, Tryz.ntmps27
  go_wp2_with fail
  refine (named_any s w hmx).mono ?_
  rintro e w2 ⟨rfl, hw2⟩
  obtain rfl := hw2.symm
  cases hnb : nmB s with
  | false =>
    have HE : Hid (ahE R s false = 102) := by show ahE R s false = 102; simp [ahE, hnb]
    go_wp2
    exact bodyPost_ret (v := .int .i64 102) (by simp [results, Tryz.results27, go_sem]) rfl ⟨by rw [HE.out], rfl⟩
  | true =>
    cases hd : R.down with
    | true =>
      have HE : Hid (ahE R s false = 100) := by show ahE R s false = 100; simp [ahE, hnb, hd]
      rw [hd] at r1
      go_wp2
      exact bodyPost_ret (v := .int .i64 100) (by simp [results, Tryz.results27, go_sem]) rfl ⟨by rw [HE.out], rfl⟩
    | false =>
      have HE : Hid (ahE R s false = 0) := by show ahE R s false = 0; simp [ahE, hnb, hd]
      rw [hd] at r1
      go_wp2
      exact bodyPost_ret (v := .int .i64 0) (by simp [results, Tryz.results27, go_sem]) rfl ⟨by rw [HE.out], rfl⟩
set_option maxHeartbeats 8000000 in
theorem rread_any (R : RK) (s : ByteArray) (w2 : World) (C : Nat → Prop) (rb : Nat) (hR : RkI w2 C rb R) (hmx : s.size ≤ 140737488355328) :
    Calls Tryz.prog 43 #[.pointer (some ⟨rb, 0, none⟩), .string s] w2 fun e w' => RdQ R s w2 e w' := by
  obtain ⟨i0, Kd⟩ := kindB
  have HKd := hid Kd
  have HIk := hid hR
  have HA := hid (rahead0_any R s w2 C rb hR hmx)
  have HFd := hid (rfindK_any R s w2 C rb hR)
  clear hR Kd
  go_enter Tryz.func43, Tryz.ntmps43
  go_wp2_with fail
  refine HA.out.mono ?_
  rintro e w3 ⟨rfl, hw3⟩
  obtain rfl := hw3.symm
  obtain ⟨q, hq⟩ : ∃ q, q = ahE R s false := ⟨_, rfl⟩
  rw [← hq]
  have HQ := hid hq
  clear hq HA
  by_cases h0 : q = 0
  case neg =>
    have h0' : (q == 0) = false := by simpa using h0
    have H0 := hid h0
    clear h0
    go_wp2
    exact bodyPost_ret (v := .tuple #[.slice none 0 0, .int .i64 q]) (by simp [results, Tryz.results43, go_sem]) rfl (⟨Below.refl _ _, .inl ⟨by rw [← HQ.out]; exact H0.out, by rw [← HQ.out]⟩⟩)
  case pos =>
    subst h0
    go_wp2_with fail
    refine HFd.out.mono ?_
    rintro e w3 ⟨hw3, hf⟩
    obtain rfl := hw3.symm
    rcases hf with ⟨hno, rfl⟩ | ⟨i, f, hi, rfl⟩
    · have HNo := hid hno
      clear hno HFd
      go_wp2
      exact bodyPost_ret (v := .tuple #[.slice none 0 0, .int .i64 103]) (by simp [results, Tryz.results43, go_sem]) rfl (⟨Below.refl _ _, .inr (.inl ⟨HQ.out.symm, HNo.out, rfl⟩)⟩)
    · have HIs := hid hi
      obtain ⟨g, hp, hab, hrg, hil, hnl, hF, hAt⟩ := HIk.out.getAt hi
      have HF := hid hF
      have HAt := hid hAt
      have HAb := hid hab
      have hi0 : ¬ (i : Int) < 0 := by omega
      have hil' : (i : Int) < (R.fs.length : Int) := by omega
      have hle := HF.out.le
      obtain ⟨r0, rl, a0, a1, a2, gf, gl⟩ := HAt.out
      have HFr := hid (rfreshT f.sp f.sc f.su f.su.length w2.drew HF.out.s (fun z hz => HF.out.by_ z (List.mem_append_left _ hz)) (Nat.le_refl _) (by omega))
      rw [List.take_length] at HFr
      clear hi HFd hp hab hF hAt gf
      go_upto_region 7 with fail
      refine wp_region_calmE 30 (fun wx => Below w2.heap.size w2 wx) [(0, true), (1, true), (2, true), (3, false), (4, true), (5, true), (6, true), (7, false), (8, true), (9, true), (10, true), (11, false), (12, true), (13, true), (14, true), (15, false), (16, true)] (.one 17 false [(18, true)] .done) (by kernel_rfl) (by kernel_rfl) (Below.refl _ _).drew ?_
      refine wpPre_e rfl rfl (fun K1 hK1 => ?_)
      apply Exists.intro
      refine And.intro (fun wx hx => ?_) ?_
      · go_simp
        try rfl
      go_simp
      refine hK1 _ ?_
      clear hK1 K1
      refine wpPre_e rfl rfl (fun K1 hK1 => ?_)
      apply Exists.intro
      refine And.intro (fun wx hx => ?_) ?_
      · go_simp
        try rfl
      go_simp
      refine hK1 _ ?_
      clear hK1 K1
      refine wpPre_e rfl rfl (fun K1 hK1 => ?_)
      apply Exists.intro
      refine And.intro (fun wx hx => ?_) ?_
      · go_simp
        try rfl
      go_simp
      refine hK1 _ ?_
      clear hK1 K1
      refine wpPre_e rfl rfl (fun K1 hK1 => ?_)
      apply Exists.intro
      refine And.intro (fun wx hx => ?_) ?_
      · have e0 := below_fact hx rfl r0
        go_simp
        try rfl
      go_simp
      refine hK1 _ ?_
      clear hK1 K1
      refine wpPre_e rfl rfl (fun K1 hK1 => ?_)
      apply Exists.intro
      refine And.intro (fun wx hx => ?_) ?_
      · go_simp
        try rfl
      go_simp
      refine hK1 _ ?_
      clear hK1 K1
      refine wpPre_e rfl rfl (fun K1 hK1 => ?_)
      apply Exists.intro
      refine And.intro (fun wx hx => ?_) ?_
      · go_simp
        try rfl
      go_simp
      refine hK1 _ ?_
      clear hK1 K1
      refine wpPre_e rfl rfl (fun K1 hK1 => ?_)
      apply Exists.intro
      refine And.intro (fun wx hx => ?_) ?_
      · go_simp
        try rfl
      go_simp
      refine hK1 _ ?_
      clear hK1 K1
      refine wpPre_e rfl rfl (fun K1 hK1 => ?_)
      apply Exists.intro
      refine And.intro (fun wx hx => ?_) ?_
      · have e0 := below_fact hx rfl a1
        go_simp
        try rfl
      go_simp
      refine hK1 _ ?_
      clear hK1 K1
      refine wpPre_e rfl rfl (fun K1 hK1 => ?_)
      apply Exists.intro
      refine And.intro (fun wx hx => ?_) ?_
      · go_simp
        try rfl
      go_simp
      refine hK1 _ ?_
      clear hK1 K1
      refine wpPre_e rfl rfl (fun K1 hK1 => ?_)
      apply Exists.intro
      refine And.intro (fun wx hx => ?_) ?_
      · go_simp
        try rfl
      go_simp
      refine hK1 _ ?_
      clear hK1 K1
      refine wpPre_e rfl rfl (fun K1 hK1 => ?_)
      apply Exists.intro
      refine And.intro (fun wx hx => ?_) ?_
      · go_simp
        try rfl
      go_simp
      refine hK1 _ ?_
      clear hK1 K1
      refine wpPre_e rfl rfl (fun K1 hK1 => ?_)
      apply Exists.intro
      refine And.intro (fun wx hx => ?_) ?_
      · have e0 := below_fact hx rfl r0
        go_simp
        try rfl
      go_simp
      refine hK1 _ ?_
      clear hK1 K1
      refine wpPre_e rfl rfl (fun K1 hK1 => ?_)
      apply Exists.intro
      refine And.intro (fun wx hx => ?_) ?_
      · go_simp
        try rfl
      go_simp
      refine hK1 _ ?_
      clear hK1 K1
      refine wpPre_e rfl rfl (fun K1 hK1 => ?_)
      apply Exists.intro
      refine And.intro (fun wx hx => ?_) ?_
      · go_simp
        try rfl
      go_simp
      refine hK1 _ ?_
      clear hK1 K1
      refine wpPre_e rfl rfl (fun K1 hK1 => ?_)
      apply Exists.intro
      refine And.intro (fun wx hx => ?_) ?_
      · go_simp
        try rfl
      go_simp
      refine hK1 _ ?_
      clear hK1 K1
      refine wpPre_e rfl rfl (fun K1 hK1 => ?_)
      apply Exists.intro
      refine And.intro (fun wx hx => ?_) ?_
      · have e0 := below_fact hx rfl a1
        go_simp
        try rfl
      go_simp
      refine hK1 _ ?_
      clear hK1 K1
      refine wpPre_e rfl rfl (fun K1 hK1 => ?_)
      apply Exists.intro
      refine And.intro (fun wx hx => ?_) ?_
      · go_simp
        try rfl
      go_simp
      refine hK1 _ ?_
      clear hK1 K1
      refine wpPre_nil ?_
      refine wpTr_e rfl (fun K1 hK1 => ?_)
      refine step_callG (by first | rfl | go_simp) 24 #[.tmp 27, .const (.int .i64 0), .tmp 36] _ rfl Tryz.f24 Tryz.func24 (by kernel_rfl) rfl #[.slice f.sp f.su.length f.sc, .int .i64 0, .int .i64 (f.su.length : Int)] rfl _ (HFr.out) ?_
      rintro e_ w4 ⟨p4, c4, rfl, ho4, hb4⟩
      refine ⟨_, rfl, ?_⟩
      have HO4 := hid ho4
      have HB4 : Hid (Below w2.heap.size w2 w4) := (Below.refl _ _).drew.trans hb4
      clear ho4 hb4
      go_simp
      refine hK1 _ _ (fun h => by cases h) ?_
      clear hK1 K1
      refine wpPre_e rfl rfl (fun K1 hK1 => ?_)
      apply Exists.intro
      refine And.intro (fun wx hx => ?_) ?_
      · go_simp
        try rfl
      go_simp
      refine hK1 _ ?_
      clear hK1 K1
      refine wpPre_nil ?_
      refine wpTr_done ?_
      have HA4 := hid (HIk.out.moveAt HIs.out HAb.out HAt.out (But.ofBelow HB4.out))
      have hs4 := HB4.out.size
      have HO5 : Hid (w4.ownsRow w2.heap.size 5 1 (.slice p4 f.su.length c4) f.su.length (f.su.map (Value.int .u8))) := HO4.out
      have HSrc : Hid (Src w4 f.lp f.lo.length f.lc 1 (f.lo.map (Value.int .u8))) := (HF.out.l.below HB4.out).src rfl
      clear r0 rl a0 a1 a2 gl
      obtain ⟨r0, rl, a0, a1, a2, gf, gl⟩ := HA4.out
      clear gf a0 a1
      go_wp2_with (at_builtin; refine wpList_appS rfl (.tmp 38) (.tmp 46) 31 5 i0 _ 1 1 HKd.out rfl w2.heap.size _ f.su.length _ rfl HO5.out f.lp f.lo.length f.lc _ rfl HSrc.out (one_u8 f.lo) (by omega) (by omega) hs4 ?_)
      intro v5 w5 ho hg hn
      obtain ⟨p5, c5, hv5⟩ := ownsRow_slice ho
      subst hv5
      have HO6 : Hid (OwnBy w2.heap.size w5 (.slice p5 (f.su ++ f.lo).length c5) (f.su ++ f.lo)) := by
        have h := OwnBy.app (zs := f.su) (ys := f.lo) HO4.out ho
        show OwnBy _ _ _ _
        rw [List.length_append]
        exact h
      have HB6 : Hid (Below w2.heap.size w2 w5) := HB4.out.grown hg hs4 (fun k hk => (HO4.out.lt k hk).1)
      have hln : (f.su ++ f.lo).length = f.su.length + f.lo.length := List.length_append
      have HLn := hid hln
      clear ho hg hn hln r0 rl a2 gl
      go_wp2
      refine bodyPost_ret (v := .tuple #[.slice p5 (f.su.length + f.lo.length) c5, .int .i64 0]) (by simp [results, Tryz.results43, go_sem]) rfl ⟨HB6.out, .inr (.inr ⟨HQ.out.symm, i, f, p5, c5, HIs.out, ?_, HO6.out⟩)⟩
      rw [HLn.out]
/-- the names of a disk's files, in their order -/
def RlQ (R : RK) (w : World) (e : Ending) (w' : World) : Prop :=
  Below w.heap.size w w' ∧ ((R.down = true ∧ e = .returned (.tuple #[.slice none 0 0, .int .i64 100])) ∨
  (R.down = false ∧ ∃ u : LT ByteArray, e = .returned (.tuple #[.slice u.p u.n u.c, .int .i64 0]) ∧ LT.In elStr w' (fun k => w.heap.size ≤ k) u ∧ u.n = R.fs.length ∧ ∀ j f, R.fs[j]? = some f → u.item j = f.name))
set_option maxHeartbeats 8000000 in
theorem rlist_any (R : RK) (w : World) (C : Nat → Prop) (rb : Nat) (hR : RkI w C rb R) :
    Calls Tryz.prog 45 #[.pointer (some ⟨rb, 0, none⟩)] w fun e w' => RlQ R w e w' := by
  obtain ⟨i0, Kd⟩ := kindStrs
  have HKd := hid Kd
  have HIk := hid hR
  have r1 := hR.bx.cell 1
  simp at r1
  have hnl := hR.n
  clear hR Kd
  cases hd : R.down with
  | true =>
    rw [hd] at r1
    go_enter Tryz.func45, Tryz.ntmps45
    go_wp2
    exact bodyPost_ret (v := .tuple #[.slice none 0 0, .int .i64 100]) (by simp [results, Tryz.results45, go_sem]) rfl ⟨Below.refl _ _, .inl ⟨hd, rfl⟩⟩
  | false =>
    rw [hd] at r1
    have HD := hid hd
    clear hd
    go_enter Tryz.func45, Tryz.ntmps45
    go_wp2_with fail
    go_loopw [4, 5] (fun v x wr => ∃ (i : Nat) (g : Nat → ByteArray), i ≤ R.fs.length ∧ x = .int .i64 (i : Int) ∧ OwnL elStr w.heap.size wr v i g ∧ (∀ j f, j < i → R.fs[j]? = some f → g j = f.name) ∧ Below w.heap.size w wr) (fun _ x _ => R.fs.length - (intOf x).toNat)
    case atStart => exact ⟨0, fun _ => ⟨#[]⟩, Nat.zero_le _, rfl, ⟨World.ownsRow_nil _ _ _ _, fun j hj => absurd hj (by omega)⟩, fun j f hj => absurd hj (by omega), Below.refl _ _⟩
    case round =>
      obtain ⟨i, g, hi, rfl, hO, hg, hbw⟩ := hrel
      have HO := hid hO
      have HG := hid hg
      have HBw := hid hbw
      clear hO hg hbw
      have HRr := hid (HIk.out.below HBw.out)
      have r0 := HRr.out.bx.cell 0
      have rl := HRr.out.bx.lt
      simp at r0
      by_cases hlt : i < R.fs.length
      · have hlt' : (i : Int) < (R.fs.length : Int) := by omega
        obtain ⟨x, hx⟩ : ∃ x, R.fs[i]? = some x := ⟨_, List.getElem?_eq_getElem hlt⟩
        obtain ⟨bb, hp, _, hbb, _, _, _, hat⟩ := HRr.out.at_ hx
        rw [hp] at r0
        have a0 : wr.cell? ⟨bb, i * 3, none⟩ = some (.string x.name) := hat 0 (by omega)
        have HXk := hid hx
        have hxn : x.name.size ≤ 140737488355328 := by have := (HRr.out.each x (List.mem_of_getElem? hx)).nm.le; omega
        clear hat hp hx
        have hal : Below wr.heap.size wr (wr.alloc (.cells #[.string x.name] 9)) := (Below.refl _ _).alloc (Nat.le_refl _) _
        have HOa := hid (HO.out.keep hal.size fun k _ hl => hal.block k hl)
        have hnw : ∀ j u', [Value.string x.name][j]? = some u' → (wr.alloc (.cells #[.string x.name] 9)).cell? ((⟨wr.heap.size, 0, none⟩ : Addr).add j) = some u' := fun j u' hu => by
          rw [Go.WideShapes.add_plain, (Box.new wr #[.string x.name] 9).cell]
          rw [show 0 + j = j by omega]
          simpa using hu
        have hszq := HBw.out.size
        have HNw := hid hnw
        clear hnw hal
        go_wp2_with (at_builtin; refine wpList_app rfl (.tmp 19) (.tmp 28) 99 9 i0 _ 1 16 HKd.out rfl w.heap.size _ i _ rfl HOa.out.own ⟨wr.heap.size, 0, none⟩ 1 1 [.string x.name] rfl rfl HNw.out (fun u hu => by obtain rfl := List.mem_singleton.1 hu; rfl) (by omega) (by omega) (by simp; omega) ?_)
        intro vn wn hon hgn hnn2
        have HOn := hid (HOa.out.push (u := x.name) hxn hon hgn hnn2)
        have HBn : Hid (Below w.heap.size w wn) := (HBw.out.trans (((Below.refl _ _).alloc (Nat.le_refl _) _).mono HBw.out.size)).grown hgn (by simp; omega) (fun g hg => (HOa.out.own.lt g (by first | exact hg | (simpa using hg))).1)
        have HGn : Hid (∀ j f, j < i + 1 → R.fs[j]? = some f → (if j < i then g j else x.name) = f.name) := fun j f hj hf => by
          by_cases h : j < i
          · rw [if_pos h]; exact HG.out j f h hf
          · obtain rfl : j = i := by omega
            rw [if_neg h]
            exact congrArg RF.name (Option.some.inj (HXk.out.symm.trans hf))
        clear hon hgn hnn2 hszq r0 rl a0 hxn
        go_wp2
        go_roundw
        case rel => exact ⟨i + 1, _, by omega, by go_num, HOn.out, HGn.out, HBn.out⟩
        case measure => simp [intOf]; omega
      · have hlt' : ¬ (i : Int) < (R.fs.length : Int) := by omega
        obtain rfl : i = R.fs.length := by omega
        obtain ⟨p, c, hv, hL⟩ := HO.out.in_ (by omega)
        subst hv
        have HL := hid hL
        clear hL
        go_wp2
        exact bodyPost_ret (v := .tuple #[.slice p R.fs.length c, .int .i64 0]) (by simp [results, Tryz.results45, go_sem]) rfl ⟨HBw.out, .inr ⟨HD.out, ⟨p, R.fs.length, c, g⟩, rfl, HL.out, rfl, fun j f hf => HG.out j f (List.getElem?_eq_some_iff.1 hf).1 hf⟩⟩
theorem rcrash_any (R : RK) (w : World) (C : Nat → Prop) (rb : Nat) (hR : RkI w C rb R) :
    Calls Tryz.prog 52 #[.pointer (some ⟨rb, 0, none⟩)] w fun e w' => e = .returned (.tuple #[]) ∧ RigR R.fallen C rb w w' := by
  have HF := hid (rfall_any R w C rb hR)
  go_enter Tryz.func52, Tryz.ntmps52
  go_wp2_with fail
  refine HF.out.mono ?_
  rintro e w2 ⟨rfl, hQ⟩
  have HQ := hid hQ
  clear hQ HF
  go_wp2
  go_end0
  exact ⟨rfl, HQ.out⟩
def armK (R : RK) (u : Int) : RK := if R.down = true then R else { R with left := max u (-1) }
set_option maxHeartbeats 1000000 in
theorem rarm_any (R : RK) (u : Int) (w : World) (C : Nat → Prop) (rb : Nat) (hR : RkI w C rb R) (hu : u ≤ 9223372036854775807) :
    Calls Tryz.prog 48 #[.pointer (some ⟨rb, 0, none⟩), .int .i64 u] w fun e w' => e = .returned (.tuple #[]) ∧ RigR (armK R u) C rb w w' := by
  have HR := hid hR
  have r1 := hR.bx.cell 1
  have r2 := hR.bx.cell 2
  have g2 := hR.bx.frozen 2
  have rl := hR.bx.lt
  simp at r1 r2
  clear hR
  cases hd : R.down with
  | true =>
    have HA : Hid (armK R u = R) := by show armK R u = R; simp [armK, hd]
    rw [hd] at r1
    go_enter Tryz.func48, Tryz.ntmps48
    go_wp2
    go_end0
    exact ⟨rfl, by rw [HA.out]; exact ⟨HR.out, But.refl _ _⟩⟩
  | false =>
    have HA : Hid (armK R u = { R with left := max u (-1) }) := by show armK R u = _; simp [armK, hd]
    have HX := hid (HR.out.bx.set 2 (.int .i64 (max u (-1))))
    have HBt : Hid (But (fun k => k = rb) w (w.setCell ⟨rb, 2, none⟩ (.int .i64 (max u (-1))))) := (But.one _ _).setAt 2 _
    have HFb := hid (show -1 ≤ max u (-1) ∧ max u (-1) ≤ 9223372036854775807 by omega)
    rw [hd] at r1
    go_enter Tryz.func48, Tryz.ntmps48
    go_wp2
    go_end0
    refine ⟨rfl, ?_⟩
    rw [HA.out]
    exact ⟨HR.out.rig HBt.out (by simpa using HX.out) HFb.out HR.out.ba HR.out.bf, HBt.out⟩
def failK (R : RK) (a c : Int) : RK := if R.down = true then R else if 0 ≤ a ∧ 0 < c then { R with after := a, fails := c } else { R with after := 0, fails := 0 }
set_option maxHeartbeats 4000000 in
theorem rfail_any (R : RK) (a c : Int) (w : World) (C : Nat → Prop) (rb : Nat) (hR : RkI w C rb R) (ha : a ≤ 9223372036854775807) (hc : c ≤ 9223372036854775807) :
    Calls Tryz.prog 50 #[.pointer (some ⟨rb, 0, none⟩), .int .i64 a, .int .i64 c] w fun e w' => e = .returned (.tuple #[]) ∧ RigR (failK R a c) C rb w w' := by
  have HR := hid hR
  have r1 := hR.bx.cell 1
  have r3 := hR.bx.cell 3
  have r4 := hR.bx.cell 4
  have g3 := hR.bx.frozen 3
  have g4 := hR.bx.frozen 4
  have rl := hR.bx.lt
  simp at r1 r3 r4
  clear hR
  cases hd : R.down with
  | true =>
    have HA : Hid (failK R a c = R) := by show failK R a c = R; simp [failK, hd]
    rw [hd] at r1
    go_enter Tryz.func50, Tryz.ntmps50
    go_wp2
    exact bodyPost_ret (v := .tuple #[]) (by simp [results, Tryz.results50, go_sem]) rfl ⟨rfl, by rw [HA.out]; exact ⟨HR.out, But.refl _ _⟩⟩
  | false =>
    rw [hd] at r1
    have HX0 := hid ((HR.out.bx.set 3 (.int .i64 0)).set 4 (.int .i64 0))
    have HB0 : Hid (But (fun k => k = rb) w ((w.setCell ⟨rb, 3, none⟩ (.int .i64 0)).setCell ⟨rb, 4, none⟩ (.int .i64 0))) := ((But.one _ _).setAt 3 _).setAt 4 _
    by_cases h1 : 0 ≤ a
    · by_cases h2 : 0 < c
      · have HA : Hid (failK R a c = { R with after := a, fails := c }) := by show failK R a c = _; simp [failK, hd, h1, h2]
        have HX := hid ((HX0.out.set 3 (.int .i64 a)).set 4 (.int .i64 c))
        have HBt : Hid (But (fun k => k = rb) w ((((w.setCell ⟨rb, 3, none⟩ (.int .i64 0)).setCell ⟨rb, 4, none⟩ (.int .i64 0)).setCell ⟨rb, 3, none⟩ (.int .i64 a)).setCell ⟨rb, 4, none⟩ (.int .i64 c))) := (HB0.out.setAt 3 _).setAt 4 _
        have HFa := hid (show 0 ≤ a ∧ a ≤ 9223372036854775807 by omega)
        have HFc := hid (show 0 ≤ c ∧ c ≤ 9223372036854775807 by omega)
        go_enter Tryz.func50, Tryz.ntmps50
        go_wp2
        go_end0
        refine ⟨rfl, ?_⟩
        rw [HA.out]
        exact ⟨HR.out.rig HBt.out (by simpa using HX.out) HR.out.bl HFa.out HFc.out, HBt.out⟩
      · have HA : Hid (failK R a c = { R with after := 0, fails := 0 }) := by show failK R a c = _; simp [failK, hd, h2]
        go_enter Tryz.func50, Tryz.ntmps50
        go_wp2
        go_end0
        refine ⟨rfl, ?_⟩
        rw [HA.out]
        exact ⟨HR.out.rig HB0.out (by simpa using HX0.out) HR.out.bl (by omega) (by omega), HB0.out⟩
    · have HA : Hid (failK R a c = { R with after := 0, fails := 0 }) := by show failK R a c = _; simp [failK, hd, h1]
      go_enter Tryz.func50, Tryz.ntmps50
      go_wp2
      go_end0
      refine ⟨rfl, ?_⟩
      rw [HA.out]
      exact ⟨HR.out.rig HB0.out (by simpa using HX0.out) HR.out.bl (by omega) (by omega), HB0.out⟩
end Go.Proofs.YtebiidfdokhpaabGreatDoor
