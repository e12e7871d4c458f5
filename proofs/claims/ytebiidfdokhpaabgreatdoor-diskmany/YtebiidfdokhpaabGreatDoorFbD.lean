import Derived.Test.YtebiidfdokhpaabGreatDoorPack16
import Derived.Test.YtebiidfdokhpaabGreatDoorPack17
import Derived.Test.YtebiidfdokhpaabGreatDoorPack39
namespace Go.Proofs.YtebiidfdokhpaabGreatDoor
open Go.RowKit
set_option maxRecDepth 8000
/-- a call of a script -/
structure OpD where
  kind : Int
  which : Int
  name : ByteArray
  n : Int
  after : Int
  bp : Option Addr
  bc : Nat
  zs : List Int
  K : LT Int
def OpD.cs (o : OpD) : Array Value := #[.int .i64 o.kind, .int .i64 o.which, .string o.name, .int .i64 o.n, .int .i64 o.after, .slice o.bp o.zs.length o.bc, .slice o.K.p o.K.n o.K.c]
structure OpD.In (w : World) (Z : Nat → Prop) (o : OpD) : Prop where
  nm : o.name.size ≤ 140737488355328
  ki : -9223372036854775808 ≤ o.kind ∧ o.kind ≤ 9223372036854775807
  n1 : -9223372036854775808 ≤ o.n ∧ o.n ≤ 9223372036854775807
  a1 : -9223372036854775808 ≤ o.after ∧ o.after ≤ 9223372036854775807
  by_ : Byts w Z o.bp o.zs.length o.bc (fun j => o.zs.getD j 0)
  kp : LT.In elInt w Z o.K
  zl : o.zs.length ≤ 524288
  kl : o.K.n ≤ 524288
theorem OpD.In.bel {w w' : World} {Z : Nat → Prop} {o : OpD} (h : o.In w Z) (hb : Fr Z w w') : o.In w' Z :=
  ⟨h.nm, h.ki, h.n1, h.a1, h.by_.kept hb.size fun b hz hl => hb.block b hl fun e => e hz, h.kp.kept hb.size fun b hz hl => hb.block b hl fun e => e hz, h.zl, h.kl⟩
theorem OpD.In.src {w : World} {Z : Nat → Prop} {o : OpD} (h : o.In w Z) : Src w o.bp o.zs.length o.bc 1 (o.zs.map (.int .u8)) := by
  have h1 := h.by_.src
  have h2 : ((List.range o.zs.length).map fun j => Value.int .u8 (o.zs.getD j 0)) = o.zs.map (Value.int .u8) := by
    have h3 := range_getD o.zs 0 o.zs.length (by omega)
    simp only [Nat.zero_add, List.drop_zero, List.take_length] at h3
    conv => rhs; rw [← h3, List.map_map]
    rfl
  rw [h2] at h1
  exact h1
theorem ApQ.isI {R : RK} {s : ByteArray} {zs : List Int} {C : Nat → Prop} {rb : Nat} {w w' : World} {e : Ending} (h : ApQ R s zs C rb w e w') : ∃ x : Int, e = .returned (.int .i64 x) ∧ ApQ R s zs C rb w e w' := by
  have hx : ∃ x : Int, e = .returned (.int .i64 x) := by
    rcases h with ⟨_, h, _⟩ | ⟨_, _, _, h, _⟩ | ⟨_, _, h, _⟩ | ⟨_, _, _, _, h, _⟩ | ⟨_, _, _, _, _, h, _⟩ <;> exact ⟨_, h⟩
  obtain ⟨x, hx⟩ := hx
  exact ⟨x, hx, h⟩
theorem ApD.isI {D : DK} {s : ByteArray} {zs : List Int} {C : Nat → Prop} {db : Nat} {w w' : World} {e : Ending} (h : ApD D s zs C db w e w') : ∃ x : Int, e = .returned (.int .i64 x) ∧ ApD D s zs C db w e w' := by
  have hx : ∃ x : Int, e = .returned (.int .i64 x) := by
    rcases h with ⟨_, h, _⟩ | ⟨_, _, _, h, _⟩ | ⟨_, _, h, _⟩ | ⟨_, _, _, _, h, _⟩ | ⟨_, _, _, _, h, _⟩ <;> exact ⟨_, h⟩
  obtain ⟨x, hx⟩ := hx
  exact ⟨x, hx, h⟩
def ChsQ (Z : Nat → Prop) (w : World) (pb db rb : Nat) (Cd Cr : Nat → Prop) (e : Ending) (w' : World) : Prop := ∃ x : Int, e = .returned (.tuple #[.int .i64 x, .int .i64 x]) ∧ PZ Z w w' pb db rb Cd Cr
set_option maxHeartbeats 16000000 in
theorem changes_any (o : OpD) (w : World) (Z : Nat → Prop) (pb db rb : Nat) (D : DK) (R : RK) (Cd Cr : Nat → Prop) (hM : MP Z w pb db rb D R Cd Cr) (hR : Rel D R.ak) (ho : o.In w Z) :
    Calls Tryz.prog 17 #[.pointer (some ⟨pb, 0, none⟩), .agg o.cs] w fun e w' => ChsQ Z w pb db rb Cd Cr e w' := by
  obtain ⟨V1, hV1⟩ : ∃ V, V = w.alloc (.cells o.cs 34) := ⟨_, rfl⟩
  have HB1 : Hid (Below w.heap.size w V1) := by show Below _ _ _; rw [hV1]; exact (Below.refl _ _).alloc (Nat.le_refl _) _
  have HX1 : Hid (Box V1 w.heap.size o.cs 34) := by show Box _ _ _ _; rw [hV1]; exact Box.new _ _ _
  have HM1 : Hid (MP Z V1 pb db rb D R Cd Cr) := (hM.bel HB1.out).1
  have HBB : Hid (Fr Z w V1) := (hM.bel HB1.out).2
  have HO : Hid (o.In V1 Z) := ho.bel HBB.out
  have HRl := hid hR
  have HV1 := hid hV1
  have HPb : Hid (pb ≠ w.heap.size) := by have := hM.bx.lt; show pb ≠ w.heap.size; omega
  have HNo : Hid (¬ Cr w.heap.size) := fun e => by have := (hM.cr _ e).2.1; omega
  clear hM hR ho hV1
  go_enter Tryz.func17, Tryz.ntmps17
  go_upto_region 1 with fail
  simp only [OpD.cs] at HV1 HX1
  simp only [OpD.cs]
  rw [← HV1.out]
  have p0 := HM1.out.bx.cell 0
  have p1 := HM1.out.bx.cell 1
  have o0 := HX1.out.cell 0
  have o2 := HX1.out.cell 2
  have o3 := HX1.out.cell 3
  have o4 := HX1.out.cell 4
  have o5 := HX1.out.cell 5
  have o6 := HX1.out.cell 6
  simp at p0 p1 o0 o2 o3 o4 o5 o6
  by_cases k1 : o.kind = 1
  · have k1' : (o.kind == 1) = true := by simp [k1]
    clear k1
    have HRf : Hid (Calls Tryz.prog 13 #[.pointer (some ⟨rb, 0, none⟩), .string o.name, .slice o.bp o.zs.length o.bc] V1.drew fun e w' => ∃ x : Int, e = .returned (.int .i64 x) ∧ ApQ R o.name o.zs Cr rb V1.drew e w') := by
      refine (rappend_any R o.name o.bp o.bc o.zs V1.drew Cr Z rb HM1.out.drew.rk HO.out.nm (HO.out.by_.kept (Nat.le_refl _) fun _ _ _ => rfl) (fun b hb hc => (HM1.out.cr b hc).1 hb) (fun b hb => HM1.out.zs b hb) (by have := HO.out.zl; omega)).mono fun e w' h => ?_
      exact h.isI
    go_upto_region 3 with fail
    refine wp_region_calmE 30 (fun wx => Below V1.heap.size V1 wx) [(0, true), (1, true), (2, true), (3, false), (4, true), (5, false), (6, true), (7, false)] (.one 8 false [(9, true)] .done) (by kernel_rfl) (by kernel_rfl) (Below.refl _ _).drew ?_
    refine wpPre_e rfl rfl (fun K1 hK1 => ?_)
    apply Exists.intro
    refine And.intro (fun wx hx => ?_) ?_
    · go_simp
      try rfl
    go_simp
    refine hK1 _ ?_
    clear hK1 K1
    refine wpPre_e rfl rfl (fun K1 hK1 => ?_)
    apply Exists.intro
    refine And.intro (fun wx hx => ?_) ?_
    · go_simp
      try rfl
    go_simp
    refine hK1 _ ?_
    clear hK1 K1
    refine wpPre_e rfl rfl (fun K1 hK1 => ?_)
    apply Exists.intro
    refine And.intro (fun wx hx => ?_) ?_
    · go_simp
      try rfl
    go_simp
    refine hK1 _ ?_
    clear hK1 K1
    refine wpPre_e rfl rfl (fun K1 hK1 => ?_)
    apply Exists.intro
    refine And.intro (fun wx hx => ?_) ?_
    · have e0 := below_fact hx rfl p1
      go_simp
      try rfl
    go_simp
    refine hK1 _ ?_
    clear hK1 K1
    refine wpPre_e rfl rfl (fun K1 hK1 => ?_)
    apply Exists.intro
    refine And.intro (fun wx hx => ?_) ?_
    · go_simp
      try rfl
    go_simp
    refine hK1 _ ?_
    clear hK1 K1
    refine wpPre_e rfl rfl (fun K1 hK1 => ?_)
    apply Exists.intro
    refine And.intro (fun wx hx => ?_) ?_
    · have e0 := below_fact hx rfl o2
      go_simp
      try rfl
    go_simp
    refine hK1 _ ?_
    clear hK1 K1
    refine wpPre_e rfl rfl (fun K1 hK1 => ?_)
    apply Exists.intro
    refine And.intro (fun wx hx => ?_) ?_
    · go_simp
      try rfl
    go_simp
    refine hK1 _ ?_
    clear hK1 K1
    refine wpPre_e rfl rfl (fun K1 hK1 => ?_)
    apply Exists.intro
    refine And.intro (fun wx hx => ?_) ?_
    · have e0 := below_fact hx rfl o5
      go_simp
      try rfl
    go_simp
    refine hK1 _ ?_
    clear hK1 K1
    refine wpPre_nil ?_
    refine wpTr_e rfl (fun K1 hK1 => ?_)
    refine step_callG (by first | rfl | go_simp) 13 #[.tmp 17, .tmp 19, .tmp 21] _ rfl Tryz.f13 Tryz.func13 (by kernel_rfl) rfl #[.pointer (some ⟨rb, 0, none⟩), .string o.name, .slice o.bp o.zs.length o.bc] rfl _ (HRf.out) ?_
    rintro e_ w3 ⟨x1, rfl, hq⟩
    refine ⟨_, rfl, ?_⟩
    have HQ := hid hq
    clear hq
    go_simp
    refine hK1 _ _ (fun h => by cases h) ?_
    clear hK1 K1
    refine wpPre_e rfl rfl (fun K1 hK1 => ?_)
    apply Exists.intro
    refine And.intro (fun wx hx => ?_) ?_
    · go_simp
      try rfl
    go_simp
    refine hK1 _ ?_
    clear hK1 K1
    refine wpPre_nil ?_
    refine wpTr_done ?_
    have HBt : Hid (But Cr V1 w3) := (But.refl _ _).drew.trans HQ.out.but
    have HX3 := hid (HX1.out.kept (HBt.out.block _ HX1.out.lt fun e => by have := (HM1.out.cr _ e).2.1; have h2 := (HM1.out.cr _ e); have := HX1.out.lt; exact HNo.out e))
    have HP3 := hid (HM1.out.bx.kept (HBt.out.block _ HM1.out.bx.lt fun e => (HM1.out.cr _ e).2.2 rfl))
    have HCp := hid (cpB_any o.bp o.bc o.zs w3.drew (by
      have hb : o.In w3 Z := HO.out.bel (HBt.out.mono fun k _ hc => (HM1.out.cr k hc).1)
      exact hb.src) (by have := HO.out.zl; omega))
    have HDa : Hid (∀ w4 p4 c4, Below w3.heap.size w3 w4 → OwnBy w3.drew.heap.size w4 (.slice p4 o.zs.length c4) o.zs → Calls Tryz.prog 12 #[.pointer (some ⟨db, 0, none⟩), .string o.name, .slice p4 o.zs.length c4] w4 fun e w' => ∃ x : Int, e = .returned (.int .i64 x) ∧ ApD D o.name o.zs Cd db w4 e w') := fun w4 p4 c4 hb4 ho4 => by
      have hby : ∀ z ∈ o.zs, 0 ≤ z ∧ z ≤ 255 := fun z hz => by
        obtain ⟨j, hj⟩ := List.mem_iff_getElem?.1 hz
        have hjl := (List.getElem?_eq_some_iff.1 hj).1
        have := HO.out.by_.fit j hjl
        rw [List.getD_eq_getElem?_getD, hj] at this
        simp at this
        omega
      have hby2 := own_byts ho4 (S := fun b => w3.heap.size ≤ b ∧ b < w4.heap.size) (fun g hg => ho4.lt g hg) hby (by have := HO.out.zl; omega)
      refine (dappend_any D o.name p4 c4 o.zs w4 Cd _ db (HM1.out.dkr HBt.out hb4) HRl.out.ok HO.out.nm hby2 (fun b hb hc => by have h1 := (HM1.out.cd b hc).2.1; have h2 := HBt.out.size; omega) (fun b hb => hb.2) (by have := HO.out.zl; omega)).mono fun e w' h => ?_
      exact h.isI
    clear p0 p1 o0 o2 o3 o4 o5 o6
    have p0 := HP3.out.cell 0
    have p1 := HP3.out.cell 1
    have o0 := HX3.out.cell 0
    have o2 := HX3.out.cell 2
    have o3 := HX3.out.cell 3
    have o4 := HX3.out.cell 4
    have o5 := HX3.out.cell 5
    have o6 := HX3.out.cell 6
    simp at p0 p1 o0 o2 o3 o4 o5 o6
    go_upto_region 4 with fail
    refine wp_region_calmE 30 (fun wx => Below w3.heap.size w3 wx) [(0, true), (1, true), (2, true), (3, false), (4, true), (5, false), (6, true), (7, false), (11, true)] (.one 8 true [] (.one 9 false [] (.one 10 false [(12, true), (13, true)] .done))) (by kernel_rfl) (by kernel_rfl) (Below.refl _ _).drew ?_
    refine wpPre_e rfl rfl (fun K1 hK1 => ?_)
    apply Exists.intro
    refine And.intro (fun wx hx => ?_) ?_
    · go_simp
      try rfl
    go_simp
    refine hK1 _ ?_
    clear hK1 K1
    refine wpPre_e rfl rfl (fun K1 hK1 => ?_)
    apply Exists.intro
    refine And.intro (fun wx hx => ?_) ?_
    · go_simp
      try rfl
    go_simp
    refine hK1 _ ?_
    clear hK1 K1
    refine wpPre_e rfl rfl (fun K1 hK1 => ?_)
    apply Exists.intro
    refine And.intro (fun wx hx => ?_) ?_
    · go_simp
      try rfl
    go_simp
    refine hK1 _ ?_
    clear hK1 K1
    refine wpPre_e rfl rfl (fun K1 hK1 => ?_)
    apply Exists.intro
    refine And.intro (fun wx hx => ?_) ?_
    · have e0 := below_fact hx rfl p0
      go_simp
      try rfl
    go_simp
    refine hK1 _ ?_
    clear hK1 K1
    refine wpPre_e rfl rfl (fun K1 hK1 => ?_)
    apply Exists.intro
    refine And.intro (fun wx hx => ?_) ?_
    · go_simp
      try rfl
    go_simp
    refine hK1 _ ?_
    clear hK1 K1
    refine wpPre_e rfl rfl (fun K1 hK1 => ?_)
    apply Exists.intro
    refine And.intro (fun wx hx => ?_) ?_
    · have e0 := below_fact hx rfl o2
      go_simp
      try rfl
    go_simp
    refine hK1 _ ?_
    clear hK1 K1
    refine wpPre_e rfl rfl (fun K1 hK1 => ?_)
    apply Exists.intro
    refine And.intro (fun wx hx => ?_) ?_
    · go_simp
      try rfl
    go_simp
    refine hK1 _ ?_
    clear hK1 K1
    refine wpPre_e rfl rfl (fun K1 hK1 => ?_)
    apply Exists.intro
    refine And.intro (fun wx hx => ?_) ?_
    · have e0 := below_fact hx rfl o5
      go_simp
      try rfl
    go_simp
    refine hK1 _ ?_
    clear hK1 K1
    refine wpPre_e rfl rfl (fun K1 hK1 => ?_)
    apply Exists.intro
    refine And.intro (fun wx hx => ?_) ?_
    · go_simp
      try rfl
    go_simp
    refine hK1 _ ?_
    clear hK1 K1
    refine wpPre_nil ?_
    refine wpTr_e rfl (fun K1 hK1 => ?_)
    refine step_callG (by first | rfl | go_simp) 35 #[.tmp 30] _ rfl Tryz.f35 Tryz.func35 (by kernel_rfl) rfl #[.slice o.bp o.zs.length o.bc] rfl _ (HCp.out) ?_
    rintro e_ w4 ⟨p4, c4, rfl, ho4, hb4⟩
    refine ⟨_, rfl, ?_⟩
    have HB4 : Hid (Below w3.heap.size w3 w4) := (Below.refl _ _).drew.trans hb4
    have HO4 := hid ho4
    clear ho4 hb4
    have HDf := hid (HDa.out w4 p4 c4 HB4.out HO4.out)
    go_simp
    refine hK1 _ _ (fun _ => HB4.out) ?_
    clear hK1 K1
    refine wpPre_nil ?_
    refine wpTr_e rfl (fun K1 hK1 => ?_)
    refine step_callG (by first | rfl | go_simp) 12 #[.tmp 26, .tmp 28, .tmp 31] _ rfl Tryz.f12 Tryz.func12 (by kernel_rfl) rfl #[.pointer (some ⟨db, 0, none⟩), .string o.name, .slice p4 o.zs.length c4] rfl _ (HDf.out) ?_
    rintro e_ w5 ⟨x2, rfl, hd⟩
    refine ⟨_, rfl, ?_⟩
    have HD := hid hd
    clear hd
    go_simp
    refine hK1 _ _ (fun h => by cases h) ?_
    clear hK1 K1
    refine wpPre_nil ?_
    refine wpTr_e rfl (fun K1 hK1 => ?_)
    refine step_callG (by first | rfl | go_simp) 11 #[.tmp 32] _ rfl Tryz.f11 Tryz.func11 (by kernel_rfl) rfl #[.int .i64 x2] rfl _ (num_any x2 w5) ?_
    rintro e_ w6 ⟨rfl, hw6⟩
    refine ⟨_, rfl, ?_⟩
    obtain rfl := hw6.symm
    go_simp
    refine hK1 _ _ (fun h => by cases h) ?_
    clear hK1 K1
    refine wpPre_e rfl rfl (fun K1 hK1 => ?_)
    apply Exists.intro
    refine And.intro (fun wx hx => ?_) ?_
    · go_simp
      try rfl
    go_simp
    refine hK1 _ ?_
    clear hK1 K1
    refine wpPre_e rfl rfl (fun K1 hK1 => ?_)
    apply Exists.intro
    refine And.intro (fun wx hx => ?_) ?_
    · go_simp
      try rfl
    go_simp
    refine hK1 _ ?_
    clear hK1 K1
    refine wpPre_nil ?_
    refine wpTr_done ?_
    have HDuo := hid (duo_append HM1.out.drew HRl.out HQ.out HB4.out HD.out)
    clear p0 p1 o0 o2 o3 o4 o5 o6
    go_wp2
    obtain ⟨x, h1, h2, hz⟩ := HDuo.out
    simp only [Ending.returned.injEq, Value.int.injEq, true_and] at h1 h2
    subst h1
    subst h2
    refine bodyPost_ret (v := .tuple #[.int .i64 x2, .int .i64 x2]) (by simp [results, Tryz.results17, go_sem]) rfl ⟨x2, rfl, PZ.ahead (HBB.out.trans (Fr.of (Below.refl _ _).drew)) hz⟩
  · have k1' : (o.kind == 1) = false := by simpa using k1
    clear k1
    by_cases k2 : o.kind = 2
    · have k2' : (o.kind == 2) = true := by simp [k2]
      clear k2
      have HRf : Hid (Calls Tryz.prog 36 #[.pointer (some ⟨rb, 0, none⟩), .string o.name] V1.drew fun e w' => ∃ x : Int, e = .returned (.int .i64 x) ∧ SyQ R o.name Cr rb V1.drew e w') := by
        refine (rsync_any R o.name V1.drew Cr rb HM1.out.drew.rk HO.out.nm).mono fun e w' h => ?_
        exact ⟨_, h.1, h⟩
      go_upto_region 6 with fail
      refine wp_region_calmE 30 (fun wx => Below V1.heap.size V1 wx) [(0, true), (1, true), (2, true), (3, false), (4, true), (5, false)] (.one 6 false [(7, true)] .done) (by kernel_rfl) (by kernel_rfl) (Below.refl _ _).drew ?_
      refine wpPre_e rfl rfl (fun K1 hK1 => ?_)
      apply Exists.intro
      refine And.intro (fun wx hx => ?_) ?_
      · go_simp
        try rfl
      go_simp
      refine hK1 _ ?_
      clear hK1 K1
      refine wpPre_e rfl rfl (fun K1 hK1 => ?_)
      apply Exists.intro
      refine And.intro (fun wx hx => ?_) ?_
      · go_simp
        try rfl
      go_simp
      refine hK1 _ ?_
      clear hK1 K1
      refine wpPre_e rfl rfl (fun K1 hK1 => ?_)
      apply Exists.intro
      refine And.intro (fun wx hx => ?_) ?_
      · go_simp
        try rfl
      go_simp
      refine hK1 _ ?_
      clear hK1 K1
      refine wpPre_e rfl rfl (fun K1 hK1 => ?_)
      apply Exists.intro
      refine And.intro (fun wx hx => ?_) ?_
      · have e0 := below_fact hx rfl p1
        go_simp
        try rfl
      go_simp
      refine hK1 _ ?_
      clear hK1 K1
      refine wpPre_e rfl rfl (fun K1 hK1 => ?_)
      apply Exists.intro
      refine And.intro (fun wx hx => ?_) ?_
      · go_simp
        try rfl
      go_simp
      refine hK1 _ ?_
      clear hK1 K1
      refine wpPre_e rfl rfl (fun K1 hK1 => ?_)
      apply Exists.intro
      refine And.intro (fun wx hx => ?_) ?_
      · have e0 := below_fact hx rfl o2
        go_simp
        try rfl
      go_simp
      refine hK1 _ ?_
      clear hK1 K1
      refine wpPre_nil ?_
      refine wpTr_e rfl (fun K1 hK1 => ?_)
      refine step_callG (by first | rfl | go_simp) 36 #[.tmp 40, .tmp 42] _ rfl Tryz.f36 Tryz.func36 (by kernel_rfl) rfl #[.pointer (some ⟨rb, 0, none⟩), .string o.name] rfl _ (HRf.out) ?_
      rintro e_ w3 ⟨x1, rfl, hq⟩
      refine ⟨_, rfl, ?_⟩
      have HQ := hid hq
      clear hq
      go_simp
      refine hK1 _ _ (fun h => by cases h) ?_
      clear hK1 K1
      refine wpPre_e rfl rfl (fun K1 hK1 => ?_)
      apply Exists.intro
      refine And.intro (fun wx hx => ?_) ?_
      · go_simp
        try rfl
      go_simp
      refine hK1 _ ?_
      clear hK1 K1
      refine wpPre_nil ?_
      refine wpTr_done ?_
      have HBt : Hid (But Cr V1 w3) := (But.refl _ _).drew.trans HQ.out.but
      have HX3 := hid (HX1.out.kept (HBt.out.block _ HX1.out.lt fun e => by have := (HM1.out.cr _ e).2.1; have h2 := (HM1.out.cr _ e); have := HX1.out.lt; exact HNo.out e))
      have HP3 := hid (HM1.out.bx.kept (HBt.out.block _ HM1.out.bx.lt fun e => (HM1.out.cr _ e).2.2 rfl))
      have HDf : Hid (Calls Tryz.prog 37 #[.pointer (some ⟨db, 0, none⟩), .string o.name] w3.drew fun e w' => ∃ x : Int, e = .returned (.int .i64 x) ∧ (e = .returned (.int .i64 (chE D o.name)) ∧ Chg (syD D o.name FT.syn) Cd db w3.drew w')) := by
        refine (dsync_any D o.name w3.drew Cd db (HM1.out.dkr HBt.out (Below.refl _ _).drew) HRl.out.ok HO.out.nm).mono fun e w' h => ?_
        exact ⟨_, h.1, h⟩
      clear p0 p1 o0 o2 o3 o4 o5 o6
      have p0 := HP3.out.cell 0
      have p1 := HP3.out.cell 1
      have o0 := HX3.out.cell 0
      have o2 := HX3.out.cell 2
      have o3 := HX3.out.cell 3
      have o4 := HX3.out.cell 4
      have o5 := HX3.out.cell 5
      have o6 := HX3.out.cell 6
      simp at p0 p1 o0 o2 o3 o4 o5 o6
      go_upto_region 7 with fail
      refine wp_region_calmE 30 (fun wx => Below w3.heap.size w3 wx) [(0, true), (1, true), (2, true), (3, false), (4, true), (5, false), (8, true)] (.one 6 false [] (.one 7 false [(9, true), (10, true)] .done)) (by kernel_rfl) (by kernel_rfl) (Below.refl _ _).drew ?_
      refine wpPre_e rfl rfl (fun K1 hK1 => ?_)
      apply Exists.intro
      refine And.intro (fun wx hx => ?_) ?_
      · go_simp
        try rfl
      go_simp
      refine hK1 _ ?_
      clear hK1 K1
      refine wpPre_e rfl rfl (fun K1 hK1 => ?_)
      apply Exists.intro
      refine And.intro (fun wx hx => ?_) ?_
      · go_simp
        try rfl
      go_simp
      refine hK1 _ ?_
      clear hK1 K1
      refine wpPre_e rfl rfl (fun K1 hK1 => ?_)
      apply Exists.intro
      refine And.intro (fun wx hx => ?_) ?_
      · go_simp
        try rfl
      go_simp
      refine hK1 _ ?_
      clear hK1 K1
      refine wpPre_e rfl rfl (fun K1 hK1 => ?_)
      apply Exists.intro
      refine And.intro (fun wx hx => ?_) ?_
      · have e0 := below_fact hx rfl p0
        go_simp
        try rfl
      go_simp
      refine hK1 _ ?_
      clear hK1 K1
      refine wpPre_e rfl rfl (fun K1 hK1 => ?_)
      apply Exists.intro
      refine And.intro (fun wx hx => ?_) ?_
      · go_simp
        try rfl
      go_simp
      refine hK1 _ ?_
      clear hK1 K1
      refine wpPre_e rfl rfl (fun K1 hK1 => ?_)
      apply Exists.intro
      refine And.intro (fun wx hx => ?_) ?_
      · have e0 := below_fact hx rfl o2
        go_simp
        try rfl
      go_simp
      refine hK1 _ ?_
      clear hK1 K1
      refine wpPre_e rfl rfl (fun K1 hK1 => ?_)
      apply Exists.intro
      refine And.intro (fun wx hx => ?_) ?_
      · go_simp
        try rfl
      go_simp
      refine hK1 _ ?_
      clear hK1 K1
      refine wpPre_nil ?_
      refine wpTr_e rfl (fun K1 hK1 => ?_)
      refine step_callG (by first | rfl | go_simp) 37 #[.tmp 47, .tmp 49] _ rfl Tryz.f37 Tryz.func37 (by kernel_rfl) rfl #[.pointer (some ⟨db, 0, none⟩), .string o.name] rfl _ (HDf.out) ?_
      rintro e_ w5 ⟨x2, rfl, hd⟩
      refine ⟨_, rfl, ?_⟩
      have HD := hid hd
      clear hd
      go_simp
      refine hK1 _ _ (fun h => by cases h) ?_
      clear hK1 K1
      refine wpPre_nil ?_
      refine wpTr_e rfl (fun K1 hK1 => ?_)
      refine step_callG (by first | rfl | go_simp) 11 #[.tmp 50] _ rfl Tryz.f11 Tryz.func11 (by kernel_rfl) rfl #[.int .i64 x2] rfl _ (num_any x2 w5) ?_
      rintro e_ w6 ⟨rfl, hw6⟩
      refine ⟨_, rfl, ?_⟩
      obtain rfl := hw6.symm
      go_simp
      refine hK1 _ _ (fun h => by cases h) ?_
      clear hK1 K1
      refine wpPre_e rfl rfl (fun K1 hK1 => ?_)
      apply Exists.intro
      refine And.intro (fun wx hx => ?_) ?_
      · go_simp
        try rfl
      go_simp
      refine hK1 _ ?_
      clear hK1 K1
      refine wpPre_e rfl rfl (fun K1 hK1 => ?_)
      apply Exists.intro
      refine And.intro (fun wx hx => ?_) ?_
      · go_simp
        try rfl
      go_simp
      refine hK1 _ ?_
      clear hK1 K1
      refine wpPre_nil ?_
      refine wpTr_done ?_
      have HDuo := hid (duo_sync HM1.out.drew HRl.out HQ.out (Below.refl _ _).drew HD.out)
      clear p0 p1 o0 o2 o3 o4 o5 o6
      go_wp2
      obtain ⟨x, h1, h2, hz⟩ := HDuo.out
      simp only [Ending.returned.injEq, Value.int.injEq, true_and] at h1 h2
      subst h1
      subst h2
      refine bodyPost_ret (v := .tuple #[.int .i64 x2, .int .i64 x2]) (by simp [results, Tryz.results17, go_sem]) rfl ⟨x2, rfl, PZ.ahead (HBB.out.trans (Fr.of (Below.refl _ _).drew)) hz⟩
    · have k2' : (o.kind == 2) = false := by simpa using k2
      clear k2
      by_cases k3 : o.kind = 3
      · have k3' : (o.kind == 3) = true := by simp [k3]
        clear k3
        have HRf : Hid (Calls Tryz.prog 38 #[.pointer (some ⟨rb, 0, none⟩), .string o.name, .int .i64 o.n] V1.drew fun e w' => ∃ x : Int, e = .returned (.int .i64 x) ∧ TrQ R o.name o.n Cr rb V1.drew e w') := by
          refine (rtrim_any R o.name o.n V1.drew Cr rb HM1.out.drew.rk HO.out.nm HO.out.n1).mono fun e w' h => ?_
          exact ⟨_, h.1, h⟩
        go_upto_region 9 with fail
        refine wp_region_calmE 30 (fun wx => Below V1.heap.size V1 wx) [(0, true), (1, true), (2, true), (3, false), (4, true), (5, false), (6, true), (7, false)] (.one 8 false [(9, true)] .done) (by kernel_rfl) (by kernel_rfl) (Below.refl _ _).drew ?_
        refine wpPre_e rfl rfl (fun K1 hK1 => ?_)
        apply Exists.intro
        refine And.intro (fun wx hx => ?_) ?_
        · go_simp
          try rfl
        go_simp
        refine hK1 _ ?_
        clear hK1 K1
        refine wpPre_e rfl rfl (fun K1 hK1 => ?_)
        apply Exists.intro
        refine And.intro (fun wx hx => ?_) ?_
        · go_simp
          try rfl
        go_simp
        refine hK1 _ ?_
        clear hK1 K1
        refine wpPre_e rfl rfl (fun K1 hK1 => ?_)
        apply Exists.intro
        refine And.intro (fun wx hx => ?_) ?_
        · go_simp
          try rfl
        go_simp
        refine hK1 _ ?_
        clear hK1 K1
        refine wpPre_e rfl rfl (fun K1 hK1 => ?_)
        apply Exists.intro
        refine And.intro (fun wx hx => ?_) ?_
        · have e0 := below_fact hx rfl p1
          go_simp
          try rfl
        go_simp
        refine hK1 _ ?_
        clear hK1 K1
        refine wpPre_e rfl rfl (fun K1 hK1 => ?_)
        apply Exists.intro
        refine And.intro (fun wx hx => ?_) ?_
        · go_simp
          try rfl
        go_simp
        refine hK1 _ ?_
        clear hK1 K1
        refine wpPre_e rfl rfl (fun K1 hK1 => ?_)
        apply Exists.intro
        refine And.intro (fun wx hx => ?_) ?_
        · have e0 := below_fact hx rfl o2
          go_simp
          try rfl
        go_simp
        refine hK1 _ ?_
        clear hK1 K1
        refine wpPre_e rfl rfl (fun K1 hK1 => ?_)
        apply Exists.intro
        refine And.intro (fun wx hx => ?_) ?_
        · go_simp
          try rfl
        go_simp
        refine hK1 _ ?_
        clear hK1 K1
        refine wpPre_e rfl rfl (fun K1 hK1 => ?_)
        apply Exists.intro
        refine And.intro (fun wx hx => ?_) ?_
        · have e0 := below_fact hx rfl o3
          go_simp
          try rfl
        go_simp
        refine hK1 _ ?_
        clear hK1 K1
        refine wpPre_nil ?_
        refine wpTr_e rfl (fun K1 hK1 => ?_)
        refine step_callG (by first | rfl | go_simp) 38 #[.tmp 58, .tmp 60, .tmp 62] _ rfl Tryz.f38 Tryz.func38 (by kernel_rfl) rfl #[.pointer (some ⟨rb, 0, none⟩), .string o.name, .int .i64 o.n] rfl _ (HRf.out) ?_
        rintro e_ w3 ⟨x1, rfl, hq⟩
        refine ⟨_, rfl, ?_⟩
        have HQ := hid hq
        clear hq
        go_simp
        refine hK1 _ _ (fun h => by cases h) ?_
        clear hK1 K1
        refine wpPre_e rfl rfl (fun K1 hK1 => ?_)
        apply Exists.intro
        refine And.intro (fun wx hx => ?_) ?_
        · go_simp
          try rfl
        go_simp
        refine hK1 _ ?_
        clear hK1 K1
        refine wpPre_nil ?_
        refine wpTr_done ?_
        have HBt : Hid (But Cr V1 w3) := (But.refl _ _).drew.trans HQ.out.but
        have HX3 := hid (HX1.out.kept (HBt.out.block _ HX1.out.lt fun e => by have := (HM1.out.cr _ e).2.1; have h2 := (HM1.out.cr _ e); have := HX1.out.lt; exact HNo.out e))
        have HP3 := hid (HM1.out.bx.kept (HBt.out.block _ HM1.out.bx.lt fun e => (HM1.out.cr _ e).2.2 rfl))
        have HDf : Hid (Calls Tryz.prog 39 #[.pointer (some ⟨db, 0, none⟩), .string o.name, .int .i64 o.n] w3.drew fun e w' => ∃ x : Int, e = .returned (.int .i64 x) ∧ TrimQ D o.name o.n Cd db w3.drew e w') := by
          refine (dtrim_any D o.name o.n w3.drew Cd db (HM1.out.dkr HBt.out (Below.refl _ _).drew) HRl.out.ok HO.out.nm HO.out.n1.2).mono fun e w' h => ?_
          exact ⟨_, h.1, h⟩
        clear p0 p1 o0 o2 o3 o4 o5 o6
        have p0 := HP3.out.cell 0
        have p1 := HP3.out.cell 1
        have o0 := HX3.out.cell 0
        have o2 := HX3.out.cell 2
        have o3 := HX3.out.cell 3
        have o4 := HX3.out.cell 4
        have o5 := HX3.out.cell 5
        have o6 := HX3.out.cell 6
        simp at p0 p1 o0 o2 o3 o4 o5 o6
        go_upto_region 10 with fail
        refine wp_region_calmE 30 (fun wx => Below w3.heap.size w3 wx) [(0, true), (1, true), (2, true), (3, false), (4, true), (5, false), (6, true), (7, false), (10, true)] (.one 8 false [] (.one 9 false [(11, true), (12, true)] .done)) (by kernel_rfl) (by kernel_rfl) (Below.refl _ _).drew ?_
        refine wpPre_e rfl rfl (fun K1 hK1 => ?_)
        apply Exists.intro
        refine And.intro (fun wx hx => ?_) ?_
        · go_simp
          try rfl
        go_simp
        refine hK1 _ ?_
        clear hK1 K1
        refine wpPre_e rfl rfl (fun K1 hK1 => ?_)
        apply Exists.intro
        refine And.intro (fun wx hx => ?_) ?_
        · go_simp
          try rfl
        go_simp
        refine hK1 _ ?_
        clear hK1 K1
        refine wpPre_e rfl rfl (fun K1 hK1 => ?_)
        apply Exists.intro
        refine And.intro (fun wx hx => ?_) ?_
        · go_simp
          try rfl
        go_simp
        refine hK1 _ ?_
        clear hK1 K1
        refine wpPre_e rfl rfl (fun K1 hK1 => ?_)
        apply Exists.intro
        refine And.intro (fun wx hx => ?_) ?_
        · have e0 := below_fact hx rfl p0
          go_simp
          try rfl
        go_simp
        refine hK1 _ ?_
        clear hK1 K1
        refine wpPre_e rfl rfl (fun K1 hK1 => ?_)
        apply Exists.intro
        refine And.intro (fun wx hx => ?_) ?_
        · go_simp
          try rfl
        go_simp
        refine hK1 _ ?_
        clear hK1 K1
        refine wpPre_e rfl rfl (fun K1 hK1 => ?_)
        apply Exists.intro
        refine And.intro (fun wx hx => ?_) ?_
        · have e0 := below_fact hx rfl o2
          go_simp
          try rfl
        go_simp
        refine hK1 _ ?_
        clear hK1 K1
        refine wpPre_e rfl rfl (fun K1 hK1 => ?_)
        apply Exists.intro
        refine And.intro (fun wx hx => ?_) ?_
        · go_simp
          try rfl
        go_simp
        refine hK1 _ ?_
        clear hK1 K1
        refine wpPre_e rfl rfl (fun K1 hK1 => ?_)
        apply Exists.intro
        refine And.intro (fun wx hx => ?_) ?_
        · have e0 := below_fact hx rfl o3
          go_simp
          try rfl
        go_simp
        refine hK1 _ ?_
        clear hK1 K1
        refine wpPre_e rfl rfl (fun K1 hK1 => ?_)
        apply Exists.intro
        refine And.intro (fun wx hx => ?_) ?_
        · go_simp
          try rfl
        go_simp
        refine hK1 _ ?_
        clear hK1 K1
        refine wpPre_nil ?_
        refine wpTr_e rfl (fun K1 hK1 => ?_)
        refine step_callG (by first | rfl | go_simp) 39 #[.tmp 67, .tmp 69, .tmp 71] _ rfl Tryz.f39 Tryz.func39 (by kernel_rfl) rfl #[.pointer (some ⟨db, 0, none⟩), .string o.name, .int .i64 o.n] rfl _ (HDf.out) ?_
        rintro e_ w5 ⟨x2, rfl, hd⟩
        refine ⟨_, rfl, ?_⟩
        have HD := hid hd
        clear hd
        go_simp
        refine hK1 _ _ (fun h => by cases h) ?_
        clear hK1 K1
        refine wpPre_nil ?_
        refine wpTr_e rfl (fun K1 hK1 => ?_)
        refine step_callG (by first | rfl | go_simp) 11 #[.tmp 72] _ rfl Tryz.f11 Tryz.func11 (by kernel_rfl) rfl #[.int .i64 x2] rfl _ (num_any x2 w5) ?_
        rintro e_ w6 ⟨rfl, hw6⟩
        refine ⟨_, rfl, ?_⟩
        obtain rfl := hw6.symm
        go_simp
        refine hK1 _ _ (fun h => by cases h) ?_
        clear hK1 K1
        refine wpPre_e rfl rfl (fun K1 hK1 => ?_)
        apply Exists.intro
        refine And.intro (fun wx hx => ?_) ?_
        · go_simp
          try rfl
        go_simp
        refine hK1 _ ?_
        clear hK1 K1
        refine wpPre_e rfl rfl (fun K1 hK1 => ?_)
        apply Exists.intro
        refine And.intro (fun wx hx => ?_) ?_
        · go_simp
          try rfl
        go_simp
        refine hK1 _ ?_
        clear hK1 K1
        refine wpPre_nil ?_
        refine wpTr_done ?_
        have HDuo := hid (duo_trim HM1.out.drew HRl.out HQ.out (Below.refl _ _).drew HD.out)
        clear p0 p1 o0 o2 o3 o4 o5 o6
        go_wp2
        obtain ⟨x, h1, h2, hz⟩ := HDuo.out
        simp only [Ending.returned.injEq, Value.int.injEq, true_and] at h1 h2
        subst h1
        subst h2
        refine bodyPost_ret (v := .tuple #[.int .i64 x2, .int .i64 x2]) (by simp [results, Tryz.results17, go_sem]) rfl ⟨x2, rfl, PZ.ahead (HBB.out.trans (Fr.of (Below.refl _ _).drew)) hz⟩
      · have k3' : (o.kind == 3) = false := by simpa using k3
        clear k3
        have HRf : Hid (Calls Tryz.prog 40 #[.pointer (some ⟨rb, 0, none⟩), .string o.name] V1.drew fun e w' => ∃ x : Int, e = .returned (.int .i64 x) ∧ RmQ R o.name Cr rb V1.drew e w') := by
          refine (rremove_any R o.name V1.drew Cr rb HM1.out.drew.rk HO.out.nm).mono fun e w' h => ?_
          exact ⟨_, h.1, h⟩
        go_upto_region 11 with fail
        refine wp_region_calmE 30 (fun wx => Below V1.heap.size V1 wx) [(0, true), (1, true), (2, true), (3, false), (4, true), (5, false)] (.one 6 false [(7, true)] .done) (by kernel_rfl) (by kernel_rfl) (Below.refl _ _).drew ?_
        refine wpPre_e rfl rfl (fun K1 hK1 => ?_)
        apply Exists.intro
        refine And.intro (fun wx hx => ?_) ?_
        · go_simp
          try rfl
        go_simp
        refine hK1 _ ?_
        clear hK1 K1
        refine wpPre_e rfl rfl (fun K1 hK1 => ?_)
        apply Exists.intro
        refine And.intro (fun wx hx => ?_) ?_
        · go_simp
          try rfl
        go_simp
        refine hK1 _ ?_
        clear hK1 K1
        refine wpPre_e rfl rfl (fun K1 hK1 => ?_)
        apply Exists.intro
        refine And.intro (fun wx hx => ?_) ?_
        · go_simp
          try rfl
        go_simp
        refine hK1 _ ?_
        clear hK1 K1
        refine wpPre_e rfl rfl (fun K1 hK1 => ?_)
        apply Exists.intro
        refine And.intro (fun wx hx => ?_) ?_
        · have e0 := below_fact hx rfl p1
          go_simp
          try rfl
        go_simp
        refine hK1 _ ?_
        clear hK1 K1
        refine wpPre_e rfl rfl (fun K1 hK1 => ?_)
        apply Exists.intro
        refine And.intro (fun wx hx => ?_) ?_
        · go_simp
          try rfl
        go_simp
        refine hK1 _ ?_
        clear hK1 K1
        refine wpPre_e rfl rfl (fun K1 hK1 => ?_)
        apply Exists.intro
        refine And.intro (fun wx hx => ?_) ?_
        · have e0 := below_fact hx rfl o2
          go_simp
          try rfl
        go_simp
        refine hK1 _ ?_
        clear hK1 K1
        refine wpPre_nil ?_
        refine wpTr_e rfl (fun K1 hK1 => ?_)
        refine step_callG (by first | rfl | go_simp) 40 #[.tmp 78, .tmp 80] _ rfl Tryz.f40 Tryz.func40 (by kernel_rfl) rfl #[.pointer (some ⟨rb, 0, none⟩), .string o.name] rfl _ (HRf.out) ?_
        rintro e_ w3 ⟨x1, rfl, hq⟩
        refine ⟨_, rfl, ?_⟩
        have HQ := hid hq
        clear hq
        go_simp
        refine hK1 _ _ (fun h => by cases h) ?_
        clear hK1 K1
        refine wpPre_e rfl rfl (fun K1 hK1 => ?_)
        apply Exists.intro
        refine And.intro (fun wx hx => ?_) ?_
        · go_simp
          try rfl
        go_simp
        refine hK1 _ ?_
        clear hK1 K1
        refine wpPre_nil ?_
        refine wpTr_done ?_
        have HBt : Hid (But Cr V1 w3) := (But.refl _ _).drew.trans HQ.out.but
        have HX3 := hid (HX1.out.kept (HBt.out.block _ HX1.out.lt fun e => by have := (HM1.out.cr _ e).2.1; have h2 := (HM1.out.cr _ e); have := HX1.out.lt; exact HNo.out e))
        have HP3 := hid (HM1.out.bx.kept (HBt.out.block _ HM1.out.bx.lt fun e => (HM1.out.cr _ e).2.2 rfl))
        have HDf : Hid (Calls Tryz.prog 41 #[.pointer (some ⟨db, 0, none⟩), .string o.name] w3.drew fun e w' => ∃ x : Int, e = .returned (.int .i64 x) ∧ (e = .returned (.int .i64 (chE D o.name)) ∧ Chg (rmD D o.name) Cd db w3.drew w')) := by
          refine (dremove_any D o.name w3.drew Cd db (HM1.out.dkr HBt.out (Below.refl _ _).drew) HRl.out.ok HO.out.nm).mono fun e w' h => ?_
          exact ⟨_, h.1, h⟩
        clear p0 p1 o0 o2 o3 o4 o5 o6
        have p0 := HP3.out.cell 0
        have p1 := HP3.out.cell 1
        have o0 := HX3.out.cell 0
        have o2 := HX3.out.cell 2
        have o3 := HX3.out.cell 3
        have o4 := HX3.out.cell 4
        have o5 := HX3.out.cell 5
        have o6 := HX3.out.cell 6
        simp at p0 p1 o0 o2 o3 o4 o5 o6
        go_upto_region 12 with fail
        refine wp_region_calmE 30 (fun wx => Below w3.heap.size w3 wx) [(0, true), (1, true), (2, true), (3, false), (4, true), (5, false), (8, true)] (.one 6 false [] (.one 7 false [(9, true), (10, true)] .done)) (by kernel_rfl) (by kernel_rfl) (Below.refl _ _).drew ?_
        refine wpPre_e rfl rfl (fun K1 hK1 => ?_)
        apply Exists.intro
        refine And.intro (fun wx hx => ?_) ?_
        · go_simp
          try rfl
        go_simp
        refine hK1 _ ?_
        clear hK1 K1
        refine wpPre_e rfl rfl (fun K1 hK1 => ?_)
        apply Exists.intro
        refine And.intro (fun wx hx => ?_) ?_
        · go_simp
          try rfl
        go_simp
        refine hK1 _ ?_
        clear hK1 K1
        refine wpPre_e rfl rfl (fun K1 hK1 => ?_)
        apply Exists.intro
        refine And.intro (fun wx hx => ?_) ?_
        · go_simp
          try rfl
        go_simp
        refine hK1 _ ?_
        clear hK1 K1
        refine wpPre_e rfl rfl (fun K1 hK1 => ?_)
        apply Exists.intro
        refine And.intro (fun wx hx => ?_) ?_
        · have e0 := below_fact hx rfl p0
          go_simp
          try rfl
        go_simp
        refine hK1 _ ?_
        clear hK1 K1
        refine wpPre_e rfl rfl (fun K1 hK1 => ?_)
        apply Exists.intro
        refine And.intro (fun wx hx => ?_) ?_
        · go_simp
          try rfl
        go_simp
        refine hK1 _ ?_
        clear hK1 K1
        refine wpPre_e rfl rfl (fun K1 hK1 => ?_)
        apply Exists.intro
        refine And.intro (fun wx hx => ?_) ?_
        · have e0 := below_fact hx rfl o2
          go_simp
          try rfl
        go_simp
        refine hK1 _ ?_
        clear hK1 K1
        refine wpPre_e rfl rfl (fun K1 hK1 => ?_)
        apply Exists.intro
        refine And.intro (fun wx hx => ?_) ?_
        · go_simp
          try rfl
        go_simp
        refine hK1 _ ?_
        clear hK1 K1
        refine wpPre_nil ?_
        refine wpTr_e rfl (fun K1 hK1 => ?_)
        refine step_callG (by first | rfl | go_simp) 41 #[.tmp 85, .tmp 87] _ rfl Tryz.f41 Tryz.func41 (by kernel_rfl) rfl #[.pointer (some ⟨db, 0, none⟩), .string o.name] rfl _ (HDf.out) ?_
        rintro e_ w5 ⟨x2, rfl, hd⟩
        refine ⟨_, rfl, ?_⟩
        have HD := hid hd
        clear hd
        go_simp
        refine hK1 _ _ (fun h => by cases h) ?_
        clear hK1 K1
        refine wpPre_nil ?_
        refine wpTr_e rfl (fun K1 hK1 => ?_)
        refine step_callG (by first | rfl | go_simp) 11 #[.tmp 88] _ rfl Tryz.f11 Tryz.func11 (by kernel_rfl) rfl #[.int .i64 x2] rfl _ (num_any x2 w5) ?_
        rintro e_ w6 ⟨rfl, hw6⟩
        refine ⟨_, rfl, ?_⟩
        obtain rfl := hw6.symm
        go_simp
        refine hK1 _ _ (fun h => by cases h) ?_
        clear hK1 K1
        refine wpPre_e rfl rfl (fun K1 hK1 => ?_)
        apply Exists.intro
        refine And.intro (fun wx hx => ?_) ?_
        · go_simp
          try rfl
        go_simp
        refine hK1 _ ?_
        clear hK1 K1
        refine wpPre_e rfl rfl (fun K1 hK1 => ?_)
        apply Exists.intro
        refine And.intro (fun wx hx => ?_) ?_
        · go_simp
          try rfl
        go_simp
        refine hK1 _ ?_
        clear hK1 K1
        refine wpPre_nil ?_
        refine wpTr_done ?_
        have HDuo := hid (duo_remove HM1.out.drew HRl.out HQ.out (Below.refl _ _).drew HD.out)
        clear p0 p1 o0 o2 o3 o4 o5 o6
        go_wp2
        obtain ⟨x, h1, h2, hz⟩ := HDuo.out
        simp only [Ending.returned.injEq, Value.int.injEq, true_and] at h1 h2
        subst h1
        subst h2
        refine bodyPost_ret (v := .tuple #[.int .i64 x2, .int .i64 x2]) (by simp [results, Tryz.results17, go_sem]) rfl ⟨x2, rfl, PZ.ahead (HBB.out.trans (Fr.of (Below.refl _ _).drew)) hz⟩
end Go.Proofs.YtebiidfdokhpaabGreatDoor
