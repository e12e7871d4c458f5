import Derived.Test.YtebiidfdokhpaabGreatDoorFbE
namespace Go.Proofs.YtebiidfdokhpaabGreatDoor
open Go.RowKit
set_option maxRecDepth 8000
theorem kindInts : ∃ i, Kind 32 3 i (.int .i64 0) 1 8 := by
  obtain ⟨i0, hi, hz0, hz1, hz2⟩ := info_parts (show (Tryz.prog.info? 3).map (fun i => (i.zero, i.size, i.bytes)) = some (some (.int .i64 0), 1, 8) by kernel_rfl)
  exact ⟨i0, Tryz.underlying32, hi, hz0, hz1, hz2, rfl, by decide⟩
theorem intSrc {w : World} {S : Nat → Prop} {K : LT Int} (h : LT.In elInt w S K) : Src w K.p K.n K.c 1 ((List.range K.n).map fun j => .int .i64 (K.item j)) := by
  cases hp : K.p with
  | none =>
    obtain ⟨h1, h2⟩ := h.nil hp
    exact .inl ⟨rfl, h1, h2, by rw [h1]; rfl⟩
  | some ad =>
    refine .inr ⟨ad, rfl, by simp, fun j u hu => ?_⟩
    have hj : j < K.n := by
      rcases Nat.lt_or_ge j K.n with h1 | h1
      · exact h1
      · rw [List.getElem?_eq_none (by simpa using h1)] at hu; cases hu
    obtain ⟨b, o, hp2, _, _, hat⟩ := h.at_ (by omega)
    rw [hp] at hp2
    have hp3 := Option.some.inj hp2
    subst hp3
    rw [List.getElem?_map, List.getElem?_range hj] at hu
    have hu2 : Value.int .i64 (K.item j) = u := by simpa using hu
    have h1 := hat j hj 0 _ rfl
    rw [Go.WideShapes.add_plain, ← hu2]
    have e : o + j * elInt.size + 0 = o + j := by show o + j * 1 + 0 = _; omega
    rw [e] at h1
    exact h1
theorem intRow {w : World} {b n c : Nat} {p : Option Addr} {g : Nat → Int} (h : w.ownsRow b 3 1 (.slice p n c) n ((List.range n).map fun j => .int .i64 (g j))) (hb : ∀ j, j < n → -9223372036854775808 ≤ g j ∧ g j ≤ 9223372036854775807) (hn : n ≤ 140737488355328) : LT.In elInt w (fun k => b ≤ k) ⟨p, n, c, g⟩ := by
  have hL : OwnL elInt b w (.slice p n c) n g := by
    refine ⟨?_, fun j hj => hb j hj⟩
    have e : ((List.range n).flatMap fun j => elInt.cells (g j)) = (List.range n).map fun j => Value.int .i64 (g j) := by
      rw [List.flatMap_def]
      show ((List.range n).map fun j => [Value.int .i64 (g j)]).flatten = _
      induction (List.range n) with
      | nil => rfl
      | cons x l ih => simp only [List.map_cons, List.flatten_cons, ih]; rfl
    rw [e]
    exact h
  obtain ⟨p2, c2, hv, hI⟩ := hL.in_ hn
  simp only [Value.slice.injEq, true_and] at hv
  obtain ⟨rfl, rfl⟩ := hv
  exact hI
theorem spq_chg {D : DK} {s : ByteArray} {bit : Int} {C : Nat → Prop} {db : Nat} {w w' : World} {e : Ending} (h : SpQ D s bit C db w e w') : ∃ D', Chg D' C db w w' := by
  cases hb : spB D s bit with
  | false => exact ⟨_, h.2.1 hb⟩
  | true =>
    obtain ⟨f, _, hc⟩ := h.2.2 hb
    exact ⟨_, hc⟩
theorem spq_but {D : DK} {s : ByteArray} {bit : Int} {C : Nat → Prop} {db : Nat} {w w' : World} {e : Ending} (h : SpQ D s bit C db w e w') : But C w w' := by
  obtain ⟨_, hc⟩ := spq_chg h
  exact hc.2
theorem SpR.isB {R : RK} {s : ByteArray} {bit : Int} {C : Nat → Prop} {rb : Nat} {w w' : World} {e : Ending} (h : SpR R s bit C rb w e w') : ∃ x : Bool, e = .returned (.bool x) ∧ SpR R s bit C rb w e w' := by
  have hx : ∃ x : Bool, e = .returned (.bool x) := by
    rcases h with ⟨_, h, _⟩ | ⟨_, _, _, ⟨_, h, _⟩ | ⟨_, _, h, _⟩⟩ <;> exact ⟨_, h⟩
  obtain ⟨x, hx⟩ := hx
  exact ⟨x, hx, h⟩
theorem duo_spoil {Z : Nat → Prop} {w w1 w2 : World} {pb db rb : Nat} {D : DK} {R : RK} {Cd Cr : Nat → Prop} {s : ByteArray} {bit : Int} {e1 e2 : Ending} (h : MP Z w pb db rb D R Cd Cr) (hr : Rel D R.ak) (hd : SpQ D s bit Cd db w e1 w1) (hq : SpR R s bit Cr rb w1 e2 w2) : ∃ x : Bool, e1 = .returned (.bool x) ∧ e2 = .returned (.bool x) ∧ PZ Z w w2 pb db rb Cd Cr := by
  cases hf : fnd D s with
  | none =>
    have hb : spB D s bit = false := by unfold spB; rw [hf]
    rcases hq with ⟨hno, rfl, hc⟩ | ⟨i, g, hi, _⟩
    · exact ⟨false, by rw [← hb]; exact hd.1, rfl, h.duo2 (hd.2.1 hb) hc hr⟩
    · exact absurd hi.2 (hr.none hf g (List.mem_of_getElem? hi.1))
  | some f =>
    rcases hq with ⟨hno, rfl, hc⟩ | ⟨i, g, hi, hq⟩
    · obtain ⟨i, g, hi⟩ := hr.some hf
      exact absurd hi.2 (hno g (List.mem_of_getElem? hi.1))
    · obtain ⟨k1, k2, k3⟩ := key_eqs (hr.key h.dk.nodup hf hi)
      rcases hq with ⟨hn, rfl, hc⟩ | ⟨h0, h1, rfl, hc⟩
      · have hb : spB D s bit = false := by
          unfold spB
          rw [hf]
          simp only [Bool.and_eq_false_iff, decide_eq_false_iff_not]
          rw [k2]
          omega
        exact ⟨false, by rw [← hb]; exact hd.1, rfl, h.duo2 (hd.2.1 hb) hc hr⟩
      · have hb : spB D s bit = true := by
          unfold spB
          rw [hf]
          simp only [Bool.and_eq_true, decide_eq_true_eq]
          rw [k2]
          exact ⟨h0, h1⟩
        obtain ⟨f2, hf2, hc2⟩ := hd.2.2 hb
        obtain rfl : f = f2 := Option.some.inj (hf.symm.trans hf2)
        refine ⟨true, by rw [← hb]; exact hd.1, rfl, h.duo2 hc2 hc ?_⟩
        exact hr.upd (s := s) (f' := f.spo (bit / 8).toNat (bit % 8).toNat) (fnd_at hf).2 (by unfold FT.key FT.spo; rw [(fnd_at hf).2, k2, k3])
def FtQ (Z : Nat → Prop) (w : World) (pb db rb : Nat) (Cd Cr : Nat → Prop) (e : Ending) (w' : World) : Prop := e = .returned (.bool true) ∧ PZ Z w w' pb db rb Cd Cr
set_option maxHeartbeats 16000000 in
theorem faults_any (o : OpD) (w : World) (Z : Nat → Prop) (pb db rb : Nat) (D : DK) (R : RK) (Cd Cr : Nat → Prop) (hM : MP Z w pb db rb D R Cd Cr) (hR : Rel D R.ak) (ho : o.In w Z) :
    Calls Tryz.prog 19 #[.pointer (some ⟨pb, 0, none⟩), .agg o.cs] w fun e w' => FtQ Z w pb db rb Cd Cr e w' := by
  obtain ⟨V1, hV1⟩ : ∃ V, V = w.alloc (.cells o.cs 34) := ⟨_, rfl⟩
  have HB1 : Hid (Below w.heap.size w V1) := by show Below _ _ _; rw [hV1]; exact (Below.refl _ _).alloc (Nat.le_refl _) _
  have HX1 : Hid (Box V1 w.heap.size o.cs 34) := by show Box _ _ _ _; rw [hV1]; exact Box.new _ _ _
  have HM1 : Hid (MP Z V1 pb db rb D R Cd Cr) := (hM.bel HB1.out).1
  have HBB : Hid (Fr Z w V1) := (hM.bel HB1.out).2
  have HO : Hid (o.In V1 Z) := ho.bel HBB.out
  have HRl := hid hR
  have HV1 := hid hV1
  have HPb : Hid (pb ≠ w.heap.size) := by have := hM.bx.lt; show pb ≠ w.heap.size; omega
  have HNo : Hid (¬ Cr w.heap.size) := fun e => by have := (hM.cr _ e).2.1; omega
  have HNd : Hid (¬ Cd w.heap.size) := fun e => by have := (hM.cd _ e).2.1; omega
  clear hM hR ho hV1
  go_enter Tryz.func19, Tryz.ntmps19
  go_upto_region 1 with fail
  simp only [OpD.cs] at HV1 HX1
  simp only [OpD.cs]
  rw [← HV1.out]
  have p0 := HM1.out.bx.cell 0
  have p1 := HM1.out.bx.cell 1
  have o0 := HX1.out.cell 0
  have o2 := HX1.out.cell 2
  have o3 := HX1.out.cell 3
  have o4 := HX1.out.cell 4
  have o5 := HX1.out.cell 5
  have o6 := HX1.out.cell 6
  simp at p0 p1 o0 o2 o3 o4 o5 o6
  by_cases k7 : o.kind = 7
  · have k7' : (o.kind == 7) = true := by simp [k7]
    clear k7
    have HDf : Hid (Calls Tryz.prog 47 #[.pointer (some ⟨db, 0, none⟩), .int .i64 o.n] V1.drew fun e w' => e = .returned (.tuple #[]) ∧ RigQ (D.armD o.n) Cd db V1.drew w') := darm_any D o.n V1.drew Cd db HM1.out.drew.dk HO.out.n1.2
    go_upto_region 3 with fail
    refine wp_region_calmE 30 (fun wx => Below V1.heap.size V1 wx) [(0, true), (1, true), (2, true), (3, false), (4, true), (5, false)] (.one 6 false [] .done) (by kernel_rfl) (by kernel_rfl) (Below.refl _ _).drew ?_
    refine wpPre_e rfl rfl (fun K1 hK1 => ?_)
    apply Exists.intro
    refine And.intro (fun wx hx => ?_) ?_
    · go_simp
      try rfl
    go_simp
    refine hK1 _ ?_
    clear hK1 K1
    refine wpPre_e rfl rfl (fun K1 hK1 => ?_)
    apply Exists.intro
    refine And.intro (fun wx hx => ?_) ?_
    · go_simp
      try rfl
    go_simp
    refine hK1 _ ?_
    clear hK1 K1
    refine wpPre_e rfl rfl (fun K1 hK1 => ?_)
    apply Exists.intro
    refine And.intro (fun wx hx => ?_) ?_
    · go_simp
      try rfl
    go_simp
    refine hK1 _ ?_
    clear hK1 K1
    refine wpPre_e rfl rfl (fun K1 hK1 => ?_)
    apply Exists.intro
    refine And.intro (fun wx hx => ?_) ?_
    · have e0 := below_fact hx rfl p0
      go_simp
      try rfl
    go_simp
    refine hK1 _ ?_
    clear hK1 K1
    refine wpPre_e rfl rfl (fun K1 hK1 => ?_)
    apply Exists.intro
    refine And.intro (fun wx hx => ?_) ?_
    · go_simp
      try rfl
    go_simp
    refine hK1 _ ?_
    clear hK1 K1
    refine wpPre_e rfl rfl (fun K1 hK1 => ?_)
    apply Exists.intro
    refine And.intro (fun wx hx => ?_) ?_
    · have e0 := below_fact hx rfl o3
      go_simp
      try rfl
    go_simp
    refine hK1 _ ?_
    clear hK1 K1
    refine wpPre_nil ?_
    refine wpTr_e rfl (fun K1 hK1 => ?_)
    refine step_callG (by first | rfl | go_simp) 47 #[.tmp 12, .tmp 14] _ rfl Tryz.f47 Tryz.func47 (by kernel_rfl) rfl #[.pointer (some ⟨db, 0, none⟩), .int .i64 o.n] rfl _ (HDf.out) ?_
    rintro e_ w3 ⟨rfl, hq⟩
    refine ⟨_, rfl, ?_⟩
    have HQ := hid hq
    clear hq
    go_simp
    refine hK1 _ _ (fun h => by cases h) ?_
    clear hK1 K1
    refine wpPre_nil ?_
    refine wpTr_done ?_
    obtain ⟨Cd', hm3, hb3, hg3⟩ := HM1.out.drew.dsk HQ.out.chg
    have HM3 := hid hm3
    have HB3 : Hid (Fr Z V1 w3) := (Fr.of (Below.refl _ _).drew).trans hb3
    have HG3 : Hid (Gro V1 Cd Cr Cd' Cr) := hg3
    have HX3 := hid (HX1.out.kept ((HQ.out.chg.2).block _ HX1.out.lt HNd.out))
    clear hm3 hb3 hg3
    have HRf : Hid (Calls Tryz.prog 48 #[.pointer (some ⟨rb, 0, none⟩), .int .i64 o.n] w3.drew fun e w' => e = .returned (.tuple #[]) ∧ RigR (armK R o.n) Cr rb w3.drew w') := rarm_any R o.n w3.drew Cr rb HM3.out.drew.rk HO.out.n1.2
    clear p0 p1 o0 o2 o3 o4 o5 o6
    have p0 := HM3.out.bx.cell 0
    have p1 := HM3.out.bx.cell 1
    have o0 := HX3.out.cell 0
    have o2 := HX3.out.cell 2
    have o3 := HX3.out.cell 3
    have o4 := HX3.out.cell 4
    have o5 := HX3.out.cell 5
    have o6 := HX3.out.cell 6
    simp at p0 p1 o0 o2 o3 o4 o5 o6
    go_upto_region 4 with fail
    refine wp_region_calmE 30 (fun wx => Below w3.heap.size w3 wx) [(0, true), (1, true), (2, true), (3, false), (4, true), (5, false)] (.one 6 false [] .done) (by kernel_rfl) (by kernel_rfl) (Below.refl _ _).drew ?_
    refine wpPre_e rfl rfl (fun K1 hK1 => ?_)
    apply Exists.intro
    refine And.intro (fun wx hx => ?_) ?_
    · go_simp
      try rfl
    go_simp
    refine hK1 _ ?_
    clear hK1 K1
    refine wpPre_e rfl rfl (fun K1 hK1 => ?_)
    apply Exists.intro
    refine And.intro (fun wx hx => ?_) ?_
    · go_simp
      try rfl
    go_simp
    refine hK1 _ ?_
    clear hK1 K1
    refine wpPre_e rfl rfl (fun K1 hK1 => ?_)
    apply Exists.intro
    refine And.intro (fun wx hx => ?_) ?_
    · go_simp
      try rfl
    go_simp
    refine hK1 _ ?_
    clear hK1 K1
    refine wpPre_e rfl rfl (fun K1 hK1 => ?_)
    apply Exists.intro
    refine And.intro (fun wx hx => ?_) ?_
    · have e0 := below_fact hx rfl p1
      go_simp
      try rfl
    go_simp
    refine hK1 _ ?_
    clear hK1 K1
    refine wpPre_e rfl rfl (fun K1 hK1 => ?_)
    apply Exists.intro
    refine And.intro (fun wx hx => ?_) ?_
    · go_simp
      try rfl
    go_simp
    refine hK1 _ ?_
    clear hK1 K1
    refine wpPre_e rfl rfl (fun K1 hK1 => ?_)
    apply Exists.intro
    refine And.intro (fun wx hx => ?_) ?_
    · have e0 := below_fact hx rfl o3
      go_simp
      try rfl
    go_simp
    refine hK1 _ ?_
    clear hK1 K1
    refine wpPre_nil ?_
    refine wpTr_e rfl (fun K1 hK1 => ?_)
    refine step_callG (by first | rfl | go_simp) 48 #[.tmp 19, .tmp 21] _ rfl Tryz.f48 Tryz.func48 (by kernel_rfl) rfl #[.pointer (some ⟨rb, 0, none⟩), .int .i64 o.n] rfl _ (HRf.out) ?_
    rintro e_ w5 ⟨rfl, hq⟩
    refine ⟨_, rfl, ?_⟩
    have HQ2 := hid hq
    clear hq
    go_simp
    refine hK1 _ _ (fun h => by cases h) ?_
    clear hK1 K1
    refine wpPre_nil ?_
    refine wpTr_done ?_
    have HZ : Hid (PZ Z w w5 pb db rb Cd Cr) := by
      obtain ⟨R', Cr', e, h5, b5, g5⟩ := HM3.out.drew.ref HQ2.out.rc
      exact PZ.ahead HBB.out ⟨⟨_, R', Cd', Cr', h5, by rw [e]; exact HRl.out.arm o.n, HG3.out.trans g5 HB3.out.size⟩, HB3.out.trans ((Fr.of (Below.refl _ _).drew).trans b5)⟩
    clear p0 p1 o0 o2 o3 o4 o5 o6
    go_wp2
    exact bodyPost_ret (v := .bool true) (by simp [results, Tryz.results19, go_sem]) rfl (⟨rfl, HZ.out⟩)
  · have k7' : (o.kind == 7) = false := by simpa using k7
    clear k7
    by_cases k8 : o.kind = 8
    · have k8' : (o.kind == 8) = true := by simp [k8]
      clear k8
      have HDf : Hid (Calls Tryz.prog 49 #[.pointer (some ⟨db, 0, none⟩), .int .i64 o.after, .int .i64 o.n] V1.drew fun e w' => e = .returned (.tuple #[]) ∧ RigQ (D.failD o.after o.n) Cd db V1.drew w') := dfail_any D o.after o.n V1.drew Cd db HM1.out.drew.dk HO.out.a1.2 HO.out.n1.2
      go_upto_region 6 with fail
      refine wp_region_calmE 30 (fun wx => Below V1.heap.size V1 wx) [(0, true), (1, true), (2, true), (3, false), (4, true), (5, false), (6, true), (7, false)] (.one 8 false [] .done) (by kernel_rfl) (by kernel_rfl) (Below.refl _ _).drew ?_
      refine wpPre_e rfl rfl (fun K1 hK1 => ?_)
      apply Exists.intro
      refine And.intro (fun wx hx => ?_) ?_
      · go_simp
        try rfl
      go_simp
      refine hK1 _ ?_
      clear hK1 K1
      refine wpPre_e rfl rfl (fun K1 hK1 => ?_)
      apply Exists.intro
      refine And.intro (fun wx hx => ?_) ?_
      · go_simp
        try rfl
      go_simp
      refine hK1 _ ?_
      clear hK1 K1
      refine wpPre_e rfl rfl (fun K1 hK1 => ?_)
      apply Exists.intro
      refine And.intro (fun wx hx => ?_) ?_
      · go_simp
        try rfl
      go_simp
      refine hK1 _ ?_
      clear hK1 K1
      refine wpPre_e rfl rfl (fun K1 hK1 => ?_)
      apply Exists.intro
      refine And.intro (fun wx hx => ?_) ?_
      · have e0 := below_fact hx rfl p0
        go_simp
        try rfl
      go_simp
      refine hK1 _ ?_
      clear hK1 K1
      refine wpPre_e rfl rfl (fun K1 hK1 => ?_)
      apply Exists.intro
      refine And.intro (fun wx hx => ?_) ?_
      · go_simp
        try rfl
      go_simp
      refine hK1 _ ?_
      clear hK1 K1
      refine wpPre_e rfl rfl (fun K1 hK1 => ?_)
      apply Exists.intro
      refine And.intro (fun wx hx => ?_) ?_
      · have e0 := below_fact hx rfl o4
        go_simp
        try rfl
      go_simp
      refine hK1 _ ?_
      clear hK1 K1
      refine wpPre_e rfl rfl (fun K1 hK1 => ?_)
      apply Exists.intro
      refine And.intro (fun wx hx => ?_) ?_
      · go_simp
        try rfl
      go_simp
      refine hK1 _ ?_
      clear hK1 K1
      refine wpPre_e rfl rfl (fun K1 hK1 => ?_)
      apply Exists.intro
      refine And.intro (fun wx hx => ?_) ?_
      · have e0 := below_fact hx rfl o3
        go_simp
        try rfl
      go_simp
      refine hK1 _ ?_
      clear hK1 K1
      refine wpPre_nil ?_
      refine wpTr_e rfl (fun K1 hK1 => ?_)
      refine step_callG (by first | rfl | go_simp) 49 #[.tmp 28, .tmp 30, .tmp 32] _ rfl Tryz.f49 Tryz.func49 (by kernel_rfl) rfl #[.pointer (some ⟨db, 0, none⟩), .int .i64 o.after, .int .i64 o.n] rfl _ (HDf.out) ?_
      rintro e_ w3 ⟨rfl, hq⟩
      refine ⟨_, rfl, ?_⟩
      have HQ := hid hq
      clear hq
      go_simp
      refine hK1 _ _ (fun h => by cases h) ?_
      clear hK1 K1
      refine wpPre_nil ?_
      refine wpTr_done ?_
      obtain ⟨Cd', hm3, hb3, hg3⟩ := HM1.out.drew.dsk HQ.out.chg
      have HM3 := hid hm3
      have HB3 : Hid (Fr Z V1 w3) := (Fr.of (Below.refl _ _).drew).trans hb3
      have HG3 : Hid (Gro V1 Cd Cr Cd' Cr) := hg3
      have HX3 := hid (HX1.out.kept ((HQ.out.chg.2).block _ HX1.out.lt HNd.out))
      clear hm3 hb3 hg3
      have HRf : Hid (Calls Tryz.prog 50 #[.pointer (some ⟨rb, 0, none⟩), .int .i64 o.after, .int .i64 o.n] w3.drew fun e w' => e = .returned (.tuple #[]) ∧ RigR (failK R o.after o.n) Cr rb w3.drew w') := rfail_any R o.after o.n w3.drew Cr rb HM3.out.drew.rk HO.out.a1.2 HO.out.n1.2
      clear p0 p1 o0 o2 o3 o4 o5 o6
      have p0 := HM3.out.bx.cell 0
      have p1 := HM3.out.bx.cell 1
      have o0 := HX3.out.cell 0
      have o2 := HX3.out.cell 2
      have o3 := HX3.out.cell 3
      have o4 := HX3.out.cell 4
      have o5 := HX3.out.cell 5
      have o6 := HX3.out.cell 6
      simp at p0 p1 o0 o2 o3 o4 o5 o6
      go_upto_region 7 with fail
      refine wp_region_calmE 30 (fun wx => Below w3.heap.size w3 wx) [(0, true), (1, true), (2, true), (3, false), (4, true), (5, false), (6, true), (7, false)] (.one 8 false [] .done) (by kernel_rfl) (by kernel_rfl) (Below.refl _ _).drew ?_
      refine wpPre_e rfl rfl (fun K1 hK1 => ?_)
      apply Exists.intro
      refine And.intro (fun wx hx => ?_) ?_
      · go_simp
        try rfl
      go_simp
      refine hK1 _ ?_
      clear hK1 K1
      refine wpPre_e rfl rfl (fun K1 hK1 => ?_)
      apply Exists.intro
      refine And.intro (fun wx hx => ?_) ?_
      · go_simp
        try rfl
      go_simp
      refine hK1 _ ?_
      clear hK1 K1
      refine wpPre_e rfl rfl (fun K1 hK1 => ?_)
      apply Exists.intro
      refine And.intro (fun wx hx => ?_) ?_
      · go_simp
        try rfl
      go_simp
      refine hK1 _ ?_
      clear hK1 K1
      refine wpPre_e rfl rfl (fun K1 hK1 => ?_)
      apply Exists.intro
      refine And.intro (fun wx hx => ?_) ?_
      · have e0 := below_fact hx rfl p1
        go_simp
        try rfl
      go_simp
      refine hK1 _ ?_
      clear hK1 K1
      refine wpPre_e rfl rfl (fun K1 hK1 => ?_)
      apply Exists.intro
      refine And.intro (fun wx hx => ?_) ?_
      · go_simp
        try rfl
      go_simp
      refine hK1 _ ?_
      clear hK1 K1
      refine wpPre_e rfl rfl (fun K1 hK1 => ?_)
      apply Exists.intro
      refine And.intro (fun wx hx => ?_) ?_
      · have e0 := below_fact hx rfl o4
        go_simp
        try rfl
      go_simp
      refine hK1 _ ?_
      clear hK1 K1
      refine wpPre_e rfl rfl (fun K1 hK1 => ?_)
      apply Exists.intro
      refine And.intro (fun wx hx => ?_) ?_
      · go_simp
        try rfl
      go_simp
      refine hK1 _ ?_
      clear hK1 K1
      refine wpPre_e rfl rfl (fun K1 hK1 => ?_)
      apply Exists.intro
      refine And.intro (fun wx hx => ?_) ?_
      · have e0 := below_fact hx rfl o3
        go_simp
        try rfl
      go_simp
      refine hK1 _ ?_
      clear hK1 K1
      refine wpPre_nil ?_
      refine wpTr_e rfl (fun K1 hK1 => ?_)
      refine step_callG (by first | rfl | go_simp) 50 #[.tmp 37, .tmp 39, .tmp 41] _ rfl Tryz.f50 Tryz.func50 (by kernel_rfl) rfl #[.pointer (some ⟨rb, 0, none⟩), .int .i64 o.after, .int .i64 o.n] rfl _ (HRf.out) ?_
      rintro e_ w5 ⟨rfl, hq⟩
      refine ⟨_, rfl, ?_⟩
      have HQ2 := hid hq
      clear hq
      go_simp
      refine hK1 _ _ (fun h => by cases h) ?_
      clear hK1 K1
      refine wpPre_nil ?_
      refine wpTr_done ?_
      have HZ : Hid (PZ Z w w5 pb db rb Cd Cr) := by
        obtain ⟨R', Cr', e, h5, b5, g5⟩ := HM3.out.drew.ref HQ2.out.rc
        exact PZ.ahead HBB.out ⟨⟨_, R', Cd', Cr', h5, by rw [e]; exact HRl.out.fail o.after o.n, HG3.out.trans g5 HB3.out.size⟩, HB3.out.trans ((Fr.of (Below.refl _ _).drew).trans b5)⟩
      clear p0 p1 o0 o2 o3 o4 o5 o6
      go_wp2
      exact bodyPost_ret (v := .bool true) (by simp [results, Tryz.results19, go_sem]) rfl (⟨rfl, HZ.out⟩)
    · have k8' : (o.kind == 8) = false := by simpa using k8
      clear k8
      by_cases k9 : o.kind = 9
      · have k9' : (o.kind == 9) = true := by simp [k9]
        clear k9
        have HDf : Hid (Calls Tryz.prog 51 #[.pointer (some ⟨db, 0, none⟩)] V1 fun e w' => e = .returned (.tuple #[]) ∧ RigQ (D.fell) Cd db V1 w') := dcrash_any D V1 Cd db HM1.out.dk
        go_wp2_with fail
        refine HDf.out.mono ?_
        rintro e w3 ⟨rfl, hq⟩
        have HQ := hid hq
        clear hq
        obtain ⟨Cd', hm3, hb3, hg3⟩ := HM1.out.dsk HQ.out.chg
        have HM3 := hid hm3
        have HB3 : Hid (Fr Z V1 w3) := hb3
        have HG3 : Hid (Gro V1 Cd Cr Cd' Cr) := hg3
        have HX3 := hid (HX1.out.kept ((HQ.out.chg.2).block _ HX1.out.lt HNd.out))
        clear hm3 hb3 hg3
        have HRf : Hid (Calls Tryz.prog 52 #[.pointer (some ⟨rb, 0, none⟩)] w3 fun e w' => e = .returned (.tuple #[]) ∧ RigR (R.fallen) Cr rb w3 w') := rcrash_any R w3 Cr rb HM3.out.rk
        clear p0 p1 o0 o2 o3 o4 o5 o6
        have p0 := HM3.out.bx.cell 0
        have p1 := HM3.out.bx.cell 1
        have o0 := HX3.out.cell 0
        have o2 := HX3.out.cell 2
        have o3 := HX3.out.cell 3
        have o4 := HX3.out.cell 4
        have o5 := HX3.out.cell 5
        have o6 := HX3.out.cell 6
        simp at p0 p1 o0 o2 o3 o4 o5 o6
        go_wp2_with fail
        refine HRf.out.mono ?_
        rintro e w5 ⟨rfl, hq⟩
        have HQ2 := hid hq
        clear hq
        have HZ : Hid (PZ Z w w5 pb db rb Cd Cr) := by
          obtain ⟨R', Cr', e, h5, b5, g5⟩ := HM3.out.ref HQ2.out.rc
          exact PZ.ahead HBB.out ⟨⟨_, R', Cd', Cr', h5, by rw [e]; exact HRl.out.fell, HG3.out.trans g5 HB3.out.size⟩, HB3.out.trans (b5)⟩
        clear p0 p1 o0 o2 o3 o4 o5 o6
        go_wp2
        exact bodyPost_ret (v := .bool true) (by simp [results, Tryz.results19, go_sem]) rfl (⟨rfl, HZ.out⟩)
      · have k9' : (o.kind == 9) = false := by simpa using k9
        clear k9
        by_cases k10 : o.kind = 10
        · have k10' : (o.kind == 10) = true := by simp [k10]
          clear k10
          have HRf : Hid (Calls Tryz.prog 53 #[.pointer (some ⟨rb, 0, none⟩), .slice o.K.p o.K.n o.K.c] V1.drew fun e w' => e = .returned (.tuple #[]) ∧ RsR R o.K Cr rb V1.drew w') := rrestart_any R o.K V1.drew Cr Z rb HM1.out.drew.rk (HO.out.kp.kept (Nat.le_refl _) fun _ _ _ => rfl) (fun b hb hc => (HM1.out.cr b hc).1 hb) (fun b hb => HM1.out.zs b hb)
          go_upto_region 12 with fail
          refine wp_region_calmE 30 (fun wx => Below V1.heap.size V1 wx) [(0, true), (1, true), (2, true), (3, false), (4, true), (5, false)] (.one 6 false [] .done) (by kernel_rfl) (by kernel_rfl) (Below.refl _ _).drew ?_
          refine wpPre_e rfl rfl (fun K1 hK1 => ?_)
          apply Exists.intro
          refine And.intro (fun wx hx => ?_) ?_
          · go_simp
            try rfl
          go_simp
          refine hK1 _ ?_
          clear hK1 K1
          refine wpPre_e rfl rfl (fun K1 hK1 => ?_)
          apply Exists.intro
          refine And.intro (fun wx hx => ?_) ?_
          · go_simp
            try rfl
          go_simp
          refine hK1 _ ?_
          clear hK1 K1
          refine wpPre_e rfl rfl (fun K1 hK1 => ?_)
          apply Exists.intro
          refine And.intro (fun wx hx => ?_) ?_
          · go_simp
            try rfl
          go_simp
          refine hK1 _ ?_
          clear hK1 K1
          refine wpPre_e rfl rfl (fun K1 hK1 => ?_)
          apply Exists.intro
          refine And.intro (fun wx hx => ?_) ?_
          · have e0 := below_fact hx rfl p1
            go_simp
            try rfl
          go_simp
          refine hK1 _ ?_
          clear hK1 K1
          refine wpPre_e rfl rfl (fun K1 hK1 => ?_)
          apply Exists.intro
          refine And.intro (fun wx hx => ?_) ?_
          · go_simp
            try rfl
          go_simp
          refine hK1 _ ?_
          clear hK1 K1
          refine wpPre_e rfl rfl (fun K1 hK1 => ?_)
          apply Exists.intro
          refine And.intro (fun wx hx => ?_) ?_
          · have e0 := below_fact hx rfl o6
            go_simp
            try rfl
          go_simp
          refine hK1 _ ?_
          clear hK1 K1
          refine wpPre_nil ?_
          refine wpTr_e rfl (fun K1 hK1 => ?_)
          refine step_callG (by first | rfl | go_simp) 53 #[.tmp 60, .tmp 62] _ rfl Tryz.f53 Tryz.func53 (by kernel_rfl) rfl #[.pointer (some ⟨rb, 0, none⟩), .slice o.K.p o.K.n o.K.c] rfl _ (HRf.out) ?_
          rintro e_ w3 ⟨rfl, hq⟩
          refine ⟨_, rfl, ?_⟩
          have HQ := hid hq
          clear hq
          go_simp
          refine hK1 _ _ (fun h => by cases h) ?_
          clear hK1 K1
          refine wpPre_nil ?_
          refine wpTr_done ?_
          have HBt : Hid (But Cr V1 w3) := by
            obtain ⟨_, _, _, h⟩ := HQ.out
            exact (But.refl _ _).drew.trans h
          have HX3 := hid (HX1.out.kept (HBt.out.block _ HX1.out.lt HNo.out))
          have HP3 := hid (HM1.out.bx.kept (HBt.out.block _ HM1.out.bx.lt fun e => (HM1.out.cr _ e).2.2 rfl))
          have HK3 : Hid (LT.In elInt w3 Z o.K) := (HO.out.bel (HBt.out.mono fun k _ hc => (HM1.out.cr k hc).1)).kp
          obtain ⟨i0, Kd⟩ := kindInts
          have HKd := hid Kd
          have HOw : Hid ((w3.alloc (.cells #[] 3)).drew.ownsRow w3.heap.size 3 1 (.slice (some ⟨w3.heap.size, 0, none⟩) 0 0) 0 []) := by
            have hb : Box (w3.alloc (.cells #[] 3)).drew w3.heap.size #[] 3 := Box.new w3 #[] 3
            exact ⟨rfl, .inr ⟨w3.heap.size, 0, #[], rfl, Nat.le_refl _, hb, Nat.le_refl _, Nat.zero_le _, rfl, rfl⟩⟩
          have HSrc : Hid (Src (w3.alloc (.cells #[] 3)).drew o.K.p o.K.n o.K.c 1 ((List.range o.K.n).map fun j => .int .i64 (o.K.item j))) := intSrc (HK3.out.below (((Below.refl _ _).alloc (Nat.le_refl _) _).drew))
          have HDa : Hid (∀ w4 p4 c4, Below w3.heap.size w3 w4 → w4.ownsRow w3.heap.size 3 1 (.slice p4 o.K.n c4) o.K.n ((List.range o.K.n).map fun j => .int .i64 (o.K.item j)) → Calls Tryz.prog 54 #[.pointer (some ⟨db, 0, none⟩), .slice p4 o.K.n c4] w4 fun e w' => e = .returned (.tuple #[]) ∧ RsQ D ⟨p4, o.K.n, c4, o.K.item⟩ Cd db w4 w') := fun w4 p4 c4 hb4 ho4 => by
            refine drestart_any D ⟨p4, o.K.n, c4, o.K.item⟩ w4 Cd db (HM1.out.dkr HBt.out hb4) ?_
            refine (intRow ho4 (fun j hj => HK3.out.each j hj) (by have := HO.out.kl; omega)).mono fun k hk hl hc => ?_
            have h1 := (HM1.out.cd k hc).2.1
            have h2 := HBt.out.size
            omega
          clear p0 p1 o0 o2 o3 o4 o5 o6
          have p0 := HP3.out.cell 0
          have p1 := HP3.out.cell 1
          have o0 := HX3.out.cell 0
          have o2 := HX3.out.cell 2
          have o3 := HX3.out.cell 3
          have o4 := HX3.out.cell 4
          have o5 := HX3.out.cell 5
          have o6 := HX3.out.cell 6
          simp at p0 p1 o0 o2 o3 o4 o5 o6
          clear Kd
          go_upto_region 13 with fail
          refine wp_region_calmE 30 (fun wx => Below w3.heap.size w3 wx) [(0, true), (1, true), (2, true), (3, false), (5, true), (6, false)] (.one 4 true [] (.one 7 true [] (.one 8 false [] .done))) (by kernel_rfl) (by kernel_rfl) (Below.refl _ _).drew ?_
          refine wpPre_e rfl rfl (fun K1 hK1 => ?_)
          apply Exists.intro
          refine And.intro (fun wx hx => ?_) ?_
          · go_simp
            try rfl
          go_simp
          refine hK1 _ ?_
          clear hK1 K1
          refine wpPre_e rfl rfl (fun K1 hK1 => ?_)
          apply Exists.intro
          refine And.intro (fun wx hx => ?_) ?_
          · go_simp
            try rfl
          go_simp
          refine hK1 _ ?_
          clear hK1 K1
          refine wpPre_e rfl rfl (fun K1 hK1 => ?_)
          apply Exists.intro
          refine And.intro (fun wx hx => ?_) ?_
          · go_simp
            try rfl
          go_simp
          refine hK1 _ ?_
          clear hK1 K1
          refine wpPre_e rfl rfl (fun K1 hK1 => ?_)
          apply Exists.intro
          refine And.intro (fun wx hx => ?_) ?_
          · have e0 := below_fact hx rfl p0
            go_simp
            try rfl
          go_simp
          refine hK1 _ ?_
          clear hK1 K1
          refine wpPre_e rfl rfl (fun K1 hK1 => ?_)
          apply Exists.intro
          refine And.intro (fun wx hx => ?_) ?_
          · go_simp
            try rfl
          go_simp
          refine hK1 _ ?_
          clear hK1 K1
          refine wpPre_e rfl rfl (fun K1 hK1 => ?_)
          apply Exists.intro
          refine And.intro (fun wx hx => ?_) ?_
          · have e0 := below_fact hx rfl o6
            go_simp
            try rfl
          go_simp
          refine hK1 _ ?_
          clear hK1 K1
          refine wpPre_nil ?_
          refine wpTr_e rfl (fun K1 hK1 => ?_)
          go_simp
          have HBa : Hid (Below w3.heap.size w3 (w3.alloc (.cells #[] 3)).drew) := ((Below.refl _ _).alloc (Nat.le_refl _) _).drew
          refine hK1 _ _ (fun _ => HBa.out) ?_
          clear hK1 K1
          refine wpPre_nil ?_
          refine wpTr_e rfl (fun K1 hK1 => ?_)
          refine step_appS rfl (.tmp 68) (.tmp 70) 32 3 i0 _ 1 8 HKd.out rfl w3.heap.size (.slice (some ⟨w3.heap.size, 0, none⟩) 0 0) 0 [] rfl HOw.out o.K.p o.K.n o.K.c _ rfl HSrc.out (fun u hu => by obtain ⟨j, _, rfl⟩ := List.mem_map.1 hu; rfl) (by have := HO.out.kl; omega) (by have := HO.out.kl; omega) (by have := HBa.out.size; omega) ?_
          intro v4 w4 ho hg hn
          rw [Nat.zero_add, List.nil_append] at ho
          obtain ⟨p4, c4, hv4⟩ := ownsRow_slice ho
          subst hv4
          have HO4 := hid ho
          have HB4 : Hid (Below w3.heap.size w3 w4) := HBa.out.grown hg HBa.out.size (fun k hk => (HOw.out.lt k hk).1)
          clear ho hg hn
          have HDf := hid (HDa.out w4 p4 c4 HB4.out HO4.out)
          go_simp
          refine hK1 _ _ (fun _ => HB4.out) ?_
          clear hK1 K1
          refine wpPre_nil ?_
          refine wpTr_e rfl (fun K1 hK1 => ?_)
          refine step_callG (by first | rfl | go_simp) 54 #[.tmp 67, .tmp 71] _ rfl Tryz.f54 Tryz.func54 (by kernel_rfl) rfl #[.pointer (some ⟨db, 0, none⟩), .slice p4 o.K.n c4] rfl _ (HDf.out) ?_
          rintro e_ w5 ⟨rfl, hd⟩
          refine ⟨_, rfl, ?_⟩
          have HD := hid hd
          clear hd
          go_simp
          refine hK1 _ _ (fun h => by cases h) ?_
          clear hK1 K1
          refine wpPre_nil ?_
          refine wpTr_done ?_
          have HZ : Hid (PZ Z w w5 pb db rb Cd Cr) := by
            obtain ⟨YS, Di, h1, h2, h3, h4, hc⟩ := HD.out
            obtain ⟨Ri, hK, hI, hb⟩ := HQ.out
            have hrel : Rel (Di.rig false 0 0 0 false) { Ri with down := false : RK }.ak := HRl.out.restart (K := o.K) (fun f hf => (HM1.out.dk.each f hf).nm) HM1.out.dk.nodup h1 h2 h3 h4 hK
            have hz := HM1.out.drew.duo ⟨⟨_, rfl, hI⟩, hb⟩ HB4.out hc hrel
            exact PZ.ahead (HBB.out.trans (Fr.of (Below.refl _ _).drew)) hz
          clear p0 p1 o0 o2 o3 o4 o5 o6
          go_wp2
          exact bodyPost_ret (v := .bool true) (by simp [results, Tryz.results19, go_sem]) rfl (⟨rfl, HZ.out⟩)
        · have k10' : (o.kind == 10) = false := by simpa using k10
          clear k10
          by_cases k11 : o.kind = 11
          · have k11' : (o.kind == 11) = true := by simp [k11]
            clear k11
            have HPx : Hid (∀ wx, But Cd V1 wx → wx.cell? ⟨pb, 0, none⟩ = some (.pointer (some ⟨db, 0, none⟩)) ∧ wx.cell? ⟨pb, 1, none⟩ = some (.pointer (some ⟨rb, 0, none⟩)) ∧ wx.cell? ⟨w.heap.size, 2, none⟩ = some (.string o.name) ∧ wx.cell? ⟨w.heap.size, 3, none⟩ = some (.int .i64 o.n)) := fun wx hx => by
              have h1 := hx.block pb HM1.out.bx.lt fun e => (HM1.out.cd _ e).2.2.1 rfl
              have h2 := hx.block _ HX1.out.lt HNd.out
              exact ⟨(cell_kept h1).trans p0, (cell_kept h1).trans p1, (cell_kept h2).trans o2, (cell_kept h2).trans o3⟩
            have HDf : Hid (Calls Tryz.prog 55 #[.pointer (some ⟨db, 0, none⟩), .string o.name, .int .i64 o.n] V1.drew fun e w' => ∃ x : Bool, e = .returned (.bool x) ∧ SpQ D o.name o.n Cd db V1.drew e w') := (dspoil_any D o.name o.n V1.drew Cd db HM1.out.drew.dk HO.out.nm HO.out.n1.2 HO.out.n1.1).mono fun e w' h => ⟨_, h.1, h⟩
            go_upto_region 15 with fail
            refine wp_region_calmE 30 (fun wx => But Cd V1 wx) [(0, true), (1, true), (2, true), (3, false), (4, true), (5, false), (6, true), (7, false), (9, true), (10, true), (11, true), (12, false), (13, true), (14, false), (15, true), (16, false)] (.one 8 true [] (.one 17 false [(18, true), (19, true)] .done)) (by kernel_rfl) (by kernel_rfl) (But.refl _ _).drew ?_
            refine wpPre_e rfl rfl (fun K1 hK1 => ?_)
            apply Exists.intro
            refine And.intro (fun wx hx => ?_) ?_
            · go_simp
              try rfl
            go_simp
            refine hK1 _ ?_
            clear hK1 K1
            refine wpPre_e rfl rfl (fun K1 hK1 => ?_)
            apply Exists.intro
            refine And.intro (fun wx hx => ?_) ?_
            · go_simp
              try rfl
            go_simp
            refine hK1 _ ?_
            clear hK1 K1
            refine wpPre_e rfl rfl (fun K1 hK1 => ?_)
            apply Exists.intro
            refine And.intro (fun wx hx => ?_) ?_
            · go_simp
              try rfl
            go_simp
            refine hK1 _ ?_
            clear hK1 K1
            refine wpPre_e rfl rfl (fun K1 hK1 => ?_)
            apply Exists.intro
            refine And.intro (fun wx hx => ?_) ?_
            · have e0 := (HPx.out wx (hx.resolve_left (by simp))).1
              go_simp
              try rfl
            go_simp
            refine hK1 _ ?_
            clear hK1 K1
            refine wpPre_e rfl rfl (fun K1 hK1 => ?_)
            apply Exists.intro
            refine And.intro (fun wx hx => ?_) ?_
            · go_simp
              try rfl
            go_simp
            refine hK1 _ ?_
            clear hK1 K1
            refine wpPre_e rfl rfl (fun K1 hK1 => ?_)
            apply Exists.intro
            refine And.intro (fun wx hx => ?_) ?_
            · have e0 := (HPx.out wx (hx.resolve_left (by simp))).2.2.1
              go_simp
              try rfl
            go_simp
            refine hK1 _ ?_
            clear hK1 K1
            refine wpPre_e rfl rfl (fun K1 hK1 => ?_)
            apply Exists.intro
            refine And.intro (fun wx hx => ?_) ?_
            · go_simp
              try rfl
            go_simp
            refine hK1 _ ?_
            clear hK1 K1
            refine wpPre_e rfl rfl (fun K1 hK1 => ?_)
            apply Exists.intro
            refine And.intro (fun wx hx => ?_) ?_
            · have e0 := (HPx.out wx (hx.resolve_left (by simp))).2.2.2
              go_simp
              try rfl
            go_simp
            refine hK1 _ ?_
            clear hK1 K1
            refine wpPre_e rfl rfl (fun K1 hK1 => ?_)
            apply Exists.intro
            refine And.intro (fun wx hx => ?_) ?_
            · go_simp
              try rfl
            go_simp
            refine hK1 _ ?_
            clear hK1 K1
            refine wpPre_e rfl rfl (fun K1 hK1 => ?_)
            apply Exists.intro
            refine And.intro (fun wx hx => ?_) ?_
            · go_simp
              try rfl
            go_simp
            refine hK1 _ ?_
            clear hK1 K1
            refine wpPre_e rfl rfl (fun K1 hK1 => ?_)
            apply Exists.intro
            refine And.intro (fun wx hx => ?_) ?_
            · go_simp
              try rfl
            go_simp
            refine hK1 _ ?_
            clear hK1 K1
            refine wpPre_e rfl rfl (fun K1 hK1 => ?_)
            apply Exists.intro
            refine And.intro (fun wx hx => ?_) ?_
            · have e0 := (HPx.out wx (hx.resolve_left (by simp))).2.1
              go_simp
              try rfl
            go_simp
            refine hK1 _ ?_
            clear hK1 K1
            refine wpPre_e rfl rfl (fun K1 hK1 => ?_)
            apply Exists.intro
            refine And.intro (fun wx hx => ?_) ?_
            · go_simp
              try rfl
            go_simp
            refine hK1 _ ?_
            clear hK1 K1
            refine wpPre_e rfl rfl (fun K1 hK1 => ?_)
            apply Exists.intro
            refine And.intro (fun wx hx => ?_) ?_
            · have e0 := (HPx.out wx (hx.resolve_left (by simp))).2.2.1
              go_simp
              try rfl
            go_simp
            refine hK1 _ ?_
            clear hK1 K1
            refine wpPre_e rfl rfl (fun K1 hK1 => ?_)
            apply Exists.intro
            refine And.intro (fun wx hx => ?_) ?_
            · go_simp
              try rfl
            go_simp
            refine hK1 _ ?_
            clear hK1 K1
            refine wpPre_e rfl rfl (fun K1 hK1 => ?_)
            apply Exists.intro
            refine And.intro (fun wx hx => ?_) ?_
            · have e0 := (HPx.out wx (hx.resolve_left (by simp))).2.2.2
              go_simp
              try rfl
            go_simp
            refine hK1 _ ?_
            clear hK1 K1
            refine wpPre_nil ?_
            refine wpTr_e rfl (fun K1 hK1 => ?_)
            refine step_callG (by first | rfl | go_simp) 55 #[.tmp 78, .tmp 80, .tmp 82] _ rfl Tryz.f55 Tryz.func55 (by kernel_rfl) rfl #[.pointer (some ⟨db, 0, none⟩), .string o.name, .int .i64 o.n] rfl _ (HDf.out) ?_
            rintro e_ w3 ⟨x3, rfl, hq⟩
            refine ⟨_, rfl, ?_⟩
            have HQ := hid hq
            have HBt : Hid (But Cd V1 w3) := (But.refl _ _).drew.trans (spq_but hq)
            obtain ⟨D3, hc3⟩ := spq_chg hq
            obtain ⟨Cd', hm3, hb3, hg3⟩ := HM1.out.drew.dsk hc3
            have HM3 := hid hm3
            have HRf := hid (rspoil_any R o.name o.n w3 Cr rb HM3.out.rk HO.out.n1.2 HO.out.n1.1)
            clear hq hm3 hb3 hc3 hg3
            go_simp
            refine hK1 _ _ (fun _ => HBt.out) ?_
            clear hK1 K1
            refine wpPre_nil ?_
            refine wpTr_e rfl (fun K1 hK1 => ?_)
            refine step_callG (by first | rfl | go_simp) 56 #[.tmp 87, .tmp 89, .tmp 91] _ rfl Tryz.f56 Tryz.func56 (by kernel_rfl) rfl #[.pointer (some ⟨rb, 0, none⟩), .string o.name, .int .i64 o.n] rfl _ (HRf.out.mono fun e w' h => SpR.isB h) ?_
            rintro e_ w5 ⟨x5, rfl, hq⟩
            refine ⟨_, rfl, ?_⟩
            have HQ2 := hid hq
            clear hq
            go_simp
            refine hK1 _ _ (fun h => by cases h) ?_
            clear hK1 K1
            refine wpPre_e rfl rfl (fun K1 hK1 => ?_)
            apply Exists.intro
            refine And.intro (fun wx hx => ?_) ?_
            · go_simp
              try rfl
            go_simp
            refine hK1 _ ?_
            clear hK1 K1
            refine wpPre_e rfl rfl (fun K1 hK1 => ?_)
            apply Exists.intro
            refine And.intro (fun wx hx => ?_) ?_
            · go_simp
              try rfl
            go_simp
            refine hK1 _ ?_
            clear hK1 K1
            refine wpPre_nil ?_
            refine wpTr_done ?_
            have HDuo := hid (duo_spoil HM1.out.drew HRl.out HQ.out HQ2.out)
            clear p0 p1 o0 o2 o3 o4 o5 o6
            obtain ⟨x, hx1, hx2, hz⟩ := HDuo.out
            simp only [Ending.returned.injEq, Value.bool.injEq] at hx1 hx2
            obtain rfl := hx1
            obtain rfl := hx2
            have HZ := hid hz
            have hbb : ∀ y : Bool, (y == y) = true := fun y => by simp
            clear hz HDuo
            go_wp2
            exact bodyPost_ret (v := .bool true) (by simp [results, Tryz.results19, go_sem]) rfl ⟨rfl, PZ.ahead (HBB.out.trans (Fr.of (Below.refl _ _).drew)) HZ.out⟩
          · have k11' : (o.kind == 11) = false := by simpa using k11
            clear k11
            go_wp2
            exact bodyPost_ret (v := .bool true) (by simp [results, Tryz.results19, go_sem]) rfl (⟨rfl, PZ.ahead HBB.out ⟨⟨D, R, Cd, Cr, HM1.out, HRl.out, Gro.refl _ _ _⟩, But.refl _ _⟩⟩)
end Go.Proofs.YtebiidfdokhpaabGreatDoor
