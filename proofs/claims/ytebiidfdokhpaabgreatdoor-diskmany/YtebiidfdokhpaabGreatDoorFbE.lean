import Derived.Test.YtebiidfdokhpaabGreatDoorPack16
import Derived.Test.YtebiidfdokhpaabGreatDoorFbD
namespace Go.Proofs.YtebiidfdokhpaabGreatDoor
open Go.RowKit
set_option maxRecDepth 8000
set_option maxHeartbeats 4000000 in
theorem listed_yes (X Y : LT ByteArray) (w : World) (S S' : Nat → Prop) (hX : LT.In elStr w S X) (hY : LT.In elStr w S' Y) (hn : Y.n = X.n) (he : ∀ j, j < X.n → Y.item j = X.item j) :
    Calls Tryz.prog 46 #[.slice X.p X.n X.c, .slice Y.p Y.n Y.c] w fun e w' => e = .returned (.bool true) ∧ Below w.heap.size w w' := by
  have HX := hid hX
  have HY := hid hY
  have HE := hid he
  have hnn := hX.nn
  rw [hn]
  have HNn := hid hn
  clear hX hY he hn
  go_enter Tryz.func46, Tryz.ntmps46
  go_wp2_with fail
  go_loopw [5] (fun x wr => ∃ i : Nat, i ≤ X.n ∧ x = .int .i64 (i : Int) ∧ Below w.heap.size w wr) (fun x _ => X.n - (intOf x).toNat)
  case atStart => exact ⟨0, Nat.zero_le _, rfl, Below.refl _ _⟩
  case round =>
    obtain ⟨i, hi, rfl, hbw⟩ := hrel
    have HBw := hid hbw
    clear hbw
    by_cases hlt : i < X.n
    · have hlt' : (i : Int) < (X.n : Int) := by omega
      obtain ⟨b1, o1, hp1, _, hb1, hat1⟩ := HX.out.at_ (by omega)
      obtain ⟨b2, o2, hp2, _, hb2, hat2⟩ := HY.out.at_ (by have := HNn.out; omega)
      rw [hp1, hp2]
      have e1 : o1 + i * elStr.size + 0 = o1 + i := by show o1 + i * 1 + 0 = _; omega
      have e2 : o2 + i * elStr.size + 0 = o2 + i := by show o2 + i * 1 + 0 = _; omega
      have h1 := hat1 i hlt 0 _ rfl
      have h2 := hat2 i (by have := HNn.out; omega) 0 _ rfl
      rw [e1] at h1
      rw [e2, HE.out i hlt] at h2
      have c0 : wr.cell? ⟨b1, o1 + i, none⟩ = some (.string (X.item i)) := (World.cell?_of_block (a := ⟨b1, o1 + i, none⟩) (HBw.out.block b1 hb1)).trans h1
      have c1 : wr.cell? ⟨b2, o2 + i, none⟩ = some (.string (X.item i)) := (World.cell?_of_block (a := ⟨b2, o2 + i, none⟩) (HBw.out.block b2 hb2)).trans h2
      have HPp := hid (And.intro hp1 hp2)
      have hs : ((X.item i).toList == (X.item i).toList) = true := by simp
      clear hat1 hat2 hp1 hp2 e1 e2 h1 h2
      go_upto_region 6 with fail
      refine wp_region_calmE 30 (fun wx => Below wr.heap.size wr wx) [(0, true), (1, true), (2, true), (3, false), (4, true), (5, true), (6, true), (7, false), (8, true)] .done (by kernel_rfl) (by kernel_rfl) (Below.refl _ _).drew ?_
      refine wpPre_e rfl rfl (fun K1 hK1 => ?_)
      apply Exists.intro
      refine And.intro (fun wx hx => ?_) ?_
      · go_simp
        try rfl
      go_simp
      refine hK1 _ ?_
      clear hK1 K1
      refine wpPre_e rfl rfl (fun K1 hK1 => ?_)
      apply Exists.intro
      refine And.intro (fun wx hx => ?_) ?_
      · go_simp
        try rfl
      go_simp
      refine hK1 _ ?_
      clear hK1 K1
      refine wpPre_e rfl rfl (fun K1 hK1 => ?_)
      apply Exists.intro
      refine And.intro (fun wx hx => ?_) ?_
      · go_simp
        try rfl
      go_simp
      refine hK1 _ ?_
      clear hK1 K1
      refine wpPre_e rfl rfl (fun K1 hK1 => ?_)
      apply Exists.intro
      refine And.intro (fun wx hx => ?_) ?_
      · have e0 := below_fact hx rfl c0
        go_simp
        try rfl
      go_simp
      refine hK1 _ ?_
      clear hK1 K1
      refine wpPre_e rfl rfl (fun K1 hK1 => ?_)
      apply Exists.intro
      refine And.intro (fun wx hx => ?_) ?_
      · go_simp
        try rfl
      go_simp
      refine hK1 _ ?_
      clear hK1 K1
      refine wpPre_e rfl rfl (fun K1 hK1 => ?_)
      apply Exists.intro
      refine And.intro (fun wx hx => ?_) ?_
      · go_simp
        try rfl
      go_simp
      refine hK1 _ ?_
      clear hK1 K1
      refine wpPre_e rfl rfl (fun K1 hK1 => ?_)
      apply Exists.intro
      refine And.intro (fun wx hx => ?_) ?_
      · go_simp
        try rfl
      go_simp
      refine hK1 _ ?_
      clear hK1 K1
      refine wpPre_e rfl rfl (fun K1 hK1 => ?_)
      apply Exists.intro
      refine And.intro (fun wx hx => ?_) ?_
      · have e0 := below_fact hx rfl c1
        go_simp
        try rfl
      go_simp
      refine hK1 _ ?_
      clear hK1 K1
      refine wpPre_e rfl rfl (fun K1 hK1 => ?_)
      apply Exists.intro
      refine And.intro (fun wx hx => ?_) ?_
      · go_simp
        try rfl
      go_simp
      refine hK1 _ ?_
      clear hK1 K1
      refine wpPre_nil ?_
      refine wpTr_done ?_
      clear c0 c1
      go_wp2
      go_roundw
      case rel => exact ⟨i + 1, by omega, by go_num, HBw.out.drew⟩
      case measure => simp [intOf]; omega
    · have hlt' : ¬ (i : Int) < (X.n : Int) := by omega
      go_wp2
      exact bodyPost_ret (v := .bool true) (by simp [results, Tryz.results46, go_sem]) rfl ⟨rfl, HBw.out⟩
/-- Read of both -/
theorem reach_eq {D : DK} {R : RK} (h : Rel D R.ak) (s : ByteArray) : reachE D s = ahE R s false := by
  have hdn : D.down = R.down := h.dn
  unfold reachE ahE
  rw [hdn]
  simp
def RbQ (D : DK) (s : ByteArray) (w : World) (e : Ending) (w' : World) : Prop :=
  ∃ (p : Option Addr) (c : Nat) (zs : List Int) (x : Int), e = .returned (.tuple #[.slice p zs.length c, .int .i64 x]) ∧ zs = readZ D s ∧ x = readE D s ∧ OwnBy w.heap.size w' (.slice p zs.length c) zs ∧ Below w.heap.size w w'
theorem read_eq {D : DK} {R : RK} {s : ByteArray} {w w' : World} {e : Ending} (h : Rel D R.ak) (hnd : (D.fs.map FT.name).Nodup) (hq : RdQ R s w e w') : RbQ D s w e w' := by
  have hre := reach_eq h s
  obtain ⟨hb, ⟨h0, rfl⟩ | ⟨h0, hno, rfl⟩ | ⟨h0, i, g, p, c, hi, rfl, ho⟩⟩ := hq
  · refine ⟨none, 0, [], ahE R s false, rfl, ?_, ?_, World.ownsRow_nil _ _ _ _, hb⟩
    · rw [readZ, if_neg (by rw [hre]; exact h0)]
    · rw [readE, if_neg (by rw [hre]; exact h0), hre]
  · have hf : fnd D s = none := by
      cases hf : fnd D s with
      | none => rfl
      | some f =>
        obtain ⟨i, g, hi⟩ := h.some hf
        exact absurd hi.2 (hno g (List.mem_of_getElem? hi.1))
    refine ⟨none, 0, [], 103, rfl, ?_, ?_, World.ownsRow_nil _ _ _ _, hb⟩
    · rw [readZ, if_pos (by rw [hre]; exact h0), hf]; rfl
    · rw [readE, if_pos (by rw [hre]; exact h0), hf]; rfl
  · cases hf : fnd D s with
    | none => exact absurd hi.2 (h.none hf g (List.mem_of_getElem? hi.1))
    | some f =>
      obtain ⟨k1, k2, k3⟩ := key_eqs (h.key hnd hf hi)
      refine ⟨p, c, g.su ++ g.lo, 0, rfl, ?_, ?_, ho, hb⟩
      · rw [readZ, if_pos (by rw [hre]; exact h0), hf]; exact k2.symm
      · rw [readE, if_pos (by rw [hre]; exact h0), hf]; rfl
theorem read_eq0 {D : DK} {s : ByteArray} {w w' : World} {e : Ending} (hq : ReadQ D s w e w') : RbQ D s w e w' := by
  obtain ⟨p, c, rfl, ho, hb⟩ := hq
  exact ⟨p, c, _, _, rfl, rfl, rfl, ho, hb⟩
/-- List of both -/
def lsE (A : AK) : Int := if A.down = true then 100 else 0
def lsL (A : AK) : List ByteArray := if A.down = true then [] else A.ks.map Prod.fst
def LsQ (A : AK) (w : World) (e : Ending) (w' : World) : Prop :=
  ∃ (u : LT ByteArray) (x : Int), e = .returned (.tuple #[.slice u.p u.n u.c, .int .i64 x]) ∧ x = lsE A ∧ LT.In elStr w' (fun k => w.heap.size ≤ k) u ∧ u.n = (lsL A).length ∧ (∀ j, j < u.n → (lsL A)[j]? = some (u.item j)) ∧ Below w.heap.size w w'
theorem list_eq0 {D : DK} {A : AK} {w w' : World} {e : Ending} (h : Rel D A) (hnm : ∀ f ∈ D.fs, Nm f.name) (hnd : (D.fs.map FT.name).Nodup) (hq : ListQ D w e w') : LsQ A w e w' := by
  obtain ⟨hb, h1, h2⟩ := hq
  have hdn := h.dn
  cases hd : A.down with
  | true =>
    rw [hd] at hdn
    refine ⟨⟨none, 0, 0, fun _ => ⟨#[]⟩⟩, 100, h1 hdn, by simp [lsE, hd], LT.In.none_ _ _ _ none 0 _ (Nat.zero_le _) (fun _ => rfl), by simp [lsL, hd], fun j hj => absurd hj (Nat.not_lt_zero _), hb⟩
  | false =>
    rw [hd] at hdn
    obtain ⟨u, YS, rfl, hu, hp, hs, hn, hk⟩ := h2 hdn
    have ho := h.order hnm hnd hp hs
    have hl : lsL A = YS.map FT.name := by
      rw [lsL, if_neg (by rw [hd]; simp), ← ho, List.map_map]
      rfl
    refine ⟨u, 0, rfl, by simp [lsE, hd], hu, by rw [hl, List.length_map, hn], fun j hj => ?_, hb⟩
    obtain ⟨f, hf, he⟩ := hk j hj
    rw [hl, List.getElem?_map, hf, he]
    rfl
theorem list_eq1 {R : RK} {w w' : World} {e : Ending} (hq : RlQ R w e w') : LsQ R.ak w e w' := by
  obtain ⟨hb, ⟨hd, rfl⟩ | ⟨hd, u, rfl, hu, hn, hk⟩⟩ := hq
  · have hd' : R.ak.down = true := hd
    exact ⟨⟨none, 0, 0, fun _ => ⟨#[]⟩⟩, 100, rfl, by simp [lsE, hd'], LT.In.none_ _ _ _ none 0 _ (Nat.zero_le _) (fun _ => rfl), by simp [lsL, hd'], fun j hj => absurd hj (Nat.not_lt_zero _), hb⟩
  · have hd' : R.ak.down = false := hd
    have hl : lsL R.ak = R.fs.map RF.name := by
      rw [lsL, if_neg (by rw [hd']; simp), ak_ks, List.map_map]
      rfl
    refine ⟨u, 0, rfl, by simp [lsE, hd'], hu, by rw [hl, List.length_map, hn], fun j hj => ?_, hb⟩
    have hjl : j < R.fs.length := by omega
    rw [hl, List.getElem?_map, List.getElem?_eq_getElem hjl, hk j _ (List.getElem?_eq_getElem hjl)]
    rfl
/-- Files of both -/
theorem files_same {D : DK} {R : RK} (h : Rel D R.ak) (hnm : ∀ f ∈ D.fs, Nm f.name) (hnd : (D.fs.map FT.name).Nodup) {u v : LT FA} {YS : List FT} (hp : YS.Perm D.fs) (hs : YS.Pairwise fun a b => ¬ cmpN b.name a.name < 0) (hun : u.n = YS.length) (huk : ∀ j, j < u.n → ∃ f, YS[j]? = some f ∧ (u.item j).key = f.key) (hvn : v.n = R.lt.n) (hvk : ∀ j, j < R.lt.n → (v.item j).key = (R.lt.item j).key) : v.n = u.n ∧ ∀ j, j < u.n → (v.item j).key = (u.item j).key := by
  have ho : YS.map FT.key = R.fs.map RF.key := h.order hnm hnd hp hs
  have hlen : YS.length = R.fs.length := by have := congrArg List.length ho; simpa using this
  have hltn := R.lt_n
  refine ⟨by omega, fun j hj => ?_⟩
  obtain ⟨f, hf, hk⟩ := huk j hj
  rw [hvk j (by omega), hk]
  have hjl : j < R.fs.length := by omega
  have h1 : R.lt.item j = (R.fs[j]).ro := by
    show (R.fs.map RF.ro).getD j z0R = _
    rw [List.getD_eq_getElem?_getD, List.getElem?_map, List.getElem?_eq_getElem hjl]
    rfl
  rw [h1, ro_key]
  have h2 := congrArg (fun L => L[j]?) ho
  simp only [List.getElem?_map, hf, List.getElem?_eq_getElem hjl, Option.map_some] at h2
  exact (Option.some.inj h2).symm
def LkQ (Z : Nat → Prop) (w : World) (pb db rb : Nat) (Cd Cr : Nat → Prop) (e : Ending) (w' : World) : Prop := e = .returned (.bool true) ∧ PZ Z w w' pb db rb Cd Cr
set_option maxHeartbeats 16000000 in
theorem looks_any (o : OpD) (w : World) (Z : Nat → Prop) (pb db rb : Nat) (D : DK) (R : RK) (Cd Cr : Nat → Prop) (hM : MP Z w pb db rb D R Cd Cr) (hR : Rel D R.ak) (ho : o.In w Z) :
    Calls Tryz.prog 18 #[.pointer (some ⟨pb, 0, none⟩), .agg o.cs] w fun e w' => LkQ Z w pb db rb Cd Cr e w' := by
  obtain ⟨V1, hV1⟩ : ∃ V, V = w.alloc (.cells o.cs 34) := ⟨_, rfl⟩
  have HB1 : Hid (Below w.heap.size w V1) := by show Below _ _ _; rw [hV1]; exact (Below.refl _ _).alloc (Nat.le_refl _) _
  have HX1 : Hid (Box V1 w.heap.size o.cs 34) := by show Box _ _ _ _; rw [hV1]; exact Box.new _ _ _
  have HM1 : Hid (MP Z V1 pb db rb D R Cd Cr) := (hM.bel HB1.out).1
  have HBB : Hid (Fr Z w V1) := (hM.bel HB1.out).2
  have HO : Hid (o.In V1 Z) := ho.bel HBB.out
  have HRl := hid hR
  have HV1 := hid hV1
  have HPb : Hid (pb ≠ w.heap.size) := by have := hM.bx.lt; show pb ≠ w.heap.size; omega
  clear hM hR ho hV1
  go_enter Tryz.func18, Tryz.ntmps18
  go_upto_region 1 with fail
  simp only [OpD.cs] at HV1 HX1
  simp only [OpD.cs]
  rw [← HV1.out]
  have p0 := HM1.out.bx.cell 0
  have p1 := HM1.out.bx.cell 1
  have o0 := HX1.out.cell 0
  have o2 := HX1.out.cell 2
  have o3 := HX1.out.cell 3
  have o4 := HX1.out.cell 4
  have o5 := HX1.out.cell 5
  have o6 := HX1.out.cell 6
  simp at p0 p1 o0 o2 o3 o4 o5 o6
  by_cases k5 : o.kind = 5
  · have k5' : (o.kind == 5) = true := by simp [k5]
    clear k5
    have HRd : Hid (Calls Tryz.prog 42 #[.pointer (some ⟨db, 0, none⟩), .string o.name] V1.drew fun e w' => RbQ D o.name V1.drew e w') := (dread_any D o.name V1.drew Cd db HM1.out.drew.dk HO.out.nm).mono fun e w' h => read_eq0 h
    go_upto_region 3 with fail
    refine wp_region_calmE 30 (fun wx => Below V1.heap.size V1 wx) [(0, true), (1, true), (2, true), (3, false), (4, true), (5, false)] (.one 6 false [(7, true), (8, true), (9, true), (10, true), (11, true)] .done) (by kernel_rfl) (by kernel_rfl) (Below.refl _ _).drew ?_
    refine wpPre_e rfl rfl (fun K1 hK1 => ?_)
    apply Exists.intro
    refine And.intro (fun wx hx => ?_) ?_
    · go_simp
      try rfl
    go_simp
    refine hK1 _ ?_
    clear hK1 K1
    refine wpPre_e rfl rfl (fun K1 hK1 => ?_)
    apply Exists.intro
    refine And.intro (fun wx hx => ?_) ?_
    · go_simp
      try rfl
    go_simp
    refine hK1 _ ?_
    clear hK1 K1
    refine wpPre_e rfl rfl (fun K1 hK1 => ?_)
    apply Exists.intro
    refine And.intro (fun wx hx => ?_) ?_
    · go_simp
      try rfl
    go_simp
    refine hK1 _ ?_
    clear hK1 K1
    refine wpPre_e rfl rfl (fun K1 hK1 => ?_)
    apply Exists.intro
    refine And.intro (fun wx hx => ?_) ?_
    · have e0 := below_fact hx rfl p0
      go_simp
      try rfl
    go_simp
    refine hK1 _ ?_
    clear hK1 K1
    refine wpPre_e rfl rfl (fun K1 hK1 => ?_)
    apply Exists.intro
    refine And.intro (fun wx hx => ?_) ?_
    · go_simp
      try rfl
    go_simp
    refine hK1 _ ?_
    clear hK1 K1
    refine wpPre_e rfl rfl (fun K1 hK1 => ?_)
    apply Exists.intro
    refine And.intro (fun wx hx => ?_) ?_
    · have e0 := below_fact hx rfl o2
      go_simp
      try rfl
    go_simp
    refine hK1 _ ?_
    clear hK1 K1
    refine wpPre_nil ?_
    refine wpTr_e rfl (fun K1 hK1 => ?_)
    refine step_callG (by first | rfl | go_simp) 42 #[.tmp 21, .tmp 23] _ rfl Tryz.f42 Tryz.func42 (by kernel_rfl) rfl #[.pointer (some ⟨db, 0, none⟩), .string o.name] rfl _ (HRd.out) ?_
    rintro e_ w3 ⟨p3, c3, z3, x3, rfl, hz3, hx3, ho3, hb3⟩
    refine ⟨_, rfl, ?_⟩
    have HB3 : Hid (Below V1.heap.size V1 w3) := (Below.refl _ _).drew.trans hb3
    have HO3 := hid ho3
    have HZ3 := hid (And.intro hz3 hx3)
    clear ho3 hb3 hz3 hx3
    go_simp
    refine hK1 _ _ (fun h => by cases h) ?_
    clear hK1 K1
    refine wpPre_e rfl rfl (fun K1 hK1 => ?_)
    apply Exists.intro
    refine And.intro (fun wx hx => ?_) ?_
    · go_simp
      try rfl
    go_simp
    refine hK1 _ ?_
    clear hK1 K1
    refine wpPre_e rfl rfl (fun K1 hK1 => ?_)
    apply Exists.intro
    refine And.intro (fun wx hx => ?_) ?_
    · go_simp
      try rfl
    go_simp
    refine hK1 _ ?_
    clear hK1 K1
    refine wpPre_e rfl rfl (fun K1 hK1 => ?_)
    apply Exists.intro
    refine And.intro (fun wx hx => ?_) ?_
    · go_simp
      try rfl
    go_simp
    refine hK1 _ ?_
    clear hK1 K1
    refine wpPre_e rfl rfl (fun K1 hK1 => ?_)
    apply Exists.intro
    refine And.intro (fun wx hx => ?_) ?_
    · go_simp
      try rfl
    go_simp
    refine hK1 _ ?_
    clear hK1 K1
    refine wpPre_e rfl rfl (fun K1 hK1 => ?_)
    apply Exists.intro
    refine And.intro (fun wx hx => ?_) ?_
    · go_simp
      try rfl
    go_simp
    refine hK1 _ ?_
    clear hK1 K1
    refine wpPre_nil ?_
    refine wpTr_done ?_
    have HM3 := hid (HM1.out.bel HB3.out).1
    have HX3 := hid (HX1.out.below HB3.out)
    have HRr : Hid (Calls Tryz.prog 43 #[.pointer (some ⟨rb, 0, none⟩), .string o.name] w3.drew fun e w' => RbQ D o.name w3.drew e w') := (rread_any R o.name w3.drew Cr rb HM3.out.drew.rk HO.out.nm).mono fun e w' h => read_eq HRl.out HM1.out.dk.nodup h
    clear p0 p1 o0 o2 o3 o4 o5 o6
    have p0 := HM3.out.bx.cell 0
    have p1 := HM3.out.bx.cell 1
    have o0 := HX3.out.cell 0
    have o2 := HX3.out.cell 2
    have o3 := HX3.out.cell 3
    have o4 := HX3.out.cell 4
    have o5 := HX3.out.cell 5
    have o6 := HX3.out.cell 6
    simp at p0 p1 o0 o2 o3 o4 o5 o6
    go_upto_region 4 with fail
    refine wp_region_calmE 30 (fun wx => Below w3.heap.size w3 wx) [(0, true), (1, true), (2, true), (3, false), (4, true), (5, false)] (.one 6 false [(7, true), (8, true), (9, true), (10, true), (11, true)] .done) (by kernel_rfl) (by kernel_rfl) (Below.refl _ _).drew ?_
    refine wpPre_e rfl rfl (fun K1 hK1 => ?_)
    apply Exists.intro
    refine And.intro (fun wx hx => ?_) ?_
    · go_simp
      try rfl
    go_simp
    refine hK1 _ ?_
    clear hK1 K1
    refine wpPre_e rfl rfl (fun K1 hK1 => ?_)
    apply Exists.intro
    refine And.intro (fun wx hx => ?_) ?_
    · go_simp
      try rfl
    go_simp
    refine hK1 _ ?_
    clear hK1 K1
    refine wpPre_e rfl rfl (fun K1 hK1 => ?_)
    apply Exists.intro
    refine And.intro (fun wx hx => ?_) ?_
    · go_simp
      try rfl
    go_simp
    refine hK1 _ ?_
    clear hK1 K1
    refine wpPre_e rfl rfl (fun K1 hK1 => ?_)
    apply Exists.intro
    refine And.intro (fun wx hx => ?_) ?_
    · have e0 := below_fact hx rfl p1
      go_simp
      try rfl
    go_simp
    refine hK1 _ ?_
    clear hK1 K1
    refine wpPre_e rfl rfl (fun K1 hK1 => ?_)
    apply Exists.intro
    refine And.intro (fun wx hx => ?_) ?_
    · go_simp
      try rfl
    go_simp
    refine hK1 _ ?_
    clear hK1 K1
    refine wpPre_e rfl rfl (fun K1 hK1 => ?_)
    apply Exists.intro
    refine And.intro (fun wx hx => ?_) ?_
    · have e0 := below_fact hx rfl o2
      go_simp
      try rfl
    go_simp
    refine hK1 _ ?_
    clear hK1 K1
    refine wpPre_nil ?_
    refine wpTr_e rfl (fun K1 hK1 => ?_)
    refine step_callG (by first | rfl | go_simp) 43 #[.tmp 31, .tmp 33] _ rfl Tryz.f43 Tryz.func43 (by kernel_rfl) rfl #[.pointer (some ⟨rb, 0, none⟩), .string o.name] rfl _ (HRr.out) ?_
    rintro e_ w4 ⟨p4, c4, z4, x4, rfl, hz4, hx4, ho4, hb4⟩
    refine ⟨_, rfl, ?_⟩
    have HB34 : Hid (Below w3.heap.size w3 w4) := (Below.refl _ _).drew.trans hb4
    have HO4 := hid ho4
    obtain rfl : z3 = z4 := HZ3.out.1.trans hz4.symm
    obtain rfl : x3 = x4 := HZ3.out.2.trans hx4.symm
    clear ho4 hb4 hz4 hx4
    go_simp
    refine hK1 _ _ (fun h => by cases h) ?_
    clear hK1 K1
    refine wpPre_e rfl rfl (fun K1 hK1 => ?_)
    apply Exists.intro
    refine And.intro (fun wx hx => ?_) ?_
    · go_simp
      try rfl
    go_simp
    refine hK1 _ ?_
    clear hK1 K1
    refine wpPre_e rfl rfl (fun K1 hK1 => ?_)
    apply Exists.intro
    refine And.intro (fun wx hx => ?_) ?_
    · go_simp
      try rfl
    go_simp
    refine hK1 _ ?_
    clear hK1 K1
    refine wpPre_e rfl rfl (fun K1 hK1 => ?_)
    apply Exists.intro
    refine And.intro (fun wx hx => ?_) ?_
    · go_simp
      try rfl
    go_simp
    refine hK1 _ ?_
    clear hK1 K1
    refine wpPre_e rfl rfl (fun K1 hK1 => ?_)
    apply Exists.intro
    refine And.intro (fun wx hx => ?_) ?_
    · go_simp
      try rfl
    go_simp
    refine hK1 _ ?_
    clear hK1 K1
    refine wpPre_e rfl rfl (fun K1 hK1 => ?_)
    apply Exists.intro
    refine And.intro (fun wx hx => ?_) ?_
    · go_simp
      try rfl
    go_simp
    refine hK1 _ ?_
    clear hK1 K1
    refine wpPre_nil ?_
    refine wpTr_done ?_
    have HB4 : Hid (Below V1.heap.size V1 w4) := HB3.out.trans (HB34.out.mono HB3.out.size)
    have hby : ∀ z ∈ readZ D o.name, 0 ≤ z ∧ z ≤ 255 := fun z hz => by
      unfold readZ at hz
      split at hz
      · cases hf : fnd D o.name with
        | none => rw [hf] at hz; cases hz
        | some f => rw [hf] at hz; exact (HM1.out.dk.each f (fnd_at hf).1).by_ z hz
      · cases hz
    have hlz : (readZ D o.name).length ≤ 65536 := by
      unfold readZ
      split
      · cases hf : fnd D o.name with
        | none => simp
        | some f => exact (HM1.out.dk.each f (fnd_at hf).1).le
      · simp
    rw [← HZ3.out.1] at hby hlz
    have HSm := hid (same_yes p3 p4 z3.length c3 c4 (fun j => z3.getD j 0) (fun j => z3.getD j 0) w4 (fun _ => True) (fun _ => True) (own_byts (HO3.out.below HB34.out) (fun _ _ => trivial) hby (by omega)) (own_byts HO4.out (fun _ _ => trivial) hby (by omega)) (fun _ _ => rfl))
    clear p0 p1 o0 o2 o3 o4 o5 o6 hby hlz
    have hxx : (x3 == x3) = true := by simp
    go_wp2_with fail
    refine (num_any x3 w4).mono ?_
    rintro e w5 ⟨rfl, hw5⟩
    obtain rfl := hw5.symm
    go_wp2_with fail
    refine HSm.out.mono ?_
    rintro e w6 ⟨rfl, hb6⟩
    have HBZ : Hid (Below V1.heap.size V1 w6) := HB4.out.trans (hb6.mono HB4.out.size)
    clear hb6 HSm
    go_wp2
    refine bodyPost_ret (v := .bool true) (by simp [results, Tryz.results18, go_sem]) rfl ⟨rfl, PZ.ahead HBB.out ⟨⟨D, R, Cd, Cr, (HM1.out.bel HBZ.out).1, HRl.out, Gro.refl _ _ _⟩, (HM1.out.bel HBZ.out).2⟩⟩
  · have k5' : (o.kind == 5) = false := by simpa using k5
    clear k5
    by_cases k6 : o.kind = 6
    · have k6' : (o.kind == 6) = true := by simp [k6]
      clear k6
      have HRd : Hid (Calls Tryz.prog 44 #[.pointer (some ⟨db, 0, none⟩)] V1 fun e w' => LsQ R.ak V1 e w') := (dlist_any D V1 Cd db HM1.out.dk).mono fun e w' h => list_eq0 HRl.out (fun f hf => (HM1.out.dk.each f hf).nm) HM1.out.dk.nodup h
      go_wp2_with fail
      refine HRd.out.mono ?_
      rintro e w3 ⟨u, x3, rfl, hx3, hu, hun, huk, hb3⟩
      have HB3 := hid hb3
      have HU := hid hu
      have HX3e := hid (And.intro hx3 (And.intro hun huk))
      clear hx3 hu hun huk hb3 HRd
      have HM3 := hid (HM1.out.bel HB3.out).1
      have HX3 := hid (HX1.out.below HB3.out)
      have HRr : Hid (Calls Tryz.prog 45 #[.pointer (some ⟨rb, 0, none⟩)] w3 fun e w' => LsQ R.ak w3 e w') := (rlist_any R w3 Cr rb HM3.out.rk).mono fun e w' h => list_eq1 h
      clear p0 p1 o0 o2 o3 o4 o5 o6
      have p0 := HM3.out.bx.cell 0
      have p1 := HM3.out.bx.cell 1
      have o0 := HX3.out.cell 0
      have o2 := HX3.out.cell 2
      have o3 := HX3.out.cell 3
      have o4 := HX3.out.cell 4
      have o5 := HX3.out.cell 5
      have o6 := HX3.out.cell 6
      simp at p0 p1 o0 o2 o3 o4 o5 o6
      go_wp2_with fail
      refine HRr.out.mono ?_
      rintro e w4 ⟨v, x4, rfl, hx4, hv, hvn, hvk, hb4⟩
      obtain rfl : x3 = x4 := HX3e.out.1.trans hx4.symm
      have HB4 : Hid (Below V1.heap.size V1 w4) := HB3.out.trans (hb4.mono HB3.out.size)
      have HSm := hid (listed_yes u v w4 _ _ (HU.out.below hb4) hv (hvn.trans HX3e.out.2.1.symm) (fun j hj => by
        have h1 := HX3e.out.2.2 j hj
        have h2 := hvk j (by rw [hvn, ← HX3e.out.2.1]; exact hj)
        exact Option.some.inj (h2.symm.trans h1)))
      clear p0 p1 o0 o2 o3 o4 o5 o6 hx4 hv hvn hvk hb4 HRr
      have hxx : (x3 == x3) = true := by simp
      go_wp2_with fail
      refine (num_any x3 w4).mono ?_
      rintro e w5 ⟨rfl, hw5⟩
      obtain rfl := hw5.symm
      go_wp2_with fail
      refine HSm.out.mono ?_
      rintro e w6 ⟨rfl, hb6⟩
      have HBZ : Hid (Below V1.heap.size V1 w6) := HB4.out.trans (hb6.mono HB4.out.size)
      clear hb6 HSm
      go_wp2
      refine bodyPost_ret (v := .bool true) (by simp [results, Tryz.results18, go_sem]) rfl ⟨rfl, PZ.ahead HBB.out ⟨⟨D, R, Cd, Cr, (HM1.out.bel HBZ.out).1, HRl.out, Gro.refl _ _ _⟩, (HM1.out.bel HBZ.out).2⟩⟩
    · have k6' : (o.kind == 6) = false := by simpa using k6
      clear k6
      have HF1 : Hid (∀ Wx, Below V1.heap.size V1 Wx → Calls Tryz.prog 9 #[.pointer (some ⟨db, 0, none⟩)] Wx fun e w' => FilesQ D Wx e w') := fun Wx hW => dfiles_any D Wx _ db (HM1.out.dk.below hW)
      have HF2 : Hid (∀ Wx, Below V1.heap.size V1 Wx → Calls Tryz.prog 10 #[.pointer (some ⟨rb, 0, none⟩)] Wx fun e w' => RfilesQ R.lt Wx e w') := fun Wx hW => by
        have hk := HM1.out.rk.below hW
        have hr := hk.bx.cell 0
        exact rfiles_any R.lt Wx _ rb (by rw [R.lt_n]; show Wx.cell? ⟨rb, 0, none⟩ = some (.slice R.p R.fs.length R.c); simpa using hr) hk.toLt (by rw [R.lt_n]; have := hk.n; omega)
      go_upto_region 10 with fail
      refine wp_region_calmE 30 (fun wx => Below V1.heap.size V1 wx) [(0, true), (1, true), (2, true), (3, false), (5, true), (6, true), (7, true), (8, false)] (.one 4 true [] (.one 9 true [] (.one 10 false [(11, true)] .done))) (by kernel_rfl) (by kernel_rfl) (Below.refl _ _).drew ?_
      refine wpPre_e rfl rfl (fun K1 hK1 => ?_)
      apply Exists.intro
      refine And.intro (fun wx hx => ?_) ?_
      · go_simp
        try rfl
      go_simp
      refine hK1 _ ?_
      clear hK1 K1
      refine wpPre_e rfl rfl (fun K1 hK1 => ?_)
      apply Exists.intro
      refine And.intro (fun wx hx => ?_) ?_
      · go_simp
        try rfl
      go_simp
      refine hK1 _ ?_
      clear hK1 K1
      refine wpPre_e rfl rfl (fun K1 hK1 => ?_)
      apply Exists.intro
      refine And.intro (fun wx hx => ?_) ?_
      · go_simp
        try rfl
      go_simp
      refine hK1 _ ?_
      clear hK1 K1
      refine wpPre_e rfl rfl (fun K1 hK1 => ?_)
      apply Exists.intro
      refine And.intro (fun wx hx => ?_) ?_
      · have e0 := below_fact hx rfl p0
        go_simp
        try rfl
      go_simp
      refine hK1 _ ?_
      clear hK1 K1
      refine wpPre_e rfl rfl (fun K1 hK1 => ?_)
      apply Exists.intro
      refine And.intro (fun wx hx => ?_) ?_
      · go_simp
        try rfl
      go_simp
      refine hK1 _ ?_
      clear hK1 K1
      refine wpPre_e rfl rfl (fun K1 hK1 => ?_)
      apply Exists.intro
      refine And.intro (fun wx hx => ?_) ?_
      · go_simp
        try rfl
      go_simp
      refine hK1 _ ?_
      clear hK1 K1
      refine wpPre_e rfl rfl (fun K1 hK1 => ?_)
      apply Exists.intro
      refine And.intro (fun wx hx => ?_) ?_
      · go_simp
        try rfl
      go_simp
      refine hK1 _ ?_
      clear hK1 K1
      refine wpPre_e rfl rfl (fun K1 hK1 => ?_)
      apply Exists.intro
      refine And.intro (fun wx hx => ?_) ?_
      · have e0 := below_fact hx rfl p1
        go_simp
        try rfl
      go_simp
      refine hK1 _ ?_
      clear hK1 K1
      refine wpPre_nil ?_
      refine wpTr_e rfl (fun K1 hK1 => ?_)
      refine step_callG (by first | rfl | go_simp) 9 #[.tmp 76] _ rfl Tryz.f9 Tryz.func9 (by kernel_rfl) rfl #[.pointer (some ⟨db, 0, none⟩)] rfl _ (HF1.out _ (Below.refl _ _).drew) ?_
      rintro e_ w3 ⟨u, YS, rfl, hu, hYp, hYs, hun, huk, hb3⟩
      refine ⟨_, rfl, ?_⟩
      have HU := hid hu
      have HY := hid (And.intro hYp (And.intro hYs (And.intro hun huk)))
      have HB3 : Hid (Below V1.heap.size V1 w3) := (Below.refl _ _).drew.trans hb3
      clear hu hYp hYs hun huk hb3
      go_simp
      refine hK1 _ _ (fun _ => HB3.out) ?_
      clear hK1 K1
      refine wpPre_nil ?_
      refine wpTr_e rfl (fun K1 hK1 => ?_)
      refine step_callG (by first | rfl | go_simp) 10 #[.tmp 81] _ rfl Tryz.f10 Tryz.func10 (by kernel_rfl) rfl #[.pointer (some ⟨rb, 0, none⟩)] rfl _ (HF2.out _ HB3.out) ?_
      rintro e_ w4 ⟨v, rfl, hv, hvn, hvk, hb4⟩
      refine ⟨_, rfl, ?_⟩
      have HV := hid hv
      have HVk := hid (And.intro hvn hvk)
      have HB34 := hid hb4
      have HB4 : Hid (Below V1.heap.size V1 w4) := HB3.out.trans (hb4.mono HB3.out.size)
      clear hv hvn hvk hb4
      go_simp
      refine hK1 _ _ (fun _ => HB4.out) ?_
      clear hK1 K1
      refine wpPre_nil ?_
      refine wpTr_e rfl (fun K1 hK1 => ?_)
      have HSame := hid (files_same HRl.out (fun f hf => (HM1.out.dk.each f hf).nm) HM1.out.dk.nodup HY.out.1 HY.out.2.1 HY.out.2.2.1 HY.out.2.2.2 HVk.out.1 HVk.out.2)
      refine step_callG (by first | rfl | go_simp) 8 #[.tmp 77, .tmp 82] _ rfl Tryz.f8 Tryz.func8 (by kernel_rfl) rfl #[.slice u.p u.n u.c, .slice v.p v.n v.c] rfl _ (alike_yes u v w4 _ _ (HU.out.kept HB34.out.size fun b _ hl => HB34.out.block b hl) HV.out HSame.out.1 HSame.out.2) ?_
      rintro e_ w5 ⟨rfl, hb5⟩
      refine ⟨_, rfl, ?_⟩
      have HBZ : Hid (Below V1.heap.size V1 w5) := HB4.out.trans (hb5.mono HB4.out.size)
      clear hb5
      go_simp
      refine hK1 _ _ (fun h => by cases h) ?_
      clear hK1 K1
      refine wpPre_e rfl rfl (fun K1 hK1 => ?_)
      apply Exists.intro
      refine And.intro (fun wx hx => ?_) ?_
      · go_simp
        try rfl
      go_simp
      refine hK1 _ ?_
      clear hK1 K1
      refine wpPre_nil ?_
      refine wpTr_done ?_
      clear p0 p1 o0 o2 o3 o4 o5 o6
      go_wp2
      refine bodyPost_ret (v := .bool true) (by simp [results, Tryz.results18, go_sem]) rfl ⟨rfl, PZ.ahead HBB.out ⟨⟨D, R, Cd, Cr, (HM1.out.bel HBZ.out).1, HRl.out, Gro.refl _ _ _⟩, (HM1.out.bel HBZ.out).2⟩⟩
end Go.Proofs.YtebiidfdokhpaabGreatDoor
