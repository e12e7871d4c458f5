import Derived.Test.YtebiidfdokhpaaaGreatDoorPack17
import Derived.Test.YtebiidfdokhpaaaGreatDoorFbF
namespace Go.Proofs.YtebiidfdokhpaaaGreatDoor
open Go.RowKit
set_option maxRecDepth 8000
set_option maxHeartbeats 16000000 in
theorem plays_any (o : OpD) (w : World) (B pb db rb : Nat) (D : DK) (R : RK) (Cd Cr : Nat → Prop) (hM : MP B w pb db rb D R Cd Cr) (hR : Rel D R.ak) (ho : o.In w B) :
    Calls Tryz.prog 11 #[.pointer (some ⟨pb, 0, none⟩), .agg o.cs] w fun e w' => LkQ B w pb db rb e w' := by
  obtain ⟨V1, hV1⟩ : ∃ V, V = w.alloc (.cells o.cs 35) := ⟨_, rfl⟩
  have HB1 : Hid (Below w.heap.size w V1) := by show Below _ _ _; rw [hV1]; exact (Below.refl _ _).alloc (Nat.le_refl _) _
  have HX1 : Hid (Box V1 w.heap.size o.cs 35) := by show Box _ _ _ _; rw [hV1]; exact Box.new _ _ _
  have HM1 : Hid (MP B V1 pb db rb D R Cd Cr) := (hM.bel HB1.out).1
  have HBB : Hid (Below B w V1) := (hM.bel HB1.out).2
  have HO : Hid (o.In V1 B) := ho.bel HBB.out
  have HRl := hid hR
  have HV1 := hid hV1
  have HPb : Hid (pb ≠ w.heap.size) := by have := hM.bx.lt; show pb ≠ w.heap.size; omega
  clear hM hR ho hV1
  go_enter Tryz.func11, Tryz.ntmps11
  go_upto_region 1 with fail
  simp only [OpD.cs] at HV1 HX1
  simp only [OpD.cs]
  rw [← HV1.out]
  have p0 := HM1.out.bx.cell 0
  have p1 := HM1.out.bx.cell 1
  have o0 := HX1.out.cell 0
  have o2 := HX1.out.cell 2
  have o3 := HX1.out.cell 3
  have o4 := HX1.out.cell 4
  have o5 := HX1.out.cell 5
  have o6 := HX1.out.cell 6
  simp at p0 p1 o0 o2 o3 o4 o5 o6
  have o1 := HX1.out.cell 1
  simp at o1
  have HCh := hid (changes_any o V1 B pb db rb D R Cd Cr HM1.out HRl.out HO.out)
  have HLk := hid (looks_any o V1 B pb db rb D R Cd Cr HM1.out HRl.out HO.out)
  have HFt := hid (faults_any o V1 B pb db rb D R Cd Cr HM1.out HRl.out HO.out)
  simp only [OpD.cs] at HCh HLk HFt
  clear p0 p1
  by_cases k1 : o.kind = 1
  · have k1' : (o.kind == 1) = true := by simp [k1]
    clear k1
    go_wp2_with fail
    refine HCh.out.mono ?_
    rintro e w3 ⟨x, rfl, hz⟩
    have HZ := hid hz
    have hxx : (x == x) = true := by simp
    clear hz HCh HLk HFt
    go_wp2
    exact bodyPost_ret (v := .bool true) (by simp [results, Tryz.results11, go_sem]) rfl ⟨rfl, HZ.out.1, HBB.out.trans HZ.out.2⟩
  · have k1' : (o.kind == 1) = false := by simpa using k1
    clear k1
    by_cases k2 : o.kind = 2
    · have k2' : (o.kind == 2) = true := by simp [k2]
      clear k2
      go_wp2_with fail
      refine HCh.out.mono ?_
      rintro e w3 ⟨x, rfl, hz⟩
      have HZ := hid hz
      have hxx : (x == x) = true := by simp
      clear hz HCh HLk HFt
      go_wp2
      exact bodyPost_ret (v := .bool true) (by simp [results, Tryz.results11, go_sem]) rfl ⟨rfl, HZ.out.1, HBB.out.trans HZ.out.2⟩
    · have k2' : (o.kind == 2) = false := by simpa using k2
      clear k2
      by_cases k3 : o.kind = 3
      · have k3' : (o.kind == 3) = true := by simp [k3]
        clear k3
        go_wp2_with fail
        refine HCh.out.mono ?_
        rintro e w3 ⟨x, rfl, hz⟩
        have HZ := hid hz
        have hxx : (x == x) = true := by simp
        clear hz HCh HLk HFt
        go_wp2
        exact bodyPost_ret (v := .bool true) (by simp [results, Tryz.results11, go_sem]) rfl ⟨rfl, HZ.out.1, HBB.out.trans HZ.out.2⟩
      · have k3' : (o.kind == 3) = false := by simpa using k3
        clear k3
        by_cases k4 : o.kind = 4
        · have k4' : (o.kind == 4) = true := by simp [k4]
          clear k4
          go_wp2_with fail
          refine HCh.out.mono ?_
          rintro e w3 ⟨x, rfl, hz⟩
          have HZ := hid hz
          have hxx : (x == x) = true := by simp
          clear hz HCh HLk HFt
          go_wp2
          exact bodyPost_ret (v := .bool true) (by simp [results, Tryz.results11, go_sem]) rfl ⟨rfl, HZ.out.1, HBB.out.trans HZ.out.2⟩
        · have k4' : (o.kind == 4) = false := by simpa using k4
          clear k4
          by_cases k5 : o.kind = 5
          · have k5' : (o.kind == 5) = true := by simp [k5]
            clear k5
            go_wp2_with fail
            refine HLk.out.mono ?_
            rintro e w3 ⟨rfl, hz⟩
            have HZ := hid hz
            clear hz HCh HLk HFt
            go_wp2
            exact bodyPost_ret (v := .bool true) (by simp [results, Tryz.results11, go_sem]) rfl ⟨rfl, HZ.out.1, HBB.out.trans HZ.out.2⟩
          · have k5' : (o.kind == 5) = false := by simpa using k5
            clear k5
            by_cases k6 : o.kind = 6
            · have k6' : (o.kind == 6) = true := by simp [k6]
              clear k6
              go_wp2_with fail
              refine HLk.out.mono ?_
              rintro e w3 ⟨rfl, hz⟩
              have HZ := hid hz
              clear hz HCh HLk HFt
              go_wp2
              exact bodyPost_ret (v := .bool true) (by simp [results, Tryz.results11, go_sem]) rfl ⟨rfl, HZ.out.1, HBB.out.trans HZ.out.2⟩
            · have k6' : (o.kind == 6) = false := by simpa using k6
              clear k6
              by_cases k12 : o.kind = 12
              · have k12' : (o.kind == 12) = true := by simp [k12]
                clear k12
                go_wp2_with fail
                refine HLk.out.mono ?_
                rintro e w3 ⟨rfl, hz⟩
                have HZ := hid hz
                clear hz HCh HLk HFt
                go_wp2
                exact bodyPost_ret (v := .bool true) (by simp [results, Tryz.results11, go_sem]) rfl ⟨rfl, HZ.out.1, HBB.out.trans HZ.out.2⟩
              · have k12' : (o.kind == 12) = false := by simpa using k12
                clear k12
                go_wp2_with fail
                refine HFt.out.mono ?_
                rintro e w3 ⟨rfl, hz⟩
                have HZ := hid hz
                clear hz HCh HLk HFt
                go_wp2
                exact bodyPost_ret (v := .bool true) (by simp [results, Tryz.results11, go_sem]) rfl ⟨rfl, HZ.out.1, HBB.out.trans HZ.out.2⟩
/-- behind begin -/
def BgZ (l : LT FA) (W : World) (pb : Nat) (e : Ending) (w' : World) : Prop :=
  e = .returned (.bool true) ∧ But (fun k => k = pb) W w' ∧ ((newB l = false ∧ Box w' pb #[.pointer none, .pointer none] 30) ∨ ∃ db rb D R Cd Cr, MP pb w' pb db rb D R Cd Cr ∧ Rel D R.ak)
set_option maxHeartbeats 8000000 in
theorem beginM_any (l : LT FA) (W : World) (pb : Nat) (hX : Box W pb #[.pointer none, .pointer none] 30) (hl : LT.In elF W (fun b => b < W.heap.size) l) (hn : l.n ≤ 500) (hz : ∀ j, j < l.n → (l.item j).n ≤ 524288) :
    Calls Tryz.prog 10 #[.pointer (some ⟨pb, 0, none⟩), .slice l.p l.n l.c] W fun e w' => BgZ l W pb e w' := by
  have HX := hid hX
  have HL := hid hl
  have HZ := hid hz
  have HR := hid (rnewK_any l W hl)
  clear hX hl hz
  go_enter Tryz.func10, Tryz.ntmps10
  go_wp2_with fail
  refine HR.out.mono ?_
  rintro e w1 ⟨hb1, hf1, ht1⟩
  have HB1 := hid hb1
  have HL1 : Hid (LT.In elF w1 (fun b => b < W.heap.size) l) := HL.out.kept hb1.size fun b _ hlt => hb1.block b hlt
  have HX1 := hid (HX.out.below hb1)
  have HC := hid (cpF_any l w1 _ HL1.out (by omega) (fun j hj => Nat.le_trans (HZ.out j hj) (by omega)))
  clear hb1 HR
  cases hb : newB l with
  | false =>
    obtain rfl := hf1 hb
    clear hf1 ht1
    go_wp2_with fail
    refine HC.out.mono ?_
    rintro e w2 ⟨u, rfl, hu, hun, huk, hb2⟩
    have HB2 : Hid (Below W.heap.size W w2) := HB1.out.trans (hb2.mono HB1.out.size)
    have HX2 := hid (HX1.out.below hb2)
    have hbu : newB u = false := (newB_eq u l hun huk).trans hb
    have HD := hid (dnew_any u w2 (hu.mono fun b _ h => h))
    clear hu hun huk hb2
    go_wp2_with fail
    refine HD.out.mono ?_
    rintro e w3 ⟨hb3, hf3, _⟩
    obtain rfl := hf3 hbu
    have HB3 : Hid (Below W.heap.size W w3) := HB2.out.trans (hb3.mono HB2.out.size)
    have HX3 := hid (HX2.out.below hb3)
    clear hb3 hf3 hbu
    have f0 := HX3.out.cell 0
    have f1 := HX3.out.cell 1
    have g0 := HX3.out.frozen 0
    have g1 := HX3.out.frozen 1
    have fl := HX3.out.lt
    simp at f0 f1
    go_wp2
    have hbx := (HX3.out.set 0 (.pointer none)).set 1 (.pointer none)
    have hbt : But (fun k => k = pb) w3 ((w3.setCell ⟨pb, 0, none⟩ (.pointer none)).setCell ⟨pb, 1, none⟩ (.pointer none)) := ((But.one _ _).setAt 0 _).setAt 1 _
    exact bodyPost_ret (v := .bool true) (by simp [results, Tryz.results10, go_sem]) rfl ⟨rfl, (But.ofBelow HB3.out).trans hbt, .inl ⟨hb, by simpa using hbx⟩⟩
  | true =>
    obtain ⟨R, rfl, hA⟩ := ht1 hb
    have HA := hid hA
    clear hf1 ht1 hA
    go_wp2_with fail
    refine HC.out.mono ?_
    rintro e w2 ⟨u, rfl, hu, hun, huk, hb2⟩
    have HB12 := hid hb2
    have HB2 : Hid (Below W.heap.size W w2) := HB1.out.trans (hb2.mono HB1.out.size)
    have HX2 := hid (HX1.out.below hb2)
    have hbu : newB u = true := (newB_eq u l hun huk).trans hb
    have HD := hid (dnew_any u w2 (hu.mono fun b _ h => h))
    have HU := hid (And.intro hun huk)
    clear hu hun huk hb2
    go_wp2_with fail
    refine HD.out.mono ?_
    rintro e w3 ⟨hb3, _, ht3⟩
    obtain ⟨D, rfl, hD⟩ := ht3 hbu
    have HN := hid hD
    have HB23 := hid hb3
    have HB3 : Hid (Below W.heap.size W w3) := HB2.out.trans (hb3.mono HB2.out.size)
    have HX3 := hid (HX2.out.below hb3)
    clear hb3 ht3 hbu hD
    have f0 := HX3.out.cell 0
    have f1 := HX3.out.cell 1
    have g0 := HX3.out.frozen 0
    have g1 := HX3.out.frozen 1
    have fl := HX3.out.lt
    simp at f0 f1
    have HBx := hid ((HX3.out.set 0 (.pointer (some ⟨w2.heap.size + 1, 0, none⟩))).set 1 (.pointer (some ⟨W.heap.size, 0, none⟩)))
    have HBt : Hid (But (fun k => k = pb) w3 ((w3.setCell ⟨pb, 0, none⟩ (.pointer (some ⟨w2.heap.size + 1, 0, none⟩))).setCell ⟨pb, 1, none⟩ (.pointer (some ⟨W.heap.size, 0, none⟩)))) := ((But.one _ _).setAt 0 _).setAt 1 _
    go_wp2
    have hpl := HX.out.lt
    have hs1 := HB1.out.size
    have hs2 := HB12.out.size
    have hb13 : Below w1.heap.size w1 w3 := HB12.out.trans (HB23.out.mono HB12.out.size)
    refine bodyPost_ret (v := .bool true) (by simp [results, Tryz.results10, go_sem]) rfl ⟨rfl, (But.ofBelow HB3.out).trans HBt.out, .inr ⟨w2.heap.size + 1, W.heap.size, D, R, fun k => w2.heap.size ≤ k ∧ k < w3.heap.size, fun k => W.heap.size ≤ k ∧ k < w1.heap.size, ?_, ?_⟩⟩
    · have hs3 := HB23.out.size
      refine ⟨by simpa using HBx.out, ?_, ?_, fun k hk => ⟨by omega, Nat.lt_of_lt_of_le hk.2 HBt.out.size, by omega, fun h => by omega⟩, fun k hk => ⟨by omega, by have := HBt.out.size; omega, by omega⟩, Nat.le_refl _⟩
      · exact (HN.out.dk.mono fun k hk hl => ⟨hk, hl⟩).kept fun k hk hl => HBt.out.block k hl (by show ¬ k = pb; omega)
      · exact ((HA.out.rk.mono fun k hk hl => ⟨hk, hl⟩).below hb13).kept fun k hk hl => HBt.out.block k hl (by show ¬ k = pb; omega)
    · have hks : D.fs.map FT.key = (List.range l.n).map fun j => (l.item j).key := by
        rw [HN.out.ks, HU.out.1]
        exact List.map_congr_left fun j hj => HU.out.2 j (List.mem_range.1 hj)
      obtain ⟨f1, f2, f3, f4, f5⟩ := HN.out.fl
      obtain ⟨g1, g2, g3, g4⟩ := HA.out.rg
      refine ⟨?_, ?_, by rw [f5]; exact g1.symm, .inl ⟨f1, g2⟩, by rw [f4]; exact g4.symm, fun e => absurd f4 e, ⟨fun _ => f2, fun _ => f3⟩, by rw [f3]; omega⟩
      · rw [hks, ak_ks, HA.out.ks]
        exact (srtK_perm l l.n).symm
      · rw [ak_ks, HA.out.ks]
        exact srtK_rise l l.n HA.out.ok
end Go.Proofs.YtebiidfdokhpaaaGreatDoor

namespace Go.Proofs.YtebiidfdokhpaaaGreatDoor
open Go.RowKit
set_option maxRecDepth 8000
def elD : El OpD where
  ty := 35
  size := 7
  cells := fun o => [.int .i64 o.kind, .int .i64 o.which, .string o.name, .int .i64 o.n, .int .i64 o.after, .slice o.bp o.zs.length o.bc, .slice o.K.p o.K.n o.K.c]
  len := fun _ => rfl
  one := fun x u hu => by
    simp only [List.mem_cons, List.not_mem_nil, or_false] at hu
    rcases hu with rfl | rfl | rfl | rfl | rfl | rfl | rfl <;> rfl
  In := fun w S o => o.name.size ≤ 140737488355328 ∧ (-9223372036854775808 ≤ o.kind ∧ o.kind ≤ 9223372036854775807) ∧ (-9223372036854775808 ≤ o.n ∧ o.n ≤ 9223372036854775807) ∧ (-9223372036854775808 ≤ o.after ∧ o.after ≤ 9223372036854775807) ∧ Byts w S o.bp o.zs.length o.bc (fun j => o.zs.getD j 0) ∧ LT.In elInt w S o.K
  kept := fun h hs hb => ⟨h.1, h.2.1, h.2.2.1, h.2.2.2.1, h.2.2.2.2.1.kept hs hb, h.2.2.2.2.2.kept hs hb⟩
  mono := fun h hb => ⟨h.1, h.2.1, h.2.2.1, h.2.2.2.1, h.2.2.2.2.1.mono hb, h.2.2.2.2.2.mono hb⟩
def FsQ (A : LT FA) (P : LT OpD) (w : World) (e : Ending) (w' : World) : Prop := ∃ q : Bool, e = .returned (.bool q) ∧ Below w.heap.size w w' ∧ (q = true → (A.n ≤ 500 ∧ ∀ j, j < A.n → (A.item j).n ≤ 524288) ∧ P.n ≤ 400 ∧ ∀ j, j < P.n → (P.item j).zs.length ≤ 524288 ∧ (P.item j).K.n ≤ 524288)
set_option maxHeartbeats 8000000 in
/-- what the law's fits says of files and script -/
theorem sfits_any (A : LT FA) (P : LT OpD) (w : World) (S S' : Nat → Prop) (hA : LT.In elF w S A) (hP : LT.In elD w S' P) :
    Calls Tryz.prog 9 #[.slice A.p A.n A.c, .slice P.p P.n P.c] w fun e w' => FsQ A P w e w' := by
  have HA := hid hA
  have HP := hid hP
  have hnn := hA.nn
  have hpn := hP.nn
  clear hA hP
  go_enter Tryz.func9, Tryz.ntmps9
  go_wp2_with fail
  go_loopw [5, 6] (fun v x wr => ∃ (i : Nat) (s : Int), i ≤ A.n ∧ x = .int .i64 (i : Int) ∧ v = .int .i64 s ∧ wr = w ∧ (A.n ≤ 500 → 0 ≤ s ∧ s ≤ (i : Int) * 140737488355328 ∧ ∀ j, j < i → ((A.item j).n : Int) ≤ s)) (fun _ x _ => A.n - (intOf x).toNat)
  case atStart => exact ⟨0, 0, Nat.zero_le _, rfl, rfl, rfl, fun _ => ⟨by omega, by omega, fun j hj => absurd hj (by omega)⟩⟩
  case round =>
    obtain ⟨i, s, hi, rfl, rfl, rfl, hs⟩ := hrel
    have HS := hid hs
    clear hs
    by_cases hlt : i < A.n
    · have hlt' : (i : Int) < (A.n : Int) := by omega
      obtain ⟨bb, o, hp, _, hbb, hat⟩ := HA.out.at_ (by omega)
      rw [hp]
      have a1 : wr.cell? ⟨bb, o + i * 3 + 1, none⟩ = some (.slice (A.item i).p (A.item i).n (A.item i).c) := hat i hlt 1 _ rfl
      have HIn := hid (HA.out.each i hlt)
      clear hat
      go_wp2
      go_roundw
      case rel =>
        refine ⟨i + 1, _, by omega, by go_num, rfl, trivial, fun h5 => ?_⟩
        obtain ⟨h1, h2, h3⟩ := HS.out h5
        have h4 := HIn.out.2.1.nn
        have e : wrap64 (s + ((A.item i).n : Int)) = s + ((A.item i).n : Int) := by rw [wrap64]; omega
        rw [e]
        refine ⟨by omega, by push_cast; omega, fun j hj => ?_⟩
        by_cases hji : j < i
        · have := h3 j hji; omega
        · obtain rfl : j = i := by omega
          omega
      case measure => simp [intOf]; omega
    · have hlt' : ¬ (i : Int) < (A.n : Int) := by omega
      obtain rfl : i = A.n := by omega
      obtain ⟨w0, hw0⟩ : ∃ V, V = wr := ⟨_, rfl⟩
      have HW0 := hid hw0
      go_wp2_with fail
      go_loopw [5, 7] (fun v x wq => ∃ (i : Nat) (s2 : Int), i ≤ P.n ∧ x = .int .i64 (i : Int) ∧ v = .int .i64 s2 ∧ Below w0.heap.size w0 wq ∧ (A.n ≤ 500 → P.n ≤ 400 → s ≤ s2 ∧ s2 ≤ s + (i : Int) * 281474976710656 ∧ ∀ j, j < i → ((P.item j).zs.length : Int) ≤ s2 ∧ ((P.item j).K.n : Int) ≤ s2)) (fun _ x _ => P.n - (intOf x).toNat)
      case atStart => exact ⟨0, s, Nat.zero_le _, rfl, rfl, by rw [HW0.out]; exact Below.refl _ _, fun _ _ => ⟨by omega, by omega, fun j hj => absurd hj (by omega)⟩⟩
      case round =>
        obtain ⟨i, s2, hi, rfl, rfl, hbw, hs2⟩ := hrel
        have HS2 := hid hs2
        have HBw := hid hbw
        clear hs2 hbw
        by_cases hlt : i < P.n
        · have hlt' : (i : Int) < (P.n : Int) := by omega
          obtain ⟨bb, o, hp, _, hbb, hat⟩ := HP.out.at_ (by omega)
          rw [hp]
          have hce : ∀ r u, (elD.cells (P.item i))[r]? = some u → wr.cell? ⟨bb, o + i * 7 + r, none⟩ = some u := fun r u hu => (World.cell?_of_block (a := ⟨bb, o + i * 7 + r, none⟩) ((HBw.out.block bb (by rw [HW0.out]; exact hbb)).trans (by rw [HW0.out]))).trans (hat i hlt r u hu)
          have a5 : wr.cell? ⟨bb, o + i * 7 + 5, none⟩ = some (.slice (P.item i).bp (P.item i).zs.length (P.item i).bc) := hce 5 _ rfl
          have a6 : wr.cell? ⟨bb, o + i * 7 + 6, none⟩ = some (.slice (P.item i).K.p (P.item i).K.n (P.item i).K.c) := hce 6 _ rfl
          have HIn := hid (HP.out.each i hlt)
          clear hat hce
          go_upto_region 9 with fail
          refine wp_region_calmE 30 (fun wx => Below wr.heap.size wr wx) [(0, true), (1, true), (2, true), (3, true), (4, true), (5, false), (6, true), (7, true), (8, true), (9, true), (10, true), (11, true), (12, false), (13, true), (14, true), (15, true)] .done (by kernel_rfl) (by kernel_rfl) (Below.refl _ _).drew ?_
          refine wpPre_e rfl rfl (fun K1 hK1 => ?_)
          apply Exists.intro
          refine And.intro (fun wx hx => ?_) ?_
          · go_simp
            try rfl
          go_simp
          refine hK1 _ ?_
          clear hK1 K1
          refine wpPre_e rfl rfl (fun K1 hK1 => ?_)
          apply Exists.intro
          refine And.intro (fun wx hx => ?_) ?_
          · go_simp
            try rfl
          go_simp
          refine hK1 _ ?_
          clear hK1 K1
          refine wpPre_e rfl rfl (fun K1 hK1 => ?_)
          apply Exists.intro
          refine And.intro (fun wx hx => ?_) ?_
          · go_simp
            try rfl
          go_simp
          refine hK1 _ ?_
          clear hK1 K1
          refine wpPre_e rfl rfl (fun K1 hK1 => ?_)
          apply Exists.intro
          refine And.intro (fun wx hx => ?_) ?_
          · go_simp
            try rfl
          go_simp
          refine hK1 _ ?_
          clear hK1 K1
          refine wpPre_e rfl rfl (fun K1 hK1 => ?_)
          apply Exists.intro
          refine And.intro (fun wx hx => ?_) ?_
          · go_simp
            try rfl
          go_simp
          refine hK1 _ ?_
          clear hK1 K1
          refine wpPre_e rfl rfl (fun K1 hK1 => ?_)
          apply Exists.intro
          refine And.intro (fun wx hx => ?_) ?_
          · have e0 := below_fact hx rfl a5
            go_simp
            try rfl
          go_simp
          refine hK1 _ ?_
          clear hK1 K1
          refine wpPre_e rfl rfl (fun K1 hK1 => ?_)
          apply Exists.intro
          refine And.intro (fun wx hx => ?_) ?_
          · go_simp
            try rfl
          go_simp
          refine hK1 _ ?_
          clear hK1 K1
          refine wpPre_e rfl rfl (fun K1 hK1 => ?_)
          apply Exists.intro
          refine And.intro (fun wx hx => ?_) ?_
          · go_simp
            try rfl
          go_simp
          refine hK1 _ ?_
          clear hK1 K1
          refine wpPre_e rfl rfl (fun K1 hK1 => ?_)
          apply Exists.intro
          refine And.intro (fun wx hx => ?_) ?_
          · go_simp
            try rfl
          go_simp
          refine hK1 _ ?_
          clear hK1 K1
          refine wpPre_e rfl rfl (fun K1 hK1 => ?_)
          apply Exists.intro
          refine And.intro (fun wx hx => ?_) ?_
          · go_simp
            try rfl
          go_simp
          refine hK1 _ ?_
          clear hK1 K1
          refine wpPre_e rfl rfl (fun K1 hK1 => ?_)
          apply Exists.intro
          refine And.intro (fun wx hx => ?_) ?_
          · go_simp
            try rfl
          go_simp
          refine hK1 _ ?_
          clear hK1 K1
          refine wpPre_e rfl rfl (fun K1 hK1 => ?_)
          apply Exists.intro
          refine And.intro (fun wx hx => ?_) ?_
          · go_simp
            try rfl
          go_simp
          refine hK1 _ ?_
          clear hK1 K1
          refine wpPre_e rfl rfl (fun K1 hK1 => ?_)
          apply Exists.intro
          refine And.intro (fun wx hx => ?_) ?_
          · have e0 := below_fact hx rfl a6
            go_simp
            try rfl
          go_simp
          refine hK1 _ ?_
          clear hK1 K1
          refine wpPre_e rfl rfl (fun K1 hK1 => ?_)
          apply Exists.intro
          refine And.intro (fun wx hx => ?_) ?_
          · go_simp
            try rfl
          go_simp
          refine hK1 _ ?_
          clear hK1 K1
          refine wpPre_e rfl rfl (fun K1 hK1 => ?_)
          apply Exists.intro
          refine And.intro (fun wx hx => ?_) ?_
          · go_simp
            try rfl
          go_simp
          refine hK1 _ ?_
          clear hK1 K1
          refine wpPre_e rfl rfl (fun K1 hK1 => ?_)
          apply Exists.intro
          refine And.intro (fun wx hx => ?_) ?_
          · go_simp
            try rfl
          go_simp
          refine hK1 _ ?_
          clear hK1 K1
          refine wpPre_nil ?_
          refine wpTr_done ?_
          clear a5 a6
          go_wp2
          go_roundw
          case rel =>
            refine ⟨i + 1, _, by omega, by go_num, rfl, HBw.out.drew, fun h5 h6 => ?_⟩
            obtain ⟨h1, h2, h3⟩ := HS2.out h5 h6
            obtain ⟨q1, q2, _⟩ := HS.out h5
            have h4 := HIn.out.2.2.2.2.1.nn
            have h7 := HIn.out.2.2.2.2.2.nn
            have e : IntKind.i64.wrap (s2 + ((P.item i).zs.length : Int)) = s2 + ((P.item i).zs.length : Int) := by rw [IntKind.wrap_i64]; omega
            have e2 : IntKind.i64.wrap (s2 + ((P.item i).zs.length : Int) + ((P.item i).K.n : Int)) = s2 + ((P.item i).zs.length : Int) + ((P.item i).K.n : Int) := by rw [IntKind.wrap_i64]; omega
            rw [e, e2]
            refine ⟨by omega, by push_cast; omega, fun j hj => ?_⟩
            by_cases hji : j < i
            · have := h3 j hji; omega
            · obtain rfl : j = i := by omega
              omega
          case measure => simp [intOf]; omega
        · have hlt' : ¬ (i : Int) < (P.n : Int) := by omega
          obtain rfl : i = P.n := by omega
          have HBf : Hid (Below w0.heap.size w0 wr) := HBw.out
          by_cases h4 : P.n ≤ 400
          · have h4' : (P.n : Int) ≤ 400 := by omega
            by_cases h5 : A.n ≤ 500
            · have h5' : (A.n : Int) ≤ 500 := by omega
              by_cases h6 : s2 ≤ 524288
              · go_wp2
                refine bodyPost_ret (v := .bool true) (by simp [results, Tryz.results9, go_sem]) rfl ⟨true, rfl, by rw [← HW0.out]; exact HBf.out, fun _ => ?_⟩
                obtain ⟨r1, r2, r3⟩ := HS2.out h5 h4
                exact ⟨⟨h5, fun j hj => by have := (HS.out h5).2.2 j hj; omega⟩, h4, fun j hj => by have := r3 j hj; omega⟩
              · go_wp2
                exact bodyPost_ret (v := .bool false) (by simp [results, Tryz.results9, go_sem]) rfl ⟨false, rfl, by rw [← HW0.out]; exact HBf.out, fun h => by cases h⟩
            · have h5' : ¬ (A.n : Int) ≤ 500 := by omega
              go_wp2
              exact bodyPost_ret (v := .bool false) (by simp [results, Tryz.results9, go_sem]) rfl ⟨false, rfl, by rw [← HW0.out]; exact HBf.out, fun h => by cases h⟩
          · have h4' : ¬ (P.n : Int) ≤ 400 := by omega
            go_wp2
            exact bodyPost_ret (v := .bool false) (by simp [results, Tryz.results9, go_sem]) rfl ⟨false, rfl, by rw [← HW0.out]; exact HBf.out, fun h => by cases h⟩
end Go.Proofs.YtebiidfdokhpaaaGreatDoor

namespace Go.Proofs.YtebiidfdokhpaaaGreatDoor
open Go.RowKit
set_option maxRecDepth 8000
set_option maxHeartbeats 16000000 in
theorem upTo_any (l : LT FA) (P : LT OpD) (lo hi : Int) (w : World) (hl : LT.In elF w (fun b => b < w.heap.size) l) (hP : LT.In elD w (fun b => b < w.heap.size) P) :
    Calls Tryz.prog 8 #[.slice l.p l.n l.c, .slice P.p P.n P.c, .int .i64 lo, .int .i64 hi] w fun e w' => e = .returned (.bool true) ∧ Below w.heap.size w w' := by
  have HL := hid hl
  have HP := hid hP
  have hpn := hP.nn
  have HFt := hid (sfits_any l P w _ _ hl hP)
  clear hl hP
  go_enter Tryz.func8, Tryz.ntmps8
  go_wp2_with fail
  refine HFt.out.mono ?_
  rintro e w0 ⟨q, rfl, hb0, hq⟩
  have HB0 := hid hb0
  clear hb0 HFt
  cases q with
  | false =>
    go_wp2
    exact bodyPost_ret (v := .bool true) (by simp [results, Tryz.results8, go_sem]) rfl ⟨rfl, HB0.out⟩
  | true =>
    obtain ⟨⟨hn, hz⟩, hp4, hpz⟩ := hq rfl
    have HPz := hid hpz
    obtain ⟨V1, hV1⟩ : ∃ V, V = w0.alloc (.cells #[.pointer none, .pointer none] 30) := ⟨_, rfl⟩
    have HB01 : Hid (Below w0.heap.size w0 V1) := by show Below _ _ _; rw [hV1]; exact (Below.refl _ _).alloc (Nat.le_refl _) _
    have HB1 : Hid (Below w.heap.size w V1) := HB0.out.trans (HB01.out.mono HB0.out.size)
    have HX1 : Hid (Box V1 w0.heap.size #[.pointer none, .pointer none] 30) := by show Box _ _ _ _; rw [hV1]; exact Box.new _ _ _
    have HV1 := hid hV1
    have HBg := hid (beginM_any l V1 w0.heap.size HX1.out ((HL.out.kept HB1.out.size fun b _ hlt => HB1.out.block b hlt).mono fun b hb _ => Nat.lt_of_lt_of_le hb HB1.out.size) hn hz)
    clear hq hz hV1 hpz
    go_upto_region 4 with fail
    rw [← HV1.out]
    go_wp2_with fail
    refine HBg.out.mono ?_
    rintro e V2 ⟨rfl, hbt, hc⟩
    have hs0 := HB0.out.size
    have HBV : Hid (Below w.heap.size w V2) := HB1.out.trans (hbt.below HB1.out.size fun k hk e => by have e' : k = w0.heap.size := e; omega)
    have HZ0 := hid hs0
    clear hbt HBg
    rcases hc with ⟨_, hx⟩ | ⟨db, rb, D, R, Cd, Cr, hM, hR⟩
    · have f0 := hx.cell 0
      have f1 := hx.cell 1
      simp at f0 f1
      clear hx
      go_wp2
      exact bodyPost_ret (v := .bool true) (by simp [results, Tryz.results8, go_sem]) rfl ⟨rfl, HBV.out⟩
    · have f0 := hM.bx.cell 0
      simp at f0
      have HM := hid (And.intro hM hR)
      clear hM hR
      go_wp2_with fail
      go_loopw [10] (fun x wr => ∃ i : Nat, i ≤ P.n ∧ x = .int .i64 (i : Int) ∧ (∃ D R Cd Cr, MP w0.heap.size wr w0.heap.size db rb D R Cd Cr ∧ Rel D R.ak) ∧ Below w.heap.size w wr) (fun x _ => P.n - (intOf x).toNat)
      case atStart => exact ⟨0, Nat.zero_le _, rfl, ⟨D, R, Cd, Cr, HM.out⟩, HBV.out⟩
      case round =>
        obtain ⟨i, hi, rfl, ⟨D2, R2, Cd2, Cr2, hM2, hR2⟩, hbw⟩ := hrel
        have HM2 := hid hM2
        have HR2 := hid hR2
        have HBw := hid hbw
        clear hM2 hR2 hbw f0
        by_cases hlt : i < P.n
        · have hlt' : (i : Int) < (P.n : Int) := by omega
          obtain ⟨bb, o, hp, hbS, hbb, hat⟩ := HP.out.at_ (by omega)
          rw [hp]
          obtain ⟨op, hop⟩ : ∃ op, op = P.item i := ⟨_, rfl⟩
          have hce : ∀ r u, (elD.cells (P.item i))[r]? = some u → wr.cell? ⟨bb, o + i * 7 + r, none⟩ = some u := fun r u hu => (World.cell?_of_block (a := ⟨bb, o + i * 7 + r, none⟩) (HBw.out.block bb hbS)).trans (hat i hlt r u hu)
          rw [← hop] at hce
          have a0 : wr.cell? ⟨bb, o + i * 7, none⟩ = some (.int .i64 op.kind) := hce 0 _ rfl
          have a1 : wr.cell? ⟨bb, o + i * 7 + 1, none⟩ = some (.int .i64 op.which) := hce 1 _ rfl
          have a2 : wr.cell? ⟨bb, o + i * 7 + 2, none⟩ = some (.string op.name) := hce 2 _ rfl
          have a3 : wr.cell? ⟨bb, o + i * 7 + 3, none⟩ = some (.int .i64 op.n) := hce 3 _ rfl
          have a4 : wr.cell? ⟨bb, o + i * 7 + 4, none⟩ = some (.int .i64 op.after) := hce 4 _ rfl
          have a5 : wr.cell? ⟨bb, o + i * 7 + 5, none⟩ = some (.slice op.bp op.zs.length op.bc) := hce 5 _ rfl
          have a6 : wr.cell? ⟨bb, o + i * 7 + 6, none⟩ = some (.slice op.K.p op.K.n op.K.c) := hce 6 _ rfl
          have HOp : Hid (op.In wr w0.heap.size) := by
            have h1 := HP.out.each i hlt
            have h2 := HPz.out i hlt
            rw [← hop] at h1 h2
            have h3 := elD.mono (elD.kept h1 HBw.out.size fun b hb _ => HBw.out.block b hb) (S' := fun b => b < w0.heap.size) fun b hb _ => Nat.lt_of_lt_of_le hb HZ0.out
            exact ⟨h3.1, h3.2.1, h3.2.2.1, h3.2.2.2.1, h3.2.2.2.2.1, h3.2.2.2.2.2, h2.1, h2.2⟩
          obtain ⟨V3, hV3⟩ : ∃ V, V = wr.alloc (.cells #[.int .i64 op.kind, .int .i64 op.which, .string op.name, .int .i64 op.n, .int .i64 op.after, .slice op.bp op.zs.length op.bc, .slice op.K.p op.K.n op.K.c] 35) := ⟨_, rfl⟩
          have HBx : Hid (Below wr.heap.size wr V3) := by show Below _ _ _; rw [hV3]; exact (Below.refl _ _).alloc (Nat.le_refl _) _
          have HX3 : Hid (Box V3 wr.heap.size #[.int .i64 op.kind, .int .i64 op.which, .string op.name, .int .i64 op.n, .int .i64 op.after, .slice op.bp op.zs.length op.bc, .slice op.K.p op.K.n op.K.c] 35) := by show Box _ _ _ _; rw [hV3]; exact Box.new _ _ _
          have HM3 := hid (HM2.out.bel HBx.out).1
          have HBx2 := hid (HM2.out.bel HBx.out).2
          have HV3 := hid hV3
          have HPl := hid (plays_any op V3 w0.heap.size w0.heap.size db rb D2 R2 Cd2 Cr2 HM3.out HR2.out (HOp.out.bel HBx2.out))
          simp only [OpD.cs] at HPl
          clear hat hce hop hV3
          go_upto_region 12 with fail
          rw [← HV3.out]
          clear a0 a1 a2 a3 a4 a5 a6
          have b0 := HX3.out.cell 0
          have b1 := HX3.out.cell 1
          have b2 := HX3.out.cell 2
          have b3 := HX3.out.cell 3
          have b4 := HX3.out.cell 4
          have b5 := HX3.out.cell 5
          have b6 := HX3.out.cell 6
          simp at b0 b1 b2 b3 b4 b5 b6
          go_wp2_with fail
          refine HPl.out.mono ?_
          rintro e w5 ⟨rfl, hz⟩
          have HZ := hid hz.1
          have HB5 : Hid (Below w.heap.size w w5) := HBw.out.trans ((HBx2.out.trans hz.2).mono HZ0.out)
          clear hz HPl b0 b1 b2 b3 b4 b5 b6
          go_wp2
          go_roundw
          case rel => exact ⟨i + 1, by omega, by go_num, HZ.out, HB5.out⟩
          case measure => simp [intOf]; omega
        · have hlt' : ¬ (i : Int) < (P.n : Int) := by omega
          go_wp2
          exact bodyPost_ret (v := .bool true) (by simp [results, Tryz.results8, go_sem]) rfl ⟨rfl, HBw.out⟩
theorem diskChanges_walk (l : LT FA) (P : LT OpD) (w : World) (hl : LT.In elF w (fun b => b < w.heap.size) l) (hP : LT.In elD w (fun b => b < w.heap.size) P) :
    Calls Tryz.prog 3 #[.slice l.p l.n l.c, .slice P.p P.n P.c] w fun e w' => e = .returned (.bool true) ∧ Below w.heap.size w w' := by
  have HU := hid (upTo_any l P 1 4 w hl hP)
  clear hl hP
  go_enter Tryz.func3, Tryz.ntmps3
  go_wp2_with fail
  refine HU.out.mono ?_
  rintro e w2 ⟨rfl, hb⟩
  have HB := hid hb
  clear hb HU
  go_wp2
  exact bodyPost_ret (v := .bool true) (by simp [results, Tryz.results3, go_sem]) rfl ⟨rfl, HB.out⟩
theorem diskReads_walk (l : LT FA) (P : LT OpD) (w : World) (hl : LT.In elF w (fun b => b < w.heap.size) l) (hP : LT.In elD w (fun b => b < w.heap.size) P) :
    Calls Tryz.prog 4 #[.slice l.p l.n l.c, .slice P.p P.n P.c] w fun e w' => e = .returned (.bool true) ∧ Below w.heap.size w w' := by
  have HU := hid (upTo_any l P 5 6 w hl hP)
  clear hl hP
  go_enter Tryz.func4, Tryz.ntmps4
  go_wp2_with fail
  refine HU.out.mono ?_
  rintro e w2 ⟨rfl, hb⟩
  have HB := hid hb
  clear hb HU
  go_wp2
  exact bodyPost_ret (v := .bool true) (by simp [results, Tryz.results4, go_sem]) rfl ⟨rfl, HB.out⟩
theorem diskSpoils_walk (l : LT FA) (P : LT OpD) (w : World) (hl : LT.In elF w (fun b => b < w.heap.size) l) (hP : LT.In elD w (fun b => b < w.heap.size) P) :
    Calls Tryz.prog 5 #[.slice l.p l.n l.c, .slice P.p P.n P.c] w fun e w' => e = .returned (.bool true) ∧ Below w.heap.size w w' := by
  have HU := hid (upTo_any l P 11 11 w hl hP)
  clear hl hP
  go_enter Tryz.func5, Tryz.ntmps5
  go_wp2_with fail
  refine HU.out.mono ?_
  rintro e w2 ⟨rfl, hb⟩
  have HB := hid hb
  clear hb HU
  go_wp2
  exact bodyPost_ret (v := .bool true) (by simp [results, Tryz.results5, go_sem]) rfl ⟨rfl, HB.out⟩
theorem diskLies_walk (l : LT FA) (P : LT OpD) (w : World) (hl : LT.In elF w (fun b => b < w.heap.size) l) (hP : LT.In elD w (fun b => b < w.heap.size) P) :
    Calls Tryz.prog 6 #[.slice l.p l.n l.c, .slice P.p P.n P.c] w fun e w' => e = .returned (.bool true) ∧ Below w.heap.size w w' := by
  have HU := hid (upTo_any l P 12 12 w hl hP)
  clear hl hP
  go_enter Tryz.func6, Tryz.ntmps6
  go_wp2_with fail
  refine HU.out.mono ?_
  rintro e w2 ⟨rfl, hb⟩
  have HB := hid hb
  clear hb HU
  go_wp2
  exact bodyPost_ret (v := .bool true) (by simp [results, Tryz.results6, go_sem]) rfl ⟨rfl, HB.out⟩
theorem diskPlays_walk (l : LT FA) (P : LT OpD) (w : World) (hl : LT.In elF w (fun b => b < w.heap.size) l) (hP : LT.In elD w (fun b => b < w.heap.size) P) :
    Calls Tryz.prog 7 #[.slice l.p l.n l.c, .slice P.p P.n P.c] w fun e w' => e = .returned (.bool true) ∧ Below w.heap.size w w' := by
  have HU := hid (upTo_any l P 1 12 w hl hP)
  clear hl hP
  go_enter Tryz.func7, Tryz.ntmps7
  go_wp2_with fail
  refine HU.out.mono ?_
  rintro e w2 ⟨rfl, hb⟩
  have HB := hid hb
  clear hb HU
  go_wp2
  exact bodyPost_ret (v := .bool true) (by simp [results, Tryz.results7, go_sem]) rfl ⟨rfl, HB.out⟩
end Go.Proofs.YtebiidfdokhpaaaGreatDoor
