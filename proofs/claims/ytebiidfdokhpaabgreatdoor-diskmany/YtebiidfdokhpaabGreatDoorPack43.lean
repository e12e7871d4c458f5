import Derived.Test.YtebiidfdokhpaabGreatDoorPack17
import Derived.Test.YtebiidfdokhpaabGreatDoorFbF
namespace Go.Proofs.YtebiidfdokhpaabGreatDoor
open Go.RowKit
set_option maxRecDepth 8000
set_option maxHeartbeats 16000000 in
theorem plays_any (o : OpD) (w : World) (Z : Nat → Prop) (pb db rb : Nat) (D : DK) (R : RK) (Cd Cr : Nat → Prop) (hM : MP Z w pb db rb D R Cd Cr) (hR : Rel D R.ak) (ho : o.In w Z) :
    Calls Tryz.prog 7 #[.pointer (some ⟨pb, 0, none⟩), .agg o.cs] w fun e w' => LkQ Z w pb db rb Cd Cr e w' := by
  obtain ⟨V1, hV1⟩ : ∃ V, V = w.alloc (.cells o.cs 34) := ⟨_, rfl⟩
  have HB1 : Hid (Below w.heap.size w V1) := by show Below _ _ _; rw [hV1]; exact (Below.refl _ _).alloc (Nat.le_refl _) _
  have HX1 : Hid (Box V1 w.heap.size o.cs 34) := by show Box _ _ _ _; rw [hV1]; exact Box.new _ _ _
  have HM1 : Hid (MP Z V1 pb db rb D R Cd Cr) := (hM.bel HB1.out).1
  have HBB : Hid (Fr Z w V1) := (hM.bel HB1.out).2
  have HO : Hid (o.In V1 Z) := ho.bel HBB.out
  have HRl := hid hR
  have HV1 := hid hV1
  have HPb : Hid (pb ≠ w.heap.size) := by have := hM.bx.lt; show pb ≠ w.heap.size; omega
  clear hM hR ho hV1
  go_enter Tryz.func7, Tryz.ntmps7
  go_upto_region 1 with fail
  simp only [OpD.cs] at HV1 HX1
  simp only [OpD.cs]
  rw [← HV1.out]
  have p0 := HM1.out.bx.cell 0
  have p1 := HM1.out.bx.cell 1
  have o0 := HX1.out.cell 0
  have o2 := HX1.out.cell 2
  have o3 := HX1.out.cell 3
  have o4 := HX1.out.cell 4
  have o5 := HX1.out.cell 5
  have o6 := HX1.out.cell 6
  simp at p0 p1 o0 o2 o3 o4 o5 o6
  have o1 := HX1.out.cell 1
  simp at o1
  have HCh := hid (changes_any o V1 Z pb db rb D R Cd Cr HM1.out HRl.out HO.out)
  have HLk := hid (looks_any o V1 Z pb db rb D R Cd Cr HM1.out HRl.out HO.out)
  have HFt := hid (faults_any o V1 Z pb db rb D R Cd Cr HM1.out HRl.out HO.out)
  simp only [OpD.cs] at HCh HLk HFt
  clear p0 p1
  by_cases k1 : o.kind = 1
  · have k1' : (o.kind == 1) = true := by simp [k1]
    clear k1
    go_wp2_with fail
    refine HCh.out.mono ?_
    rintro e w3 ⟨x, rfl, hz⟩
    have HZ := hid hz
    have hxx : (x == x) = true := by simp
    clear hz HCh HLk HFt
    go_wp2
    exact bodyPost_ret (v := .bool true) (by simp [results, Tryz.results7, go_sem]) rfl ⟨rfl, PZ.ahead HBB.out HZ.out⟩
  · have k1' : (o.kind == 1) = false := by simpa using k1
    clear k1
    by_cases k2 : o.kind = 2
    · have k2' : (o.kind == 2) = true := by simp [k2]
      clear k2
      go_wp2_with fail
      refine HCh.out.mono ?_
      rintro e w3 ⟨x, rfl, hz⟩
      have HZ := hid hz
      have hxx : (x == x) = true := by simp
      clear hz HCh HLk HFt
      go_wp2
      exact bodyPost_ret (v := .bool true) (by simp [results, Tryz.results7, go_sem]) rfl ⟨rfl, PZ.ahead HBB.out HZ.out⟩
    · have k2' : (o.kind == 2) = false := by simpa using k2
      clear k2
      by_cases k3 : o.kind = 3
      · have k3' : (o.kind == 3) = true := by simp [k3]
        clear k3
        go_wp2_with fail
        refine HCh.out.mono ?_
        rintro e w3 ⟨x, rfl, hz⟩
        have HZ := hid hz
        have hxx : (x == x) = true := by simp
        clear hz HCh HLk HFt
        go_wp2
        exact bodyPost_ret (v := .bool true) (by simp [results, Tryz.results7, go_sem]) rfl ⟨rfl, PZ.ahead HBB.out HZ.out⟩
      · have k3' : (o.kind == 3) = false := by simpa using k3
        clear k3
        by_cases k4 : o.kind = 4
        · have k4' : (o.kind == 4) = true := by simp [k4]
          clear k4
          go_wp2_with fail
          refine HCh.out.mono ?_
          rintro e w3 ⟨x, rfl, hz⟩
          have HZ := hid hz
          have hxx : (x == x) = true := by simp
          clear hz HCh HLk HFt
          go_wp2
          exact bodyPost_ret (v := .bool true) (by simp [results, Tryz.results7, go_sem]) rfl ⟨rfl, PZ.ahead HBB.out HZ.out⟩
        · have k4' : (o.kind == 4) = false := by simpa using k4
          clear k4
          by_cases k5 : o.kind = 5
          · have k5' : (o.kind == 5) = true := by simp [k5]
            clear k5
            go_wp2_with fail
            refine HLk.out.mono ?_
            rintro e w3 ⟨rfl, hz⟩
            have HZ := hid hz
            clear hz HCh HLk HFt
            go_wp2
            exact bodyPost_ret (v := .bool true) (by simp [results, Tryz.results7, go_sem]) rfl ⟨rfl, PZ.ahead HBB.out HZ.out⟩
          · have k5' : (o.kind == 5) = false := by simpa using k5
            clear k5
            by_cases k6 : o.kind = 6
            · have k6' : (o.kind == 6) = true := by simp [k6]
              clear k6
              go_wp2_with fail
              refine HLk.out.mono ?_
              rintro e w3 ⟨rfl, hz⟩
              have HZ := hid hz
              clear hz HCh HLk HFt
              go_wp2
              exact bodyPost_ret (v := .bool true) (by simp [results, Tryz.results7, go_sem]) rfl ⟨rfl, PZ.ahead HBB.out HZ.out⟩
            · have k6' : (o.kind == 6) = false := by simpa using k6
              clear k6
              by_cases k12 : o.kind = 12
              · have k12' : (o.kind == 12) = true := by simp [k12]
                clear k12
                go_wp2_with fail
                refine HLk.out.mono ?_
                rintro e w3 ⟨rfl, hz⟩
                have HZ := hid hz
                clear hz HCh HLk HFt
                go_wp2
                exact bodyPost_ret (v := .bool true) (by simp [results, Tryz.results7, go_sem]) rfl ⟨rfl, PZ.ahead HBB.out HZ.out⟩
              · have k12' : (o.kind == 12) = false := by simpa using k12
                clear k12
                go_wp2_with fail
                refine HFt.out.mono ?_
                rintro e w3 ⟨rfl, hz⟩
                have HZ := hid hz
                clear hz HCh HLk HFt
                go_wp2
                exact bodyPost_ret (v := .bool true) (by simp [results, Tryz.results7, go_sem]) rfl ⟨rfl, PZ.ahead HBB.out HZ.out⟩
/-- behind begin -/
def BgZ (l : LT FA) (W : World) (pb : Nat) (e : Ending) (w' : World) : Prop :=
  e = .returned (.bool true) ∧ But (fun k => k = pb) W w' ∧ ((newB l = false ∧ Box w' pb #[.pointer none, .pointer none] 29) ∨ ∃ db rb D R Cd Cr, (∀ Z : Nat → Prop, (∀ k, Z k → k < W.heap.size ∧ k ≠ pb) → MP Z w' pb db rb D R Cd Cr) ∧ Rel D R.ak ∧ ∀ k, Cd k ∨ Cr k → W.heap.size ≤ k)
set_option maxHeartbeats 8000000 in
theorem beginM_any (l : LT FA) (W : World) (pb : Nat) (hX : Box W pb #[.pointer none, .pointer none] 29) (hl : LT.In elF W (fun b => b < W.heap.size) l) (hn : l.n ≤ 500) (hz : ∀ j, j < l.n → (l.item j).n ≤ 524288) :
    Calls Tryz.prog 6 #[.pointer (some ⟨pb, 0, none⟩), .slice l.p l.n l.c] W fun e w' => BgZ l W pb e w' := by
  have HX := hid hX
  have HL := hid hl
  have HZ := hid hz
  have HR := hid (rnewK_any l W hl)
  clear hX hl hz
  go_enter Tryz.func6, Tryz.ntmps6
  go_wp2_with fail
  refine HR.out.mono ?_
  rintro e w1 ⟨hb1, hf1, ht1⟩
  have HB1 := hid hb1
  have HL1 : Hid (LT.In elF w1 (fun b => b < W.heap.size) l) := HL.out.kept hb1.size fun b _ hlt => hb1.block b hlt
  have HX1 := hid (HX.out.below hb1)
  have HC := hid (cpF_any l w1 _ HL1.out (by omega) (fun j hj => Nat.le_trans (HZ.out j hj) (by omega)))
  clear hb1 HR
  cases hb : newB l with
  | false =>
    obtain rfl := hf1 hb
    clear hf1 ht1
    go_wp2_with fail
    refine HC.out.mono ?_
    rintro e w2 ⟨u, rfl, hu, hun, huk, hb2⟩
    have HB2 : Hid (Below W.heap.size W w2) := HB1.out.trans (hb2.mono HB1.out.size)
    have HX2 := hid (HX1.out.below hb2)
    have hbu : newB u = false := (newB_eq u l hun huk).trans hb
    have HD := hid (dnew_any u w2 (hu.mono fun b _ h => h))
    clear hu hun huk hb2
    go_wp2_with fail
    refine HD.out.mono ?_
    rintro e w3 ⟨hb3, hf3, _⟩
    obtain rfl := hf3 hbu
    have HB3 : Hid (Below W.heap.size W w3) := HB2.out.trans (hb3.mono HB2.out.size)
    have HX3 := hid (HX2.out.below hb3)
    clear hb3 hf3 hbu
    have f0 := HX3.out.cell 0
    have f1 := HX3.out.cell 1
    have g0 := HX3.out.frozen 0
    have g1 := HX3.out.frozen 1
    have fl := HX3.out.lt
    simp at f0 f1
    go_wp2
    have hbx := (HX3.out.set 0 (.pointer none)).set 1 (.pointer none)
    have hbt : But (fun k => k = pb) w3 ((w3.setCell ⟨pb, 0, none⟩ (.pointer none)).setCell ⟨pb, 1, none⟩ (.pointer none)) := ((But.one _ _).setAt 0 _).setAt 1 _
    exact bodyPost_ret (v := .bool true) (by simp [results, Tryz.results6, go_sem]) rfl ⟨rfl, (But.ofBelow HB3.out).trans hbt, .inl ⟨hb, by simpa using hbx⟩⟩
  | true =>
    obtain ⟨R, rfl, hA⟩ := ht1 hb
    have HA := hid hA
    clear hf1 ht1 hA
    go_wp2_with fail
    refine HC.out.mono ?_
    rintro e w2 ⟨u, rfl, hu, hun, huk, hb2⟩
    have HB12 := hid hb2
    have HB2 : Hid (Below W.heap.size W w2) := HB1.out.trans (hb2.mono HB1.out.size)
    have HX2 := hid (HX1.out.below hb2)
    have hbu : newB u = true := (newB_eq u l hun huk).trans hb
    have HD := hid (dnew_any u w2 (hu.mono fun b _ h => h))
    have HU := hid (And.intro hun huk)
    clear hu hun huk hb2
    go_wp2_with fail
    refine HD.out.mono ?_
    rintro e w3 ⟨hb3, _, ht3⟩
    obtain ⟨D, rfl, hD⟩ := ht3 hbu
    have HN := hid hD
    have HB23 := hid hb3
    have HB3 : Hid (Below W.heap.size W w3) := HB2.out.trans (hb3.mono HB2.out.size)
    have HX3 := hid (HX2.out.below hb3)
    clear hb3 ht3 hbu hD
    have f0 := HX3.out.cell 0
    have f1 := HX3.out.cell 1
    have g0 := HX3.out.frozen 0
    have g1 := HX3.out.frozen 1
    have fl := HX3.out.lt
    simp at f0 f1
    have HBx := hid ((HX3.out.set 0 (.pointer (some ⟨w2.heap.size + 1, 0, none⟩))).set 1 (.pointer (some ⟨W.heap.size, 0, none⟩)))
    have HBt : Hid (But (fun k => k = pb) w3 ((w3.setCell ⟨pb, 0, none⟩ (.pointer (some ⟨w2.heap.size + 1, 0, none⟩))).setCell ⟨pb, 1, none⟩ (.pointer (some ⟨W.heap.size, 0, none⟩)))) := ((But.one _ _).setAt 0 _).setAt 1 _
    go_wp2
    have hpl := HX.out.lt
    have hs1 := HB1.out.size
    have hs2 := HB12.out.size
    have hb13 : Below w1.heap.size w1 w3 := HB12.out.trans (HB23.out.mono HB12.out.size)
    refine bodyPost_ret (v := .bool true) (by simp [results, Tryz.results6, go_sem]) rfl ⟨rfl, (But.ofBelow HB3.out).trans HBt.out, .inr ⟨w2.heap.size + 1, W.heap.size, D, R, fun k => w2.heap.size ≤ k ∧ k < w3.heap.size, fun k => W.heap.size ≤ k ∧ k < w1.heap.size, ?_, ?_, ?_⟩⟩
    · intro Z hZ
      have hs3 := HB23.out.size
      have hs4 := HBt.out.size
      refine ⟨by simpa using HBx.out, ?_, ?_, fun k hk => ⟨fun hz => by have := (hZ k hz).1; omega, Nat.lt_of_lt_of_le hk.2 HBt.out.size, by omega, fun h => by omega⟩, fun k hk => ⟨fun hz => by have := (hZ k hz).1; omega, by omega, by omega⟩, fun hz => (hZ pb hz).2 rfl, fun k hz => by have := (hZ k hz).1; omega⟩
      · exact (HN.out.dk.mono fun k hk hl => ⟨hk, hl⟩).kept fun k hk hl => HBt.out.block k hl (by show ¬ k = pb; omega)
      · exact ((HA.out.rk.mono fun k hk hl => ⟨hk, hl⟩).below hb13).kept fun k hk hl => HBt.out.block k hl (by show ¬ k = pb; omega)
    · have hks : D.fs.map FT.key = (List.range l.n).map fun j => (l.item j).key := by
        rw [HN.out.ks, HU.out.1]
        exact List.map_congr_left fun j hj => HU.out.2 j (List.mem_range.1 hj)
      obtain ⟨f1, f2, f3, f4, f5⟩ := HN.out.fl
      obtain ⟨g1, g2, g3, g4⟩ := HA.out.rg
      refine ⟨?_, ?_, by rw [f5]; exact g1.symm, .inl ⟨f1, g2⟩, by rw [f4]; exact g4.symm, fun e => absurd f4 e, ⟨fun _ => f2, fun _ => f3⟩, by rw [f3]; omega⟩
      · rw [hks, ak_ks, HA.out.ks]
        exact (srtK_perm l l.n).symm
      · rw [ak_ks, HA.out.ks]
        exact srtK_rise l l.n HA.out.ok
    · intro k hk
      rcases hk with hk | hk <;> omega
end Go.Proofs.YtebiidfdokhpaabGreatDoor

namespace Go.Proofs.YtebiidfdokhpaabGreatDoor
open Go.RowKit
set_option maxRecDepth 8000
def elD : El OpD where
  ty := 34
  size := 7
  cells := fun o => [.int .i64 o.kind, .int .i64 o.which, .string o.name, .int .i64 o.n, .int .i64 o.after, .slice o.bp o.zs.length o.bc, .slice o.K.p o.K.n o.K.c]
  len := fun _ => rfl
  one := fun x u hu => by
    simp only [List.mem_cons, List.not_mem_nil, or_false] at hu
    rcases hu with rfl | rfl | rfl | rfl | rfl | rfl | rfl <;> rfl
  In := fun w S o => o.name.size ≤ 140737488355328 ∧ (-9223372036854775808 ≤ o.kind ∧ o.kind ≤ 9223372036854775807) ∧ (-9223372036854775808 ≤ o.n ∧ o.n ≤ 9223372036854775807) ∧ (-9223372036854775808 ≤ o.after ∧ o.after ≤ 9223372036854775807) ∧ Byts w S o.bp o.zs.length o.bc (fun j => o.zs.getD j 0) ∧ LT.In elInt w S o.K
  kept := fun h hs hb => ⟨h.1, h.2.1, h.2.2.1, h.2.2.2.1, h.2.2.2.2.1.kept hs hb, h.2.2.2.2.2.kept hs hb⟩
  mono := fun h hb => ⟨h.1, h.2.1, h.2.2.1, h.2.2.2.1, h.2.2.2.2.1.mono hb, h.2.2.2.2.2.mono hb⟩
def FsQ (A : LT FA) (P : LT OpD) (w : World) (e : Ending) (w' : World) : Prop := ∃ q : Bool, e = .returned (.bool q) ∧ Below w.heap.size w w' ∧ (q = true → (A.n ≤ 500 ∧ ∀ j, j < A.n → (A.item j).n ≤ 524288) ∧ P.n ≤ 400 ∧ ∀ j, j < P.n → (P.item j).zs.length ≤ 524288 ∧ (P.item j).K.n ≤ 524288)
set_option maxHeartbeats 8000000 in
/-- what the law's fits says of files and script -/
theorem sfits_any (A : LT FA) (P : LT OpD) (w : World) (S S' : Nat → Prop) (hA : LT.In elF w S A) (hP : LT.In elD w S' P) :
    Calls Tryz.prog 5 #[.slice A.p A.n A.c, .slice P.p P.n P.c] w fun e w' => FsQ A P w e w' := by
  have HA := hid hA
  have HP := hid hP
  have hnn := hA.nn
  have hpn := hP.nn
  clear hA hP
  go_enter Tryz.func5, Tryz.ntmps5
  go_wp2_with fail
  go_loopw [5, 6] (fun v x wr => ∃ (i : Nat) (s : Int), i ≤ A.n ∧ x = .int .i64 (i : Int) ∧ v = .int .i64 s ∧ wr = w ∧ (A.n ≤ 500 → 0 ≤ s ∧ s ≤ (i : Int) * 140737488355328 ∧ ∀ j, j < i → ((A.item j).n : Int) ≤ s)) (fun _ x _ => A.n - (intOf x).toNat)
  case atStart => exact ⟨0, 0, Nat.zero_le _, rfl, rfl, rfl, fun _ => ⟨by omega, by omega, fun j hj => absurd hj (by omega)⟩⟩
  case round =>
    obtain ⟨i, s, hi, rfl, rfl, rfl, hs⟩ := hrel
    have HS := hid hs
    clear hs
    by_cases hlt : i < A.n
    · have hlt' : (i : Int) < (A.n : Int) := by omega
      obtain ⟨bb, o, hp, _, hbb, hat⟩ := HA.out.at_ (by omega)
      rw [hp]
      have a1 : wr.cell? ⟨bb, o + i * 3 + 1, none⟩ = some (.slice (A.item i).p (A.item i).n (A.item i).c) := hat i hlt 1 _ rfl
      have HIn := hid (HA.out.each i hlt)
      clear hat
      go_wp2
      go_roundw
      case rel =>
        refine ⟨i + 1, _, by omega, by go_num, rfl, trivial, fun h5 => ?_⟩
        obtain ⟨h1, h2, h3⟩ := HS.out h5
        have h4 := HIn.out.2.1.nn
        have e : wrap64 (s + ((A.item i).n : Int)) = s + ((A.item i).n : Int) := by rw [wrap64]; omega
        rw [e]
        refine ⟨by omega, by push_cast; omega, fun j hj => ?_⟩
        by_cases hji : j < i
        · have := h3 j hji; omega
        · obtain rfl : j = i := by omega
          omega
      case measure => simp [intOf]; omega
    · have hlt' : ¬ (i : Int) < (A.n : Int) := by omega
      obtain rfl : i = A.n := by omega
      obtain ⟨w0, hw0⟩ : ∃ V, V = wr := ⟨_, rfl⟩
      have HW0 := hid hw0
      go_wp2_with fail
      go_loopw [5, 7] (fun v x wq => ∃ (i : Nat) (s2 : Int), i ≤ P.n ∧ x = .int .i64 (i : Int) ∧ v = .int .i64 s2 ∧ Below w0.heap.size w0 wq ∧ (A.n ≤ 500 → P.n ≤ 400 → s ≤ s2 ∧ s2 ≤ s + (i : Int) * 281474976710656 ∧ ∀ j, j < i → ((P.item j).zs.length : Int) ≤ s2 ∧ ((P.item j).K.n : Int) ≤ s2)) (fun _ x _ => P.n - (intOf x).toNat)
      case atStart => exact ⟨0, s, Nat.zero_le _, rfl, rfl, by rw [HW0.out]; exact Below.refl _ _, fun _ _ => ⟨by omega, by omega, fun j hj => absurd hj (by omega)⟩⟩
      case round =>
        obtain ⟨i, s2, hi, rfl, rfl, hbw, hs2⟩ := hrel
        have HS2 := hid hs2
        have HBw := hid hbw
        clear hs2 hbw
        by_cases hlt : i < P.n
        · have hlt' : (i : Int) < (P.n : Int) := by omega
          obtain ⟨bb, o, hp, _, hbb, hat⟩ := HP.out.at_ (by omega)
          rw [hp]
          have hce : ∀ r u, (elD.cells (P.item i))[r]? = some u → wr.cell? ⟨bb, o + i * 7 + r, none⟩ = some u := fun r u hu => (World.cell?_of_block (a := ⟨bb, o + i * 7 + r, none⟩) ((HBw.out.block bb (by rw [HW0.out]; exact hbb)).trans (by rw [HW0.out]))).trans (hat i hlt r u hu)
          have a5 : wr.cell? ⟨bb, o + i * 7 + 5, none⟩ = some (.slice (P.item i).bp (P.item i).zs.length (P.item i).bc) := hce 5 _ rfl
          have a6 : wr.cell? ⟨bb, o + i * 7 + 6, none⟩ = some (.slice (P.item i).K.p (P.item i).K.n (P.item i).K.c) := hce 6 _ rfl
          have HIn := hid (HP.out.each i hlt)
          clear hat hce
          go_upto_region 9 with fail
          refine wp_region_calmE 30 (fun wx => Below wr.heap.size wr wx) [(0, true), (1, true), (2, true), (3, true), (4, true), (5, false), (6, true), (7, true), (8, true), (9, true), (10, true), (11, true), (12, false), (13, true), (14, true), (15, true)] .done (by kernel_rfl) (by kernel_rfl) (Below.refl _ _).drew ?_
          refine wpPre_e rfl rfl (fun K1 hK1 => ?_)
          apply Exists.intro
          refine And.intro (fun wx hx => ?_) ?_
          · go_simp
            try rfl
          go_simp
          refine hK1 _ ?_
          clear hK1 K1
          refine wpPre_e rfl rfl (fun K1 hK1 => ?_)
          apply Exists.intro
          refine And.intro (fun wx hx => ?_) ?_
          · go_simp
            try rfl
          go_simp
          refine hK1 _ ?_
          clear hK1 K1
          refine wpPre_e rfl rfl (fun K1 hK1 => ?_)
          apply Exists.intro
          refine And.intro (fun wx hx => ?_) ?_
          · go_simp
            try rfl
          go_simp
          refine hK1 _ ?_
          clear hK1 K1
          refine wpPre_e rfl rfl (fun K1 hK1 => ?_)
          apply Exists.intro
          refine And.intro (fun wx hx => ?_) ?_
          · go_simp
            try rfl
          go_simp
          refine hK1 _ ?_
          clear hK1 K1
          refine wpPre_e rfl rfl (fun K1 hK1 => ?_)
          apply Exists.intro
          refine And.intro (fun wx hx => ?_) ?_
          · go_simp
            try rfl
          go_simp
          refine hK1 _ ?_
          clear hK1 K1
          refine wpPre_e rfl rfl (fun K1 hK1 => ?_)
          apply Exists.intro
          refine And.intro (fun wx hx => ?_) ?_
          · have e0 := below_fact hx rfl a5
            go_simp
            try rfl
          go_simp
          refine hK1 _ ?_
          clear hK1 K1
          refine wpPre_e rfl rfl (fun K1 hK1 => ?_)
          apply Exists.intro
          refine And.intro (fun wx hx => ?_) ?_
          · go_simp
            try rfl
          go_simp
          refine hK1 _ ?_
          clear hK1 K1
          refine wpPre_e rfl rfl (fun K1 hK1 => ?_)
          apply Exists.intro
          refine And.intro (fun wx hx => ?_) ?_
          · go_simp
            try rfl
          go_simp
          refine hK1 _ ?_
          clear hK1 K1
          refine wpPre_e rfl rfl (fun K1 hK1 => ?_)
          apply Exists.intro
          refine And.intro (fun wx hx => ?_) ?_
          · go_simp
            try rfl
          go_simp
          refine hK1 _ ?_
          clear hK1 K1
          refine wpPre_e rfl rfl (fun K1 hK1 => ?_)
          apply Exists.intro
          refine And.intro (fun wx hx => ?_) ?_
          · go_simp
            try rfl
          go_simp
          refine hK1 _ ?_
          clear hK1 K1
          refine wpPre_e rfl rfl (fun K1 hK1 => ?_)
          apply Exists.intro
          refine And.intro (fun wx hx => ?_) ?_
          · go_simp
            try rfl
          go_simp
          refine hK1 _ ?_
          clear hK1 K1
          refine wpPre_e rfl rfl (fun K1 hK1 => ?_)
          apply Exists.intro
          refine And.intro (fun wx hx => ?_) ?_
          · go_simp
            try rfl
          go_simp
          refine hK1 _ ?_
          clear hK1 K1
          refine wpPre_e rfl rfl (fun K1 hK1 => ?_)
          apply Exists.intro
          refine And.intro (fun wx hx => ?_) ?_
          · have e0 := below_fact hx rfl a6
            go_simp
            try rfl
          go_simp
          refine hK1 _ ?_
          clear hK1 K1
          refine wpPre_e rfl rfl (fun K1 hK1 => ?_)
          apply Exists.intro
          refine And.intro (fun wx hx => ?_) ?_
          · go_simp
            try rfl
          go_simp
          refine hK1 _ ?_
          clear hK1 K1
          refine wpPre_e rfl rfl (fun K1 hK1 => ?_)
          apply Exists.intro
          refine And.intro (fun wx hx => ?_) ?_
          · go_simp
            try rfl
          go_simp
          refine hK1 _ ?_
          clear hK1 K1
          refine wpPre_e rfl rfl (fun K1 hK1 => ?_)
          apply Exists.intro
          refine And.intro (fun wx hx => ?_) ?_
          · go_simp
            try rfl
          go_simp
          refine hK1 _ ?_
          clear hK1 K1
          refine wpPre_nil ?_
          refine wpTr_done ?_
          clear a5 a6
          go_wp2
          go_roundw
          case rel =>
            refine ⟨i + 1, _, by omega, by go_num, rfl, HBw.out.drew, fun h5 h6 => ?_⟩
            obtain ⟨h1, h2, h3⟩ := HS2.out h5 h6
            obtain ⟨q1, q2, _⟩ := HS.out h5
            have h4 := HIn.out.2.2.2.2.1.nn
            have h7 := HIn.out.2.2.2.2.2.nn
            have e : IntKind.i64.wrap (s2 + ((P.item i).zs.length : Int)) = s2 + ((P.item i).zs.length : Int) := by rw [IntKind.wrap_i64]; omega
            have e2 : IntKind.i64.wrap (s2 + ((P.item i).zs.length : Int) + ((P.item i).K.n : Int)) = s2 + ((P.item i).zs.length : Int) + ((P.item i).K.n : Int) := by rw [IntKind.wrap_i64]; omega
            rw [e, e2]
            refine ⟨by omega, by push_cast; omega, fun j hj => ?_⟩
            by_cases hji : j < i
            · have := h3 j hji; omega
            · obtain rfl : j = i := by omega
              omega
          case measure => simp [intOf]; omega
        · have hlt' : ¬ (i : Int) < (P.n : Int) := by omega
          obtain rfl : i = P.n := by omega
          have HBf : Hid (Below w0.heap.size w0 wr) := HBw.out
          by_cases h4 : P.n ≤ 400
          · have h4' : (P.n : Int) ≤ 400 := by omega
            by_cases h5 : A.n ≤ 500
            · have h5' : (A.n : Int) ≤ 500 := by omega
              by_cases h6 : s2 ≤ 524288
              · go_wp2
                refine bodyPost_ret (v := .bool true) (by simp [results, Tryz.results5, go_sem]) rfl ⟨true, rfl, by rw [← HW0.out]; exact HBf.out, fun _ => ?_⟩
                obtain ⟨r1, r2, r3⟩ := HS2.out h5 h4
                exact ⟨⟨h5, fun j hj => by have := (HS.out h5).2.2 j hj; omega⟩, h4, fun j hj => by have := r3 j hj; omega⟩
              · go_wp2
                exact bodyPost_ret (v := .bool false) (by simp [results, Tryz.results5, go_sem]) rfl ⟨false, rfl, by rw [← HW0.out]; exact HBf.out, fun h => by cases h⟩
            · have h5' : ¬ (A.n : Int) ≤ 500 := by omega
              go_wp2
              exact bodyPost_ret (v := .bool false) (by simp [results, Tryz.results5, go_sem]) rfl ⟨false, rfl, by rw [← HW0.out]; exact HBf.out, fun h => by cases h⟩
          · have h4' : ¬ (P.n : Int) ≤ 400 := by omega
            go_wp2
            exact bodyPost_ret (v := .bool false) (by simp [results, Tryz.results5, go_sem]) rfl ⟨false, rfl, by rw [← HW0.out]; exact HBf.out, fun h => by cases h⟩
end Go.Proofs.YtebiidfdokhpaabGreatDoor
