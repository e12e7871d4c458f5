import Derived.Test.YtfonicphdejdlaaGreatPack27
namespace Go.Proofs.YtfonicphdejdlaaGreat
open Go.RowKit
set_option maxRecDepth 8000
set_option maxHeartbeats 1000000 in
theorem sameCells_nil (w : World) : Calls Tryz.prog 29 #[.slice none 0 0, .slice none 0 0] w fun x w' => x = .returned (.bool true) ∧ w' = w := by
  go_enter Tryz.func29, Tryz.ntmps29
  go_wp2_with fail
  go_loopw [5] (fun x wr => x = .int .i64 0 ∧ wr = w) (fun x _ => 0 - (intOf x).toNat)
  case atStart => exact ⟨rfl, rfl⟩
  case round =>
    obtain ⟨rfl, rfl⟩ := hrel
    go_wp2
    go_ret
    exact ⟨rfl, rfl⟩
set_option maxHeartbeats 1000000 in
theorem sameRecords_nil (w : World) : Calls Tryz.prog 64 #[.slice none 0 0, .slice none 0 0] w fun x w' => x = .returned (.bool true) ∧ w' = w := by
  go_enter Tryz.func64, Tryz.ntmps64
  go_wp2_with fail
  go_loopw [5] (fun x wr => x = .int .i64 0 ∧ wr = w) (fun x _ => 0 - (intOf x).toNat)
  case atStart => exact ⟨rfl, rfl⟩
  case round =>
    obtain ⟨rfl, rfl⟩ := hrel
    go_wp2
    go_ret
    exact ⟨rfl, rfl⟩
set_option maxHeartbeats 1000000 in
theorem sameTexts_nil (w : World) : Calls Tryz.prog 65 #[.slice none 0 0, .slice none 0 0] w fun x w' => x = .returned (.bool true) ∧ w' = w := by
  go_enter Tryz.func65, Tryz.ntmps65
  go_wp2_with fail
  go_loopw [5] (fun x wr => x = .int .i64 0 ∧ wr = w) (fun x _ => 0 - (intOf x).toNat)
  case atStart => exact ⟨rfl, rfl⟩
  case round =>
    obtain ⟨rfl, rfl⟩ := hrel
    go_wp2
    go_ret
    exact ⟨rfl, rfl⟩
set_option maxHeartbeats 2000000 in
theorem sameManifest_zero (w : World) : Calls Tryz.prog 31 #[.agg #[.int .i64 0, .int .u32 0, .slice none 0 0], .agg #[.int .i64 0, .int .u32 0, .slice none 0 0]] w fun x w' => x = .returned (.bool true) ∧ Below w.heap.size w w' := by
  go_enter Tryz.func31, Tryz.ntmps31
  go_wp2_with fail
  go_loopw [5] (fun x wr => x = .int .i64 0 ∧ wr = (w.alloc (.cells #[.int .i64 0, .int .u32 0, .slice none 0 0] 41)).alloc (.cells #[.int .i64 0, .int .u32 0, .slice none 0 0] 41)) (fun x _ => 0 - (intOf x).toNat)
  case atStart => exact ⟨rfl, rfl⟩
  case round =>
    obtain ⟨rfl, rfl⟩ := hrel
    go_wp2
    go_ret
    exact ⟨rfl, ((Below.refl _ _).alloc (Nat.le_refl _) _).alloc (by simp) _⟩
set_option maxHeartbeats 4000000 in
theorem sameSegment_zero (w : World) : Calls Tryz.prog 30 #[.agg #[.int .i64 0, .int .i64 0, .int .i64 0, .int .u32 0, .int .i64 0, .slice none 0 0, .int .i64 0, .slice none 0 0, .slice none 0 0, .slice none 0 0, .slice none 0 0], .agg #[.int .i64 0, .int .i64 0, .int .i64 0, .int .u32 0, .int .i64 0, .slice none 0 0, .int .i64 0, .slice none 0 0, .slice none 0 0, .slice none 0 0, .slice none 0 0]] w fun x w' => x = .returned (.bool true) ∧ Below w.heap.size w w' := by
  have H1 := fun W => sameCells_nil W
  have H2 := fun W => sameTexts_nil W
  have H3 := fun W => sameRecords_nil W
  go_enter Tryz.func30, Tryz.ntmps30
  go_wp2_with fail
  go_loopw [5] (fun x wr => x = .int .i64 0 ∧ wr = (w.alloc (.cells #[.int .i64 0, .int .i64 0, .int .i64 0, .int .u32 0, .int .i64 0, .slice none 0 0, .int .i64 0, .slice none 0 0, .slice none 0 0, .slice none 0 0, .slice none 0 0] 38)).alloc (.cells #[.int .i64 0, .int .i64 0, .int .i64 0, .int .u32 0, .int .i64 0, .slice none 0 0, .int .i64 0, .slice none 0 0, .slice none 0 0, .slice none 0 0, .slice none 0 0] 38)) (fun x _ => 0 - (intOf x).toNat)
  case atStart => exact ⟨rfl, rfl⟩
  case round =>
    obtain ⟨rfl, rfl⟩ := hrel
    go_wp2_with fail
    refine (H1 _).mono ?_
    rintro x w1 ⟨rfl, rfl⟩
    go_wp2_with fail
    refine (H1 _).mono ?_
    rintro x w1 ⟨rfl, rfl⟩
    go_wp2_with fail
    refine (H2 _).mono ?_
    rintro x w1 ⟨rfl, rfl⟩
    go_wp2_with fail
    refine (H3 _).mono ?_
    rintro x w1 ⟨rfl, rfl⟩
    go_wp2
    go_ret
    exact ⟨rfl, ((Below.refl _ _).alloc (Nat.le_refl _) _).alloc (by simp) _⟩
/-- all five, where nothing is in them -/
theorem leafR_zero : LeafR zRT zRT := ⟨rfl, ⟨rfl, rfl, rfl, rfl, rfl⟩, rfl, fun _ _ => rfl⟩
set_option maxHeartbeats 4000000 in
theorem sameThing_zero (k : Int) (w : World) : Calls Tryz.prog 13 #[.agg (kC k), .agg zC] w fun x w' => x = .returned (.bool true) ∧ Below w.heap.size w w' := by
  have H1 := fun W => sameCells_nil W
  have HR : Hid (∀ W, Calls Tryz.prog 16 #[.agg #[.string ⟨#[]⟩, .int .i64 0, .int .i64 0, .string ⟨#[]⟩, .slice none 0 0, .slice none 0 0], .agg #[.string ⟨#[]⟩, .int .i64 0, .int .i64 0, .string ⟨#[]⟩, .slice none 0 0, .slice none 0 0]] W fun x w' => x = .returned (.bool true) ∧ Below W.heap.size W w') := fun W => sameRecord_leaf zRT zRT leafR_zero W (fun _ => False) (in_zRT _ _) (in_zRT _ _) (fun b h => h.elim)
  have HG := fun W => sameSegment_zero W
  have HM := fun W => sameManifest_zero W
  have hb0 : Below w.heap.size w ((w.alloc (.cells (kC k) 45)).alloc (.cells zC 45)) := ((Below.refl _ _).alloc (Nat.le_refl _) _).alloc (by simp) _
  have hx0 := (Box.new w (kC k) 45).below ((Below.refl _ _).alloc (Nat.le_refl _) (.cells zC 45))
  have hy0 := Box.new (w.alloc (.cells (kC k) 45)) zC 45
  rw [show (w.alloc (.cells (kC k) 45)).heap.size = w.heap.size + 1 by simp] at hy0
  have a1 := (hx0.cell 1).trans (show (kC k)[1]? = some (.string ⟨#[]⟩) from rfl)
  have a2 := (hx0.cell 2).trans (show (kC k)[2]? = some (.int .i64 0) from rfl)
  have a3 := (hx0.cell 3).trans (show (kC k)[3]? = some (.int .i64 0) from rfl)
  have a4 := (hx0.cell 4).trans (show (kC k)[4]? = some (.string ⟨#[]⟩) from rfl)
  have a5 := (hx0.cell 5).trans (show (kC k)[5]? = some (.slice none 0 0) from rfl)
  have a6 := (hx0.cell 6).trans (show (kC k)[6]? = some (.slice none 0 0) from rfl)
  have a7 := (hx0.cell 7).trans (show (kC k)[7]? = some (.int .i64 0) from rfl)
  have a8 := (hx0.cell 8).trans (show (kC k)[8]? = some (.slice none 0 0) from rfl)
  have a9 := (hx0.cell 9).trans (show (kC k)[9]? = some (.int .i64 0) from rfl)
  have a10 := (hx0.cell 10).trans (show (kC k)[10]? = some (.int .i64 0) from rfl)
  have a11 := (hx0.cell 11).trans (show (kC k)[11]? = some (.int .i64 0) from rfl)
  have a12 := (hx0.cell 12).trans (show (kC k)[12]? = some (.int .u32 0) from rfl)
  have a13 := (hx0.cell 13).trans (show (kC k)[13]? = some (.int .i64 0) from rfl)
  have a14 := (hx0.cell 14).trans (show (kC k)[14]? = some (.slice none 0 0) from rfl)
  have a15 := (hx0.cell 15).trans (show (kC k)[15]? = some (.int .i64 0) from rfl)
  have a16 := (hx0.cell 16).trans (show (kC k)[16]? = some (.slice none 0 0) from rfl)
  have a17 := (hx0.cell 17).trans (show (kC k)[17]? = some (.slice none 0 0) from rfl)
  have a18 := (hx0.cell 18).trans (show (kC k)[18]? = some (.slice none 0 0) from rfl)
  have a19 := (hx0.cell 19).trans (show (kC k)[19]? = some (.slice none 0 0) from rfl)
  have a20 := (hx0.cell 20).trans (show (kC k)[20]? = some (.int .i64 0) from rfl)
  have a21 := (hx0.cell 21).trans (show (kC k)[21]? = some (.int .u32 0) from rfl)
  have a22 := (hx0.cell 22).trans (show (kC k)[22]? = some (.slice none 0 0) from rfl)
  have a23 := (hx0.cell 23).trans (show (kC k)[23]? = some (.int .i64 0) from rfl)
  have a24 := (hx0.cell 24).trans (show (kC k)[24]? = some (.string ⟨#[]⟩) from rfl)
  have a25 := (hx0.cell 25).trans (show (kC k)[25]? = some (.int .i64 0) from rfl)
  have a26 := (hx0.cell 26).trans (show (kC k)[26]? = some (.int .i64 0) from rfl)
  have a27 := (hx0.cell 27).trans (show (kC k)[27]? = some (.string ⟨#[]⟩) from rfl)
  have a28 := (hx0.cell 28).trans (show (kC k)[28]? = some (.slice none 0 0) from rfl)
  have a29 := (hx0.cell 29).trans (show (kC k)[29]? = some (.slice none 0 0) from rfl)
  have b1 := (hy0.cell 1).trans (show (zC)[1]? = some (.string ⟨#[]⟩) from rfl)
  have b2 := (hy0.cell 2).trans (show (zC)[2]? = some (.int .i64 0) from rfl)
  have b3 := (hy0.cell 3).trans (show (zC)[3]? = some (.int .i64 0) from rfl)
  have b4 := (hy0.cell 4).trans (show (zC)[4]? = some (.string ⟨#[]⟩) from rfl)
  have b5 := (hy0.cell 5).trans (show (zC)[5]? = some (.slice none 0 0) from rfl)
  have b6 := (hy0.cell 6).trans (show (zC)[6]? = some (.slice none 0 0) from rfl)
  have b7 := (hy0.cell 7).trans (show (zC)[7]? = some (.int .i64 0) from rfl)
  have b8 := (hy0.cell 8).trans (show (zC)[8]? = some (.slice none 0 0) from rfl)
  have b9 := (hy0.cell 9).trans (show (zC)[9]? = some (.int .i64 0) from rfl)
  have b10 := (hy0.cell 10).trans (show (zC)[10]? = some (.int .i64 0) from rfl)
  have b11 := (hy0.cell 11).trans (show (zC)[11]? = some (.int .i64 0) from rfl)
  have b12 := (hy0.cell 12).trans (show (zC)[12]? = some (.int .u32 0) from rfl)
  have b13 := (hy0.cell 13).trans (show (zC)[13]? = some (.int .i64 0) from rfl)
  have b14 := (hy0.cell 14).trans (show (zC)[14]? = some (.slice none 0 0) from rfl)
  have b15 := (hy0.cell 15).trans (show (zC)[15]? = some (.int .i64 0) from rfl)
  have b16 := (hy0.cell 16).trans (show (zC)[16]? = some (.slice none 0 0) from rfl)
  have b17 := (hy0.cell 17).trans (show (zC)[17]? = some (.slice none 0 0) from rfl)
  have b18 := (hy0.cell 18).trans (show (zC)[18]? = some (.slice none 0 0) from rfl)
  have b19 := (hy0.cell 19).trans (show (zC)[19]? = some (.slice none 0 0) from rfl)
  have b20 := (hy0.cell 20).trans (show (zC)[20]? = some (.int .i64 0) from rfl)
  have b21 := (hy0.cell 21).trans (show (zC)[21]? = some (.int .u32 0) from rfl)
  have b22 := (hy0.cell 22).trans (show (zC)[22]? = some (.slice none 0 0) from rfl)
  have b23 := (hy0.cell 23).trans (show (zC)[23]? = some (.int .i64 0) from rfl)
  have b24 := (hy0.cell 24).trans (show (zC)[24]? = some (.string ⟨#[]⟩) from rfl)
  have b25 := (hy0.cell 25).trans (show (zC)[25]? = some (.int .i64 0) from rfl)
  have b26 := (hy0.cell 26).trans (show (zC)[26]? = some (.int .i64 0) from rfl)
  have b27 := (hy0.cell 27).trans (show (zC)[27]? = some (.string ⟨#[]⟩) from rfl)
  have b28 := (hy0.cell 28).trans (show (zC)[28]? = some (.slice none 0 0) from rfl)
  have b29 := (hy0.cell 29).trans (show (zC)[29]? = some (.slice none 0 0) from rfl)
  have ek1 : (kC k)[1]? = some (.string ⟨#[]⟩) := rfl
  have ez1 : zC[1]? = some (.string ⟨#[]⟩) := rfl
  have ek2 : (kC k)[2]? = some (.int .i64 0) := rfl
  have ez2 : zC[2]? = some (.int .i64 0) := rfl
  have ek3 : (kC k)[3]? = some (.int .i64 0) := rfl
  have ez3 : zC[3]? = some (.int .i64 0) := rfl
  have ek4 : (kC k)[4]? = some (.string ⟨#[]⟩) := rfl
  have ez4 : zC[4]? = some (.string ⟨#[]⟩) := rfl
  have ek5 : (kC k)[5]? = some (.slice none 0 0) := rfl
  have ez5 : zC[5]? = some (.slice none 0 0) := rfl
  have ek6 : (kC k)[6]? = some (.slice none 0 0) := rfl
  have ez6 : zC[6]? = some (.slice none 0 0) := rfl
  have ek9 : (kC k)[9]? = some (.int .i64 0) := rfl
  have ez9 : zC[9]? = some (.int .i64 0) := rfl
  have ek10 : (kC k)[10]? = some (.int .i64 0) := rfl
  have ez10 : zC[10]? = some (.int .i64 0) := rfl
  have ek11 : (kC k)[11]? = some (.int .i64 0) := rfl
  have ez11 : zC[11]? = some (.int .i64 0) := rfl
  have ek12 : (kC k)[12]? = some (.int .u32 0) := rfl
  have ez12 : zC[12]? = some (.int .u32 0) := rfl
  have ek13 : (kC k)[13]? = some (.int .i64 0) := rfl
  have ez13 : zC[13]? = some (.int .i64 0) := rfl
  have ek14 : (kC k)[14]? = some (.slice none 0 0) := rfl
  have ez14 : zC[14]? = some (.slice none 0 0) := rfl
  have ek15 : (kC k)[15]? = some (.int .i64 0) := rfl
  have ez15 : zC[15]? = some (.int .i64 0) := rfl
  have ek16 : (kC k)[16]? = some (.slice none 0 0) := rfl
  have ez16 : zC[16]? = some (.slice none 0 0) := rfl
  have ek17 : (kC k)[17]? = some (.slice none 0 0) := rfl
  have ez17 : zC[17]? = some (.slice none 0 0) := rfl
  have ek18 : (kC k)[18]? = some (.slice none 0 0) := rfl
  have ez18 : zC[18]? = some (.slice none 0 0) := rfl
  have ek19 : (kC k)[19]? = some (.slice none 0 0) := rfl
  have ez19 : zC[19]? = some (.slice none 0 0) := rfl
  have ek20 : (kC k)[20]? = some (.int .i64 0) := rfl
  have ez20 : zC[20]? = some (.int .i64 0) := rfl
  have ek21 : (kC k)[21]? = some (.int .u32 0) := rfl
  have ez21 : zC[21]? = some (.int .u32 0) := rfl
  have ek22 : (kC k)[22]? = some (.slice none 0 0) := rfl
  have ez22 : zC[22]? = some (.slice none 0 0) := rfl
  have HEk1 := hid ek1
  have HEz1 := hid ez1
  have HEk2 := hid ek2
  have HEz2 := hid ez2
  have HEk3 := hid ek3
  have HEz3 := hid ez3
  have HEk4 := hid ek4
  have HEz4 := hid ez4
  have HEk5 := hid ek5
  have HEz5 := hid ez5
  have HEk6 := hid ek6
  have HEz6 := hid ez6
  have HEk9 := hid ek9
  have HEz9 := hid ez9
  have HEk10 := hid ek10
  have HEz10 := hid ez10
  have HEk11 := hid ek11
  have HEz11 := hid ez11
  have HEk12 := hid ek12
  have HEz12 := hid ez12
  have HEk13 := hid ek13
  have HEz13 := hid ez13
  have HEk14 := hid ek14
  have HEz14 := hid ez14
  have HEk15 := hid ek15
  have HEz15 := hid ez15
  have HEk16 := hid ek16
  have HEz16 := hid ez16
  have HEk17 := hid ek17
  have HEz17 := hid ez17
  have HEk18 := hid ek18
  have HEz18 := hid ez18
  have HEk19 := hid ek19
  have HEz19 := hid ez19
  have HEk20 := hid ek20
  have HEz20 := hid ez20
  have HEk21 := hid ek21
  have HEz21 := hid ez21
  have HEk22 := hid ek22
  have HEz22 := hid ez22
  clear ek1 ez1 ek2 ez2 ek3 ez3 ek4 ez4 ek5 ez5 ek6 ez6 ek9 ez9 ek10 ez10 ek11 ez11 ek12 ez12 ek13 ez13 ek14 ez14 ek15 ez15 ek16 ez16 ek17 ez17 ek18 ez18 ek19 ez19 ek20 ez20 ek21 ez21 ek22 ez22
  have HX := hid hx0
  have HY := hid hy0
  have HB0 := hid hb0
  clear hx0 hy0 hb0
  generalize kC k = cK at *
  generalize hzz : zC = cZ at *
  clear hzz
  go_enter Tryz.func13, Tryz.ntmps13
  go_wp2_with fail
  refine (H1 _).mono ?_
  rintro x w1 ⟨rfl, hw1⟩
  subst w1
  go_wp2_with fail
  refine (HR.out _).mono ?_
  rintro x w2 ⟨rfl, hb2⟩
  have hxx := HX.out.below hb2
  have hyy := HY.out.below hb2
  have px1 := (hxx.cell 1).trans HEk1.out
  have py1 := (hyy.cell 1).trans HEz1.out
  have px2 := (hxx.cell 2).trans HEk2.out
  have py2 := (hyy.cell 2).trans HEz2.out
  have px3 := (hxx.cell 3).trans HEk3.out
  have py3 := (hyy.cell 3).trans HEz3.out
  have px4 := (hxx.cell 4).trans HEk4.out
  have py4 := (hyy.cell 4).trans HEz4.out
  have px5 := (hxx.cell 5).trans HEk5.out
  have py5 := (hyy.cell 5).trans HEz5.out
  have px6 := (hxx.cell 6).trans HEk6.out
  have py6 := (hyy.cell 6).trans HEz6.out
  have HX2 := hid hxx
  have HY2 := hid hyy
  have HB2 := hid (HB0.out.trans (hb2.mono HB0.out.size))
  clear hxx hyy hb2 a1 b1 a2 b2 a3 b3 a4 b4 a5 b5 a6 b6 a7 b7 a8 b8 a9 b9 a10 b10 a11 b11 a12 b12 a13 b13 a14 b14 a15 b15 a16 b16 a17 b17 a18 b18 a19 b19 a20 b20 a21 b21 a22 b22 a23 b23 a24 b24 a25 b25 a26 b26 a27 b27 a28 b28 a29 b29
  go_wp2_with fail
  refine (HR.out _).mono ?_
  rintro x w3 ⟨rfl, hb3⟩
  have hxx := HX2.out.below hb3
  have hyy := HY2.out.below hb3
  have qx9 := (hxx.cell 9).trans HEk9.out
  have qy9 := (hyy.cell 9).trans HEz9.out
  have qx10 := (hxx.cell 10).trans HEk10.out
  have qy10 := (hyy.cell 10).trans HEz10.out
  have qx11 := (hxx.cell 11).trans HEk11.out
  have qy11 := (hyy.cell 11).trans HEz11.out
  have qx12 := (hxx.cell 12).trans HEk12.out
  have qy12 := (hyy.cell 12).trans HEz12.out
  have qx13 := (hxx.cell 13).trans HEk13.out
  have qy13 := (hyy.cell 13).trans HEz13.out
  have qx14 := (hxx.cell 14).trans HEk14.out
  have qy14 := (hyy.cell 14).trans HEz14.out
  have qx15 := (hxx.cell 15).trans HEk15.out
  have qy15 := (hyy.cell 15).trans HEz15.out
  have qx16 := (hxx.cell 16).trans HEk16.out
  have qy16 := (hyy.cell 16).trans HEz16.out
  have qx17 := (hxx.cell 17).trans HEk17.out
  have qy17 := (hyy.cell 17).trans HEz17.out
  have qx18 := (hxx.cell 18).trans HEk18.out
  have qy18 := (hyy.cell 18).trans HEz18.out
  have qx19 := (hxx.cell 19).trans HEk19.out
  have qy19 := (hyy.cell 19).trans HEz19.out
  have HX3 := hid hxx
  have HY3 := hid hyy
  have HB3 := hid (HB2.out.trans (hb3.mono HB2.out.size))
  clear hxx hyy hb3 px1 py1 px2 py2 px3 py3 px4 py4 px5 py5 px6 py6
  go_wp2_with fail
  refine (HG _).mono ?_
  rintro x w4 ⟨rfl, hb4⟩
  have hxx := HX3.out.below hb4
  have hyy := HY3.out.below hb4
  have rx20 := (hxx.cell 20).trans HEk20.out
  have ry20 := (hyy.cell 20).trans HEz20.out
  have rx21 := (hxx.cell 21).trans HEk21.out
  have ry21 := (hyy.cell 21).trans HEz21.out
  have rx22 := (hxx.cell 22).trans HEk22.out
  have ry22 := (hyy.cell 22).trans HEz22.out
  have HB4 := hid (HB3.out.trans (hb4.mono HB3.out.size))
  clear hxx hyy hb4 qx9 qy9 qx10 qy10 qx11 qy11 qx12 qy12 qx13 qy13 qx14 qy14 qx15 qy15 qx16 qy16 qx17 qy17 qx18 qy18 qx19 qy19
  go_wp2_with fail
  refine (HM _).mono ?_
  rintro x w5 ⟨rfl, hb5⟩
  have HB5 := hid (HB4.out.trans (hb5.mono HB4.out.size))
  clear hb5
  go_wp2
  go_ret
  exact ⟨rfl, HB5.out⟩
end Go.Proofs.YtfonicphdejdlaaGreat
