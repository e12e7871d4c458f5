import Derived.Test.YtkfcilandmhomaaDoorPack39
import Derived.Test.YtkfcilandmhomaaDoorRgQ
namespace Go.Proofs.YtkfcilandmhomaaDoor
open Go.RowKit
set_option maxRecDepth 8000
theorem byts56 (w : World) : Byts (w.alloc (.cells #[.int .u8 5, .int .u8 6] 5)) (fun k => w.heap.size ≤ k) (some ⟨w.heap.size, 0, none⟩) ([5, 6] : List Int).length 2 (fun j => ([5, 6] : List Int).getD j 0) := by
  have hX : Box (w.alloc (.cells #[.int .u8 5, .int .u8 6] 5)) w.heap.size #[.int .u8 5, .int .u8 6] 5 := Box.new _ _ _
  refine ⟨fun _ => ⟨w.heap.size, 0, rfl, Nat.le_refl _, hX.lt, fun j hj => ?_⟩, by decide, by decide, by decide, fun j hj => ?_, fun h => by cases h⟩
  · rw [Nat.zero_add, hX.cell]
    match j, hj with
    | 0, _ => rfl
    | 1, _ => rfl
  · match j, hj with
    | 0, _ => decide
    | 1, _ => decide
/-- List on a disk that is up -/
theorem dm_list {Z : Nat → Prop} {w : World} {db : Nat} {D : DK} {A : AK} (hM : DM Z w db D) (hr : Rel D A) (hdn : A.down = false) :
    Calls Tryd.prog 15 #[.pointer (some ⟨db, 0, none⟩)] w fun e w' => ∃ (p : Option Addr) (c : Nat), e = .returned (.tuple #[.slice p A.ks.length c, .int .i64 0]) ∧ Below w.heap.size w w' := by
  obtain ⟨C, hI, h2, h3⟩ := hM
  refine (dlist_any D w C db hI).mono fun e w' hq => ?_
  obtain ⟨u, YS, he, hu, hp, hs, hn, hk⟩ := hq.2.2 (hr.dn.trans hdn)
  have hl : u.n = A.ks.length := by
    have h1 := hr.pm.length_eq
    rw [List.length_map] at h1
    rw [hn, hp.length_eq, h1]
  rw [hl] at he
  exact ⟨u.p, u.c, he, hq.1⟩
/-- what a call costs -/
theorem cost_any (w : World) (kd wh : Int) (s : ByteArray) (n af : Int) (bp : Option Addr) (zs : List Int) (bc : Nat) (K : LT Int) (hzl : zs.length ≤ 100000000) :
    Calls Tryd.prog 21 #[.agg #[.int .i64 kd, .int .i64 wh, .string s, .int .i64 n, .int .i64 af, .slice bp zs.length bc, .slice K.p K.n K.c]] w fun e w' => e = .returned (.int .i64 (if kd = 1 then (zs.length : Int) + 1 else 1)) ∧ Below w.heap.size w w' := by
  obtain ⟨V, hV⟩ : ∃ V, V = w.alloc (opBox kd wh s n af bp zs bc K) := ⟨_, rfl⟩
  have hBV : Below w.heap.size w V := by rw [hV]; exact (Below.refl _ _).alloc (Nat.le_refl _) _
  have hX : Box V w.heap.size #[.int .i64 kd, .int .i64 wh, .string s, .int .i64 n, .int .i64 af, .slice bp zs.length bc, .slice K.p K.n K.c] 33 := by rw [hV]; exact Box.new _ _ _
  have c0 := hX.cell 0
  have c5 := hX.cell 5
  have cl := hX.lt
  simp at c0 c5
  have HV := hid hV
  have HB := hid hBV
  clear hV hBV hX
  by_cases hk : kd = 1
  · subst hk
    rw [if_pos rfl]
    have hw1 : wrap64 ((zs.length : Int) + 1) = (zs.length : Int) + 1 := by rw [wrap64]; omega
    go_enter Tryd.func21, Tryd.ntmps21
    go_upto_region 1 with fail
    change Code.wp _ _ _ _ (w.alloc (opBox 1 wh s n af bp zs bc K))
    rw [← HV.out]
    go_wp2
    exact bodyPost_ret (v := .int .i64 ((zs.length : Int) + 1)) (by simp [results, Tryd.results21, go_sem]) rfl ⟨rfl, HB.out⟩
  · rw [if_neg hk]
    have hk' : (kd == 1) = false := by simpa using hk
    go_enter Tryd.func21, Tryd.ntmps21
    go_upto_region 1 with fail
    change Code.wp _ _ _ _ (w.alloc (opBox kd wh s n af bp zs bc K))
    rw [← HV.out]
    go_wp2
    exact bodyPost_ret (v := .int .i64 1) (by simp [results, Tryd.results21, go_sem]) rfl ⟨rfl, HB.out⟩
set_option maxHeartbeats 8000000 in
/-- works: on a disk without files -/
theorem works_any (Z : Nat → Prop) (w : World) (db : Nat) (D : DK) (hM : DM Z w db D) (hr : Rel D A0) :
    Calls Tryd.prog 10 #[.pointer (some ⟨db, 0, none⟩)] w fun e w' => e = .returned (.bool true) ∧ DQ Z w w' db A0 := by
  have hs1 : sA.size ≤ 140737488355328 := by decide
  obtain ⟨V, hV⟩ : ∃ V, V = w.alloc (.cells #[.int .u8 5, .int .u8 6] 5) := ⟨_, rfl⟩
  have hBV : Below w.heap.size w V := by rw [hV]; exact (Below.refl _ _).alloc (Nat.le_refl _) _
  have hby : Byts V (fun k => w.heap.size ≤ k) (some ⟨w.heap.size, 0, none⟩) ([5, 6] : List Int).length 2 (fun j => ([5, 6] : List Int).getD j 0) := by rw [hV]; exact byts56 w
  have HC := hid (dm_append (hM.more hBV) hr sA (some ⟨w.heap.size, 0, none⟩) 2 [5, 6] hs1 (hby.mono fun b hb hl => Or.inr ⟨hb, hl⟩) (by decide))
  have HV := hid hV
  have HBV := hid hBV
  clear hM hr hBV hby hV
  go_enter Tryd.func10, Tryd.ntmps10
  go_wp2_with fail
  rw [← HV.out]
  refine HC.out.mono ?_
  rintro e w1 ⟨he, ⟨D1, hM1, hr1⟩, hf1⟩
  rw [show appA A0 sA ([5, 6] : List Int).length = 0 from w_app.1] at he
  subst he
  rw [w_app.2] at hr1
  have HF1 : Hid (Fr Z w w1) := (Fr.of HBV.out).trans (hf1.less fun k hk => Or.inl hk)
  have HC1 := hid (dm_sync (hM1.less (Z' := Z) fun k hk => Or.inl hk) hr1 sA hs1)
  have HN1 := hid (num_any 0 w1)
  clear hM1 hr1 hf1 HC HV HBV
  go_wp2_with fail
  refine HN1.out.mono ?_
  rintro e w1' ⟨rfl, rfl⟩
  clear HN1
  go_wp2_with fail
  refine HC1.out.mono ?_
  rintro e w2 ⟨he, ⟨D2, hM2, hr2⟩, hf2⟩
  rw [w_sync.1] at he
  subst he
  rw [w_sync.2] at hr2
  have HF2 : Hid (Fr Z w w2) := HF1.out.trans hf2
  have HM2 := hid hM2
  have HR2 := hid hr2
  have HN2 := hid (num_any 0 w2)
  clear hM2 hr2 hf2 HC1 HF1
  go_wp2_with fail
  refine HN2.out.mono ?_
  rintro e w2' ⟨rfl, rfl⟩
  clear HN2
  have HC2 := hid (dm_read HM2.out HR2.out sA hs1)
  go_wp2_with fail
  refine HC2.out.mono ?_
  rintro e w3 ⟨p, c, he, hrow, hb3⟩
  rw [w_read.1] at he
  rw [w_read.2] at he hrow
  subst he
  have hy3 := own_byts (S := fun _ => True) hrow (fun _ _ => trivial) (by decide) (by decide)
  have HM3 := hid (HM2.out.bel hb3)
  have HF3 : Hid (Fr Z w w3) := HF2.out.trans (Fr.of hb3)
  obtain ⟨V3, hV3⟩ : ∃ V, V = w3.alloc (.cells #[.int .u8 5, .int .u8 6] 5) := ⟨_, rfl⟩
  have hBV3 : Below w3.heap.size w3 V3 := by rw [hV3]; exact (Below.refl _ _).alloc (Nat.le_refl _) _
  have hby3 : Byts V3 (fun k => w3.heap.size ≤ k) (some ⟨w3.heap.size, 0, none⟩) ([5, 6] : List Int).length 2 (fun j => ([5, 6] : List Int).getD j 0) := by rw [hV3]; exact byts56 w3
  have HS3 := hid (same_yes p (some ⟨w3.heap.size, 0, none⟩) ([5, 6] : List Int).length c 2 _ _ V3 _ _ (hy3.kept hBV3.size fun b _ hl => hBV3.block b hl) hby3 fun j _ => rfl)
  have HM4 := hid (HM3.out.bel hBV3)
  have HF4 : Hid (Fr Z w V3) := HF3.out.trans (Fr.of hBV3)
  have HV3 := hid hV3
  have HN3 := hid (num_any 0 w3)
  clear hrow hb3 hy3 hby3 hBV3 hV3 HC2 HM2 HF2 HM3 HF3
  go_wp2_with fail
  refine HN3.out.mono ?_
  rintro e w3' ⟨rfl, rfl⟩
  clear HN3
  go_wp2_with fail
  rw [← HV3.out]
  refine HS3.out.mono ?_
  rintro e w5 ⟨rfl, hb5⟩
  have HC5 := hid (dm_remove (HM4.out.bel hb5) HR2.out sA hs1)
  have HF5 : Hid (Fr Z w w5) := HF4.out.trans (Fr.of hb5)
  clear hb5 HS3 HM4 HF4 HV3 HR2
  go_wp2_with fail
  refine HC5.out.mono ?_
  rintro e w6 ⟨he, hq6, hf6⟩
  rw [w_rm.1] at he
  subst he
  rw [w_rm.2] at hq6
  have HQ6 : Hid (DQ Z w w6 db A0) := ⟨hq6, HF5.out.trans hf6⟩
  have HN6 := hid (num_any 0 w6)
  clear hq6 hf6 HC5 HF5
  go_wp2_with fail
  refine HN6.out.mono ?_
  rintro e w6' ⟨rfl, rfl⟩
  clear HN6
  go_wp2
  exact bodyPost_ret (v := .bool true) (by simp [results, Tryd.results10, go_sem]) rfl ⟨rfl, HQ6.out⟩
end Go.Proofs.YtkfcilandmhomaaDoor
