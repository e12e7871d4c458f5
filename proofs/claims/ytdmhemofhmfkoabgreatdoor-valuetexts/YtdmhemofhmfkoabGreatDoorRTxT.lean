import Derived.Test.YtdmhemofhmfkoabGreatDoorPack24
import Derived.Test.YtdmhemofhmfkoabGreatDoorPack22
import Derived.Deep.QuietTactic
import Derived.BigQuiet
namespace Go.Proofs.YtdmhemofhmfkoabGreatDoor
open Go.RowKit
set_option maxRecDepth 8000
theorem ext_take (s : ByteArray) (a n : Nat) : s.extract a (a + n) = strOf (((txtB s).drop a).take n) := bytes_ext (by
  rw [Go.Lib.extract_data, strOf_datC, Nat.add_sub_cancel_left]
  unfold txtB
  rw [← List.map_drop, ← List.map_take, List.map_map]
  have h : (fun z : Int => UInt8.ofNat z.toNat) ∘ (fun b : UInt8 => (b.toNat : Int)) = id := by
    funext b
    simp
  rw [h, List.map_id])
theorem ext_one {s : ByteArray} {a : Nat} (h : a < s.size) : s.extract a (a + 1) = strOf [(pk s a : Int)] := by
  rw [ext_take, take1 h, pk_getb]
theorem piece1_len {s : ByteArray} {a : Nat} (ha : a < s.size) : (piece1 s a).length ≤ 4 * step1 s a := by
  have h := (rq_len s a ha).1
  unfold piece1
  by_cases hr : 160 ≤ (runR s a).1
  · have : step1 s a = (runR s a).2 := by unfold step1; rw [if_pos hr]
    repeat' split
    all_goals first | (simp; omega) | (rw [List.length_take]; omega)
  · repeat' split
    all_goals first | (simp; omega) | (exfalso; omega)
theorem below_dQ {B : Nat} {a w : World} (h : Below B a w) (q : Nat) : Below B a (w.drewN q) := ⟨h.os, h.tape, h.output, h.size, h.block⟩
theorem step1_asc {s : ByteArray} {a : Nat} (h : pk s a < 192) : step1 s a = 1 := by
  unfold step1
  rw [run_no h]
  rfl
set_option maxHeartbeats 8000000 in
theorem refQuote_any (s : ByteArray) (hs : s.size ≤ 24) (w : World) :
    Calls Tryz.prog 87 #[.string s] w fun x w' => x = .returned (.string (strOf (quoB s))) ∧ Below w.heap.size w w' := by
  obtain ⟨F, hF⟩ : ∃ F, quoF s s.size 0 = F := ⟨_, rfl⟩
  have HF : Hid (rqF s s.size 0 = F) := by unfold Hid; rw [← hF]; exact rq_quo s s.size s.size s.size 0 (by omega) (by omega) (by omega)
  have HB0 : Hid (strOf (quoB s) = strOf (34 :: (F ++ [34]))) := by unfold Hid quoB; rw [hF]; rfl
  rw [HB0.out]
  clear hF HB0
  go_enter Tryz.func87, Tryz.ntmps87
  go_wp2_with fail
  go_loopw [3, 4] (fun x y wr => ∃ (P : ByteArray) (Z : List Int) (a k : Nat), x = .string P ∧ P = strOf (34 :: Z) ∧ y = .int .i64 (a : Int) ∧ a ≤ s.size ∧ s.size ≤ a + k ∧ Z.length ≤ 4 * a ∧ Z ++ rqF s k a = F ∧ Below w.heap.size w wr) (fun _ y _ => s.size - (intOf y).toNat)
  case atStart => exact ⟨_, [], 0, s.size, rfl, rfl, rfl, Nat.zero_le _, by omega, by simp, by simpa using HF.out, Below.refl _ _⟩
  case round =>
    obtain ⟨P, Z, a, k, rfl, hP, rfl, ha, hk, hZ, hq, hb⟩ := hrel
    clear HF
    have HB := hid hb
    have hPs : P.size ≤ 97 := by rw [hP, strOf_size]; simp; omega
    have HP := hid hP
    clear hb hP
    by_cases hlt : a < s.size
    · have hlt' : (a : Int) < (s.size : Int) := by omega
      obtain ⟨k, rfl⟩ : ∃ k', k = k' + 1 := ⟨k - 1, by omega⟩
      rw [rqF, if_pos hlt, ← List.append_assoc] at hq
      have HQ := hid hq
      have hg := pk_get hlt
      have hk8 := pk_lt s a
      have hsp := rq_len s a hlt
      have hpl := piece1_len hlt
      have HC1 := hid (runeAt_any s a wr hlt (by omega))
      have hst : pk s a < 192 → step1 s a = 1 := step1_asc
      have HPc : Hid (piece1 s a = piece1 s a) := rfl
      have HP1 := hid (ext_one hlt)
      have HApp : Hid (∀ X, P ++ strOf X = strOf (34 :: (Z ++ X))) := fun X => by rw [HP.out, str_appR]; rfl
      have ha1 : IntKind.i64.wrap ((a : Int) + 1) = ((a + 1 : Nat) : Int) := by rw [IntKind.wrap_i64]; omega
      have ha2 : ((a + 1 : Nat) : Int) ≤ (s.size : Int) := by omega
      have ha3 : (a : Int) ≤ ((a + 1 : Nat) : Int) := by omega
      have hx1 : (s.extract a (a + 1)).size = 1 := by rw [ByteArray.size_extract]; omega
      clear hq HPc
      by_cases c34 : pk s a = 34
      · have hpc : piece1 s a = [92, 34] := by unfold piece1; rw [if_pos (.inl c34), c34]; rfl
        have hs1 : step1 s a = 1 := hst (by omega)
        rw [c34] at hg HP1
        obtain ⟨r1, r2, hrr⟩ : ∃ r1 r2, runR s a = (r1, r2) := ⟨_, _, rfl⟩
        rw [hrr] at HC1
        have HE : Hid ((P ++ ⟨#[92]⟩) ++ s.extract a (a + 1) = strOf (34 :: (Z ++ piece1 s a))) := by unfold Hid; rw [hpc, HP1.out, show (⟨#[92]⟩ : ByteArray) = strOf [92] from rfl, HApp.out, str_appR]; simp
        go_wp2_with fail
        refine HC1.out.mono ?_
        intro ex w1 hP1
        obtain ⟨rfl, hb1⟩ := hP1
        have HB1 := hid (HB.out.trans (hb1.mono HB.out.size))
        clear hb1 HC1
        go_wp2
        first
          | exact ⟨⟨_, Z ++ piece1 s a, a + step1 s a, k, rfl, HE.out, by rw [hs1]; go_num, hsp.2, by omega, by rw [List.length_append]; omega, HQ.out, HB1.out⟩, by simp [intOf]; omega⟩
          | (go_roundw
             case rel => exact ⟨_, Z ++ piece1 s a, a + step1 s a, k, rfl, HE.out, by rw [hs1]; go_num, hsp.2, by omega, by rw [List.length_append]; omega, HQ.out, HB1.out⟩
             case measure => simp [intOf]; omega)
      by_cases c92 : pk s a = 92
      · have hpc : piece1 s a = [92, 92] := by unfold piece1; rw [if_pos (.inr c92), c92]; rfl
        have hs1 : step1 s a = 1 := hst (by omega)
        rw [c92] at hg HP1
        obtain ⟨r1, r2, hrr⟩ : ∃ r1 r2, runR s a = (r1, r2) := ⟨_, _, rfl⟩
        rw [hrr] at HC1
        have HE : Hid ((P ++ ⟨#[92]⟩) ++ s.extract a (a + 1) = strOf (34 :: (Z ++ piece1 s a))) := by unfold Hid; rw [hpc, HP1.out, show (⟨#[92]⟩ : ByteArray) = strOf [92] from rfl, HApp.out, str_appR]; simp
        go_wp2_with fail
        refine HC1.out.mono ?_
        intro ex w1 hP1
        obtain ⟨rfl, hb1⟩ := hP1
        have HB1 := hid (HB.out.trans (hb1.mono HB.out.size))
        clear hb1 HC1
        go_wp2
        first
          | exact ⟨⟨_, Z ++ piece1 s a, a + step1 s a, k, rfl, HE.out, by rw [hs1]; go_num, hsp.2, by omega, by rw [List.length_append]; omega, HQ.out, HB1.out⟩, by simp [intOf]; omega⟩
          | (go_roundw
             case rel => exact ⟨_, Z ++ piece1 s a, a + step1 s a, k, rfl, HE.out, by rw [hs1]; go_num, hsp.2, by omega, by rw [List.length_append]; omega, HQ.out, HB1.out⟩
             case measure => simp [intOf]; omega)
      by_cases c10 : pk s a = 10
      · have hpc : piece1 s a = [92, 110] := by unfold piece1; rw [if_neg (by omega), if_pos c10]
        have hs1 : step1 s a = 1 := hst (by omega)
        rw [c10] at hg
        obtain ⟨r1, r2, hrr⟩ : ∃ r1 r2, runR s a = (r1, r2) := ⟨_, _, rfl⟩
        rw [hrr] at HC1
        have HE : Hid (P ++ ⟨#[92, 110]⟩ = strOf (34 :: (Z ++ piece1 s a))) := by unfold Hid; rw [hpc, show (⟨#[92, 110]⟩ : ByteArray) = strOf [92, 110] from rfl, HApp.out]
        go_wp2_with fail
        refine HC1.out.mono ?_
        intro ex w1 hP1
        obtain ⟨rfl, hb1⟩ := hP1
        have HB1 := hid (HB.out.trans (hb1.mono HB.out.size))
        clear hb1 HC1
        go_wp2
        first
          | exact ⟨⟨_, Z ++ piece1 s a, a + step1 s a, k, rfl, HE.out, by rw [hs1]; go_num, hsp.2, by omega, by rw [List.length_append]; omega, HQ.out, HB1.out⟩, by simp [intOf]; omega⟩
          | (go_roundw
             case rel => exact ⟨_, Z ++ piece1 s a, a + step1 s a, k, rfl, HE.out, by rw [hs1]; go_num, hsp.2, by omega, by rw [List.length_append]; omega, HQ.out, HB1.out⟩
             case measure => simp [intOf]; omega)
      by_cases c9 : pk s a = 9
      · have hpc : piece1 s a = [92, 116] := by unfold piece1; rw [if_neg (by omega), if_neg (by omega), if_pos c9]
        have hs1 : step1 s a = 1 := hst (by omega)
        rw [c9] at hg
        obtain ⟨r1, r2, hrr⟩ : ∃ r1 r2, runR s a = (r1, r2) := ⟨_, _, rfl⟩
        rw [hrr] at HC1
        have HE : Hid (P ++ ⟨#[92, 116]⟩ = strOf (34 :: (Z ++ piece1 s a))) := by unfold Hid; rw [hpc, show (⟨#[92, 116]⟩ : ByteArray) = strOf [92, 116] from rfl, HApp.out]
        go_wp2_with fail
        refine HC1.out.mono ?_
        intro ex w1 hP1
        obtain ⟨rfl, hb1⟩ := hP1
        have HB1 := hid (HB.out.trans (hb1.mono HB.out.size))
        clear hb1 HC1
        go_wp2
        first
          | exact ⟨⟨_, Z ++ piece1 s a, a + step1 s a, k, rfl, HE.out, by rw [hs1]; go_num, hsp.2, by omega, by rw [List.length_append]; omega, HQ.out, HB1.out⟩, by simp [intOf]; omega⟩
          | (go_roundw
             case rel => exact ⟨_, Z ++ piece1 s a, a + step1 s a, k, rfl, HE.out, by rw [hs1]; go_num, hsp.2, by omega, by rw [List.length_append]; omega, HQ.out, HB1.out⟩
             case measure => simp [intOf]; omega)
      by_cases casc : 32 ≤ pk s a ∧ pk s a < 127
      · have hpc : piece1 s a = [(pk s a : Int)] := by unfold piece1; rw [if_neg (by omega), if_neg (by omega), if_neg (by omega), if_pos casc]
        have hs1 : step1 s a = 1 := hst (by omega)
        obtain ⟨z, hz⟩ : ∃ z, pk s a = z := ⟨_, rfl⟩
        have Hz := hid hz
        rw [hz] at hg hk8 HP1
        have d1 : ¬ (z : Int) = 34 := by omega
        have d2 : ¬ (z : Int) = 92 := by omega
        have d3 : ¬ (z : Int) = 10 := by omega
        have d4 : ¬ (z : Int) = 9 := by omega
        have e1 : ((z : Int) == 34) = false := by simp; omega
        have e2 : ((z : Int) == 92) = false := by simp; omega
        have e3 : ((z : Int) == 10) = false := by simp; omega
        have e4 : ((z : Int) == 9) = false := by simp; omega
        have d5 : (32 : Int) ≤ (z : Int) := by omega
        have d6 : (z : Int) < 127 := by omega
        rw [hz] at hpc
        clear hz
        obtain ⟨r1, r2, hrr⟩ : ∃ r1 r2, runR s a = (r1, r2) := ⟨_, _, rfl⟩
        rw [hrr] at HC1
        have HE : Hid (P ++ s.extract a (a + 1) = strOf (34 :: (Z ++ piece1 s a))) := by unfold Hid; rw [hpc, HP1.out, HApp.out]
        go_wp2_with fail
        refine HC1.out.mono ?_
        intro ex w1 hP1
        obtain ⟨rfl, hb1⟩ := hP1
        have HB1 := hid (HB.out.trans (hb1.mono HB.out.size))
        clear hb1 HC1
        go_wp2
        first
          | exact ⟨⟨_, Z ++ piece1 s a, a + step1 s a, k, rfl, HE.out, by rw [hs1]; go_num, hsp.2, by omega, by rw [List.length_append]; omega, HQ.out, HB1.out⟩, by simp [intOf]; omega⟩
          | (go_roundw
             case rel => exact ⟨_, Z ++ piece1 s a, a + step1 s a, k, rfl, HE.out, by rw [hs1]; go_num, hsp.2, by omega, by rw [List.length_append]; omega, HQ.out, HB1.out⟩
             case measure => simp [intOf]; omega)
      by_cases cr : 160 ≤ (runR s a).1
      · have hpc : piece1 s a = ((txtB s).drop a).take (runR s a).2 := by unfold piece1; rw [if_neg (by omega), if_neg (by omega), if_neg (by omega), if_neg casc, if_pos cr]
        have hs1 : step1 s a = (runR s a).2 := by unfold step1; rw [if_pos cr]
        have h192 : 192 ≤ pk s a := Nat.le_of_not_lt fun h => by rw [run_no h] at cr; simp at cr
        obtain ⟨z, hz⟩ : ∃ z, pk s a = z := ⟨_, rfl⟩
        have Hz := hid hz
        rw [hz] at hg hk8 HP1
        have d1 : ¬ (z : Int) = 34 := by omega
        have d2 : ¬ (z : Int) = 92 := by omega
        have d3 : ¬ (z : Int) = 10 := by omega
        have d4 : ¬ (z : Int) = 9 := by omega
        have e1 : ((z : Int) == 34) = false := by simp; omega
        have e2 : ((z : Int) == 92) = false := by simp; omega
        have e3 : ((z : Int) == 10) = false := by simp; omega
        have e4 : ((z : Int) == 9) = false := by simp; omega
        have d5 : (32 : Int) ≤ (z : Int) := by omega
        have d6 : ¬ (z : Int) < 127 := by omega
        clear hz
        obtain ⟨r1, r2, hrr⟩ : ∃ r1 r2, runR s a = (r1, r2) := ⟨_, _, rfl⟩
        rw [hrr] at HC1 cr hpc hs1
        simp only at cr hpc hs1
        rw [hs1] at hsp
        have d7 : (160 : Int) ≤ (r1 : Int) := by omega
        have hr2 : IntKind.i64.wrap ((a : Int) + (r2 : Int)) = ((a + r2 : Nat) : Int) := by rw [IntKind.wrap_i64]; omega
        have hr3 : IntKind.i64.wrap (((a + r2 : Nat) : Int) - 1) = ((a + r2 : Nat) : Int) - 1 := by rw [IntKind.wrap_i64]; omega
        have hr4 : ((a + r2 : Nat) : Int) ≤ (s.size : Int) := by omega
        have hr5 : (a : Int) ≤ ((a + r2 : Nat) : Int) := by omega
        have hx2 : (s.extract a (a + r2)).size = r2 := by rw [ByteArray.size_extract]; omega
        have HXt := hid (ext_take s a r2)
        have hsp2 : a + step1 s a ≤ s.size := by omega
        have HE : Hid (P ++ s.extract a (a + r2) = strOf (34 :: (Z ++ piece1 s a))) := by unfold Hid; rw [hpc, HXt.out, HApp.out]
        go_wp2_with fail
        refine HC1.out.mono ?_
        intro ex w1 hP1
        obtain ⟨rfl, hb1⟩ := hP1
        have HB1 := hid (HB.out.trans (hb1.mono HB.out.size))
        clear hb1 HC1
        go_wp2
        first
          | exact ⟨⟨_, Z ++ piece1 s a, a + step1 s a, k, rfl, HE.out, by rw [hs1]; go_num, hsp2, by omega, by rw [List.length_append]; omega, HQ.out, HB1.out⟩, by simp [intOf]; omega⟩
          | (go_roundw
             case rel => exact ⟨_, Z ++ piece1 s a, a + step1 s a, k, rfl, HE.out, by rw [hs1]; go_num, hsp2, by omega, by rw [List.length_append]; omega, HQ.out, HB1.out⟩
             case measure => simp [intOf]; omega)
      · have hpc : piece1 s a = [92, 120, hexd (pk s a / 16), hexd (pk s a % 16)] := by unfold piece1; rw [if_neg (by omega), if_neg (by omega), if_neg (by omega), if_neg casc, if_neg cr]
        have hs1 : step1 s a = 1 := by unfold step1; rw [if_neg cr]
        obtain ⟨z, hz⟩ : ∃ z, pk s a = z := ⟨_, rfl⟩
        have Hz := hid hz
        rw [hz] at hg hk8 HP1
        have d1 : ¬ (z : Int) = 34 := by omega
        have d2 : ¬ (z : Int) = 92 := by omega
        have d3 : ¬ (z : Int) = 10 := by omega
        have d4 : ¬ (z : Int) = 9 := by omega
        have e1 : ((z : Int) == 34) = false := by simp; omega
        have e2 : ((z : Int) == 92) = false := by simp; omega
        have e3 : ((z : Int) == 10) = false := by simp; omega
        have e4 : ((z : Int) == 9) = false := by simp; omega
        rw [hz] at hpc casc
        clear hz
        obtain ⟨r1, r2, hrr⟩ : ∃ r1 r2, runR s a = (r1, r2) := ⟨_, _, rfl⟩
        rw [hrr] at HC1 cr
        simp only at cr
        have d7 : ¬ (160 : Int) ≤ (r1 : Int) := by omega
        obtain ⟨X, hX⟩ : ∃ X, z / 16 = X := ⟨_, rfl⟩
        obtain ⟨Y, hY⟩ : ∃ Y, z % 16 = Y := ⟨_, rfl⟩
        rw [hX, hY] at hpc
        have hX16 : X < 16 := by omega
        have hY16 : Y < 16 := by omega
        have eX : (z : Int) / 16 = (X : Int) := by omega
        have eY : (z : Int) % 16 = (Y : Int) := by omega
        have wX : IntKind.u8.wrap ((X : Int) + 1) = ((X + 1 : Nat) : Int) := by rw [IntKind.wrap_u8]; omega
        have wY : IntKind.u8.wrap ((Y : Int) + 1) = ((Y + 1 : Nat) : Int) := by rw [IntKind.wrap_u8]; omega
        have lX : (X : Int) ≤ ((X + 1 : Nat) : Int) := by omega
        have lY : (Y : Int) ≤ ((Y + 1 : Nat) : Int) := by omega
        have mX : ((X + 1 : Nat) : Int) ≤ 16 := by omega
        have mY : ((Y + 1 : Nat) : Int) ≤ 16 := by omega
        have HDX := hid (dgsR_at hX16)
        have HDY := hid (dgsR_at hY16)
        have hDX : ((⟨#[48, 49, 50, 51, 52, 53, 54, 55, 56, 57, 97, 98, 99, 100, 101, 102]⟩ : ByteArray).extract X (X + 1)).size = 1 := by rw [HDX.out, strOf_size]; rfl
        have hDY : ((⟨#[48, 49, 50, 51, 52, 53, 54, 55, 56, 57, 97, 98, 99, 100, 101, 102]⟩ : ByteArray).extract Y (Y + 1)).size = 1 := by rw [HDY.out, strOf_size]; rfl
        clear hX hY
        rcases (by omega : z < 32 ∨ 127 ≤ z) with hlo | hhi
        · have d5 : ¬ (32 : Int) ≤ (z : Int) := by omega
          have HE : Hid (((P ++ ⟨#[92, 120]⟩) ++ (⟨#[48, 49, 50, 51, 52, 53, 54, 55, 56, 57, 97, 98, 99, 100, 101, 102]⟩ : ByteArray).extract X (X + 1)) ++ (⟨#[48, 49, 50, 51, 52, 53, 54, 55, 56, 57, 97, 98, 99, 100, 101, 102]⟩ : ByteArray).extract Y (Y + 1) = strOf (34 :: (Z ++ piece1 s a))) := by unfold Hid; rw [hpc, HDX.out, HDY.out, show (⟨#[92, 120]⟩ : ByteArray) = strOf [92, 120] from rfl, HApp.out, str_appR, str_appR]; simp
          go_wp2_with fail
          refine HC1.out.mono ?_
          intro ex w1 hP1
          obtain ⟨rfl, hb1⟩ := hP1
          have HB1 := hid (HB.out.trans (hb1.mono HB.out.size))
          clear hb1 HC1
          go_wp2_with fail
          go_big_quiet (fail)
          go_wp2
          first
            | exact ⟨⟨_, Z ++ piece1 s a, a + step1 s a, k, rfl, HE.out, by rw [hs1]; go_num, hsp.2, by omega, by rw [List.length_append]; omega, HQ.out, below_dQ HB1.out _⟩, by simp [intOf]; omega⟩
            | (go_roundw
               case rel => exact ⟨_, Z ++ piece1 s a, a + step1 s a, k, rfl, HE.out, by rw [hs1]; go_num, hsp.2, by omega, by rw [List.length_append]; omega, HQ.out, below_dQ HB1.out _⟩
               case measure => simp [intOf]; omega)
        · have d5 : (32 : Int) ≤ (z : Int) := by omega
          have d6 : ¬ (z : Int) < 127 := by omega
          have HE : Hid (((P ++ ⟨#[92, 120]⟩) ++ (⟨#[48, 49, 50, 51, 52, 53, 54, 55, 56, 57, 97, 98, 99, 100, 101, 102]⟩ : ByteArray).extract X (X + 1)) ++ (⟨#[48, 49, 50, 51, 52, 53, 54, 55, 56, 57, 97, 98, 99, 100, 101, 102]⟩ : ByteArray).extract Y (Y + 1) = strOf (34 :: (Z ++ piece1 s a))) := by unfold Hid; rw [hpc, HDX.out, HDY.out, show (⟨#[92, 120]⟩ : ByteArray) = strOf [92, 120] from rfl, HApp.out, str_appR, str_appR]; simp
          go_wp2_with fail
          refine HC1.out.mono ?_
          intro ex w1 hP1
          obtain ⟨rfl, hb1⟩ := hP1
          have HB1 := hid (HB.out.trans (hb1.mono HB.out.size))
          clear hb1 HC1
          go_wp2_with fail
          go_big_quiet (fail)
          go_wp2
          first
            | exact ⟨⟨_, Z ++ piece1 s a, a + step1 s a, k, rfl, HE.out, by rw [hs1]; go_num, hsp.2, by omega, by rw [List.length_append]; omega, HQ.out, below_dQ HB1.out _⟩, by simp [intOf]; omega⟩
            | (go_roundw
               case rel => exact ⟨_, Z ++ piece1 s a, a + step1 s a, k, rfl, HE.out, by rw [hs1]; go_num, hsp.2, by omega, by rw [List.length_append]; omega, HQ.out, below_dQ HB1.out _⟩
               case measure => simp [intOf]; omega)
    · have hlt' : ¬ (a : Int) < (s.size : Int) := by omega
      rw [rqF_end hlt, List.append_nil] at hq
      have HE : Hid (P ++ ⟨#[34]⟩ = strOf (34 :: (F ++ [34]))) := by unfold Hid; rw [HP.out, show (⟨#[34]⟩ : ByteArray) = strOf [34] from rfl, str_appR, ← hq]; rfl
      clear hq
      go_wp2
      go_ret
      exact ⟨by rw [← HE.out]; rfl, HB.out⟩
end Go.Proofs.YtdmhemofhmfkoabGreatDoor
