import Derived.Test.YtoifpdnaeogdgabDoorPack17
import Derived.Test.YtoifpdnaeogdgabDoorPack28
import Derived.Deep.DeepCutAuto
namespace Go.Proofs.YtoifpdnaeogdgabDoor
open Go.RowKit
set_option maxRecDepth 8000
/-- what a function of the loose writer does: a text of a kind, some numbers used up -/
def LsPost (w : World) (lb : Nat) (cp : Option Addr) (cn cc a K : Nat) (R : List Int → Prop) (x : Ending) (w' : World) : Prop :=
  ∃ (zs : List Int) (a' : Nat), x = .returned (.string (strOf zs)) ∧ R zs ∧ a' ≤ a + K ∧ Lo w' lb cp cn cc a' ∧ But (fun y => y = lb) w w'
theorem str0 : (⟨#[]⟩ : ByteArray) = strOf [] := rfl
theorem str_app (a b : List Int) : strOf a ++ strOf b = strOf (a ++ b) := bytes_ext (by rw [strOf_datC, List.map_append, ← strOf_datC, ← strOf_datC]; simp)
set_option maxHeartbeats 2000000 in
theorem blanks_anyL (lb : Nat) (cp : Option Addr) (cn cc a : Nat) (cf : Nat → Int) (S : Nat → Prop) (w : World) (hb : Lo w lb cp cn cc a) (hI : Ints w S cp cn cc cf) (ha : a ≤ 1000000) :
    Calls Tryd.prog 9 #[.pointer (some ⟨lb, 0, none⟩)] w fun x w' => LsPost w lb cp cn cc a 1 (fun zs => Blank zs ∧ zs.length ≤ 3) x w' := by
  have hlb := hb.lt
  have ha1 : Below w.heap.size w (w.alloc (.cells #[.string ⟨#[]⟩, .string ⟨#[32]⟩, .string ⟨#[9]⟩, .string ⟨#[32, 32, 9]⟩] 9)) := (Below.refl _ _).alloc (Nat.le_refl _) _
  have HR := hid (Box.new w #[.string ⟨#[]⟩, .string ⟨#[32]⟩, .string ⟨#[9]⟩, .string ⟨#[32, 32, 9]⟩] 9)
  have HN := hid (next_anyL lb cp cn cc a 4 cf S _ (Box.below hb ha1) (hI.kept ha1.size fun b _ hl => ha1.block b hl) ha (by omega) (by omega))
  have HA := hid ha1
  clear hb hI ha1
  go_enter Tryd.func9, Tryd.ntmps9
  go_wp2_with fail
  refine HN.out.mono ?_
  intro x w1 hP
  obtain ⟨r, a', rfl, hr, ha', hL, hk⟩ := hP
  have hrow := HR.out.but hk (show w.heap.size ≠ lb by omega)
  have c0 := hrow.cell 0
  have c1 := hrow.cell 1
  have c2 := hrow.cell 2
  have c3 := hrow.cell 3
  simp only [List.getElem?_toArray, List.getElem?_cons_zero, List.getElem?_cons_succ] at c0 c1 c2 c3
  have HF := hid (And.intro hL ((But.ofBelow (X := fun y => y = lb) HA.out).trans hk))
  clear HN HR HA hL hk hrow
  rcases (by omega : r = 0 ∨ r = 1 ∨ r = 2 ∨ r = 3) with rfl | rfl | rfl | rfl
  · go_wp2
    go_ret
    exact ⟨[], a', rfl, ⟨(fun x hx => by cases hx), by simp⟩, ha', HF.out.1, HF.out.2⟩
  · go_wp2
    go_ret
    exact ⟨[32], a', rfl, ⟨(fun x hx => by simp at hx; omega), by simp⟩, ha', HF.out.1, HF.out.2⟩
  · go_wp2
    go_ret
    exact ⟨[9], a', rfl, ⟨(fun x hx => by simp at hx; omega), by simp⟩, ha', HF.out.1, HF.out.2⟩
  · go_wp2
    go_ret
    exact ⟨[32, 32, 9], a', rfl, ⟨(fun x hx => by simp at hx; omega), by simp⟩, ha', HF.out.1, HF.out.2⟩
/-- the digits as they are written -/
def dgs : ByteArray := ⟨#[48, 49, 50, 51, 52, 53, 54, 55, 56, 57, 97, 98, 99, 100, 101, 102, 65, 66, 67, 68, 69, 70]⟩
def dgI (X : Nat) : Nat := if X < 10 then 48 + X else if X < 16 then 87 + X else 49 + X
theorem dgs_list : ∀ X, X < 22 → (dgs.data.toList.drop X).take (X + 1 - X) = [UInt8.ofNat (dgI X)] := by decide +kernel
theorem dgI_lt : ∀ X, X < 22 → dgI X < 256 := by decide +kernel
theorem dgs_at {X : Nat} (h : X < 22) : (⟨#[48, 49, 50, 51, 52, 53, 54, 55, 56, 57, 97, 98, 99, 100, 101, 102, 65, 66, 67, 68, 69, 70]⟩ : ByteArray).extract X (X + 1) = strOf [(dgI X : Int)] := bytes_ext (by
  rw [strOf_datC]
  show (dgs.extract X (X + 1)).data.toList = _
  rw [Go.Lib.extract_data, dgs_list X h]
  rfl)
theorem dgs_hex : ∀ d, d < 16 → (hexS (dgI d) = some d) ∧ (9 < d → hexS (dgI (d + 6)) = some d) := by decide +kernel
theorem hexC_low {d : Nat} (h : d < 16) : HexC (dgI d : Int) d := ⟨_, rfl, (dgs_hex d h).1, dgI_lt d (by omega)⟩
theorem hexC_up {d : Nat} (h : d < 16) (h9 : 9 < d) : HexC (dgI (d + 6) : Int) d := ⟨_, rfl, (dgs_hex d h).2 h9, dgI_lt (d + 6) (by omega)⟩
/-- a place of a digit -/
def Dig (X d : Nat) : Prop := X < 22 ∧ HexC (dgI X : Int) d
theorem hex_str {X Y : Nat} (hX : X < 22) (hY : Y < 22) : (⟨#[92, 120]⟩ : ByteArray) ++ (⟨#[48, 49, 50, 51, 52, 53, 54, 55, 56, 57, 97, 98, 99, 100, 101, 102, 65, 66, 67, 68, 69, 70]⟩ : ByteArray).extract X (X + 1) ++ (⟨#[48, 49, 50, 51, 52, 53, 54, 55, 56, 57, 97, 98, 99, 100, 101, 102, 65, 66, 67, 68, 69, 70]⟩ : ByteArray).extract Y (Y + 1) = strOf [92, 120, (dgI X : Int), (dgI Y : Int)] := by
  rw [dgs_at hX, dgs_at hY, show (⟨#[92, 120]⟩ : ByteArray) = strOf [92, 120] from rfl, str_app, str_app]
  rfl
def HexP (c : Nat) (zs : List Int) : Prop := ∃ h l, zs = [92, 120, h, l] ∧ HexC h (c / 16) ∧ HexC l (c % 16)
set_option maxHeartbeats 2000000 in
theorem hexed_anyL (lb : Nat) (cp : Option Addr) (cn cc a c : Nat) (hc : c < 256) (cf : Nat → Int) (S : Nat → Prop) (w : World) (hb : Lo w lb cp cn cc a) (hI : Ints w S cp cn cc cf) (hS : ¬ S lb) (ha : a ≤ 900000) :
    Calls Tryd.prog 17 #[.pointer (some ⟨lb, 0, none⟩), .int .u8 (c : Int)] w fun x w' => LsPost w lb cp cn cc a 2 (HexP c) x w' := by
  have HN := hid (fun W a2 (h1 : Lo W lb cp cn cc a2) (h2 : But (fun y => y = lb) w W) (h3 : a2 ≤ 1000000) => next_anyL lb cp cn cc a2 2 cf S W h1 (hI.kept h2.size fun b hb hl => h2.block b hl (fun e => hS (e ▸ hb))) h3 (by omega) (by omega))
  have HB := hid hb
  unfold HexP
  obtain ⟨X0, hX0⟩ : ∃ X0, c / 16 = X0 := ⟨_, rfl⟩
  obtain ⟨Y0, hY0⟩ : ∃ Y0, c % 16 = Y0 := ⟨_, rfl⟩
  have hx : (c : Int) / 16 = (X0 : Int) := by omega
  have hy : (c : Int) % 16 = (Y0 : Int) := by omega
  have hx16 : X0 < 16 := by omega
  have hy16 : Y0 < 16 := by omega
  rw [hX0, hY0]
  clear hb hI hX0 hY0
  go_enter Tryd.func17, Tryd.ntmps17
  go_upto_if 14 with fail
  go_cut [5] (fun s5 wx => ∃ X a2 : Nat, s5 = .int .i64 (X : Int) ∧ Dig X X0 ∧ a2 ≤ a + 1 ∧ Lo wx lb cp cn cc a2 ∧ But (fun y => y = lb) w wx)
  case first =>
    by_cases h9 : 9 < X0
    · have h9' : (9 : Int) < (X0 : Int) := by omega
      have HNx := hid (HN.out w a HB.out (But.one w lb) (by omega))
      go_wp2_with fail
      refine HNx.out.mono ?_
      intro x w1 hP
      obtain ⟨r, a', rfl, hr, ha', hL, hk⟩ := hP
      have HF := hid (And.intro hL hk)
      clear HNx hL hk
      rcases (by omega : r = 0 ∨ r = 1) with rfl | rfl
      · have hw : IntKind.i64.wrap ((X0 : Int) + 0) = (X0 : Int) := by rw [IntKind.wrap_i64]; omega
        go_wp2_with fail
        go_meet
        exact ⟨X0, a', rfl, ⟨by omega, hexC_low hx16⟩, ha', HF.out.1, HF.out.2⟩
      · have hw : IntKind.i64.wrap ((X0 : Int) + 6) = ((X0 + 6 : Nat) : Int) := by rw [IntKind.wrap_i64]; omega
        go_wp2_with fail
        go_meet
        exact ⟨X0 + 6, a', rfl, ⟨by omega, hexC_up hx16 h9⟩, ha', HF.out.1, HF.out.2⟩
    · have h9' : ¬ (9 : Int) < (X0 : Int) := by omega
      go_wp2_with fail
      go_meet
      exact ⟨X0, a, rfl, ⟨by omega, hexC_low hx16⟩, by omega, HB.out, But.one w lb⟩
  case rest =>
  obtain ⟨X, a2, h5, hX, ha2, hL2, hk2⟩ := hcut
  subst h5
  generalize hw2 : wc = w2 at *
  have HB2 := hid (And.intro hL2 hk2)
  clear hw2 hL2 hk2 HB
  go_upto_if 21 with fail
  go_cut [6] (fun s6 wx => ∃ Y a3 : Nat, s6 = .int .i64 (Y : Int) ∧ Dig Y Y0 ∧ a3 ≤ a + 2 ∧ Lo wx lb cp cn cc a3 ∧ But (fun y => y = lb) w wx)
  case first =>
    by_cases h9 : 9 < Y0
    · have h9' : (9 : Int) < (Y0 : Int) := by omega
      have HNx := hid (HN.out w2 a2 HB2.out.1 HB2.out.2 (by omega))
      go_wp2_with fail
      refine HNx.out.mono ?_
      intro x w1 hP
      obtain ⟨r, a', rfl, hr, ha', hL, hk⟩ := hP
      have HF := hid (And.intro hL (HB2.out.2.trans hk))
      clear HNx hL hk
      rcases (by omega : r = 0 ∨ r = 1) with rfl | rfl
      · have hw : IntKind.i64.wrap ((Y0 : Int) + 0) = (Y0 : Int) := by rw [IntKind.wrap_i64]; omega
        go_wp2_with fail
        go_meet
        exact ⟨Y0, a', rfl, ⟨by omega, hexC_low hy16⟩, by omega, HF.out.1, HF.out.2⟩
      · have hw : IntKind.i64.wrap ((Y0 : Int) + 6) = ((Y0 + 6 : Nat) : Int) := by rw [IntKind.wrap_i64]; omega
        go_wp2_with fail
        go_meet
        exact ⟨Y0 + 6, a', rfl, ⟨by omega, hexC_up hy16 h9⟩, by omega, HF.out.1, HF.out.2⟩
    · have h9' : ¬ (9 : Int) < (Y0 : Int) := by omega
      go_wp2_with fail
      go_meet
      exact ⟨Y0, a2, rfl, ⟨by omega, hexC_low hy16⟩, by omega, HB2.out.1, HB2.out.2⟩
  case rest =>
  obtain ⟨Y, a3, h6, hY, ha3, hL3, hk3⟩ := hcut
  subst h6
  generalize hw3 : wc = w3 at *
  have hXl := hX.1
  have hYl := hY.1
  have hs := hex_str hX.1 hY.1
  have hwX : IntKind.i64.wrap ((X : Int) + 1) = ((X + 1 : Nat) : Int) := by rw [IntKind.wrap_i64]; omega
  have hwY : IntKind.i64.wrap ((Y : Int) + 1) = ((Y + 1 : Nat) : Int) := by rw [IntKind.wrap_i64]; omega
  have h1 : (X : Int) ≤ ((X + 1 : Nat) : Int) := by omega
  have h2 : ((X + 1 : Nat) : Int) ≤ 22 := by omega
  have h3 : (Y : Int) ≤ ((Y + 1 : Nat) : Int) := by omega
  have h4 : ((Y + 1 : Nat) : Int) ≤ 22 := by omega
  have HF := hid (And.intro (hL3.below (Below.refl _ _).drew) hk3.drew)
  have HD := hid (And.intro hX.2 hY.2)
  have HS := hid hs
  clear hw3 hL3 hk3 hX hY HB2 HN hs
  go_wp2_with fail
  go_region
  all_goals
    go_wp2
    go_ret
    refine ⟨_, a3, ?_, ⟨_, _, rfl, HD.out.1, HD.out.2⟩, ha3, HF.out.1, HF.out.2⟩
    rw [← HS.out]
    rfl
end Go.Proofs.YtoifpdnaeogdgabDoor
