import Derived.Test.YtdmhemofhmfkoabGreatDoorPack4
import Derived.Test.YtdmhemofhmfkoabGreatDoorShelf
import Derived.Deep.RegionHeld
namespace Go.Proofs.YtdmhemofhmfkoabGreatDoor
open Go.RowKit
set_option maxRecDepth 8000

/-- the byte at a place of a text; behind its end 0 -/
def pk (s : ByteArray) (a : Nat) : Nat := ((s.data[a]?).map UInt8.toNat).getD 0
theorem pk_lt (s : ByteArray) (a : Nat) : pk s a < 256 := by
  unfold pk
  cases s.data[a]? with
  | none => simp
  | some x => simpa using x.toNat_lt
/-- the reader's box -/
abbrev Rd (w : World) (rb : Nat) (s : ByteArray) (a q : Nat) : Prop := Box w rb #[.string s, .int .i64 a, .int .i64 q] 67

/-- the reader's place moves on -/
theorem Rd.to {w : World} {rb : Nat} {s : ByteArray} {a q : Nat} (h : Rd w rb s a q) (z : Int) (b : Nat) (hz : z = (b : Int)) : Rd (w.setCell ⟨rb, 1, none⟩ (.int .i64 z)) rb s b q := by
  subst hz
  have h2 := Box.set h 1 (.int .i64 (b : Int))
  simp at h2
  exact h2
theorem Rd.parts {w : World} {rb : Nat} {s : ByteArray} {a q : Nat} (h : Rd w rb s a q) (z : Int) (b : Nat) (hz : z = (b : Int)) : Rd (w.setCell ⟨rb, 2, none⟩ (.int .i64 z)) rb s a b := by
  subst hz
  have h2 := Box.set h 2 (.int .i64 (b : Int))
  simp at h2
  exact h2

set_option maxHeartbeats 1000000 in
theorem peek_any (rb : Nat) (s : ByteArray) (a q : Nat) (w : World) (hb : Rd w rb s a q) (ha : a ≤ s.size) :
    Calls Tryz.prog 63 #[.pointer (some ⟨rb, 0, none⟩)] w fun x w' => x = .returned (.int .u8 (pk s a)) ∧ Below w.heap.size w w' := by
  have x0 := hb.cell 0
  have x1 := hb.cell 1
  simp at x0 x1
  clear hb
  by_cases h : a = s.size
  · have hp : pk s a = 0 := by unfold pk; rw [Array.getElem?_eq_none (by rw [h]; exact Nat.le_refl _)]; rfl
    have hi : ((a : Int) = (s.size : Int)) := by omega
    rw [hp]
    clear hp h
    go_enter Tryz.func63, Tryz.ntmps63
    go_wp2_with fail
    go_region
    go_wp2
    go_ret
    exact ⟨rfl, (Below.refl _ _).drew⟩
  · have hi : ¬ ((a : Int) = (s.size : Int)) := by omega
    have hlt : a < s.size := by omega
    have HP : Hid (((s[a]'hlt).toNat : Int) = (pk s a : Int)) := by
      unfold Hid pk
      rw [Array.getElem?_eq_getElem (show a < s.data.size from hlt)]
      rfl
    go_enter Tryz.func63, Tryz.ntmps63
    go_wp2_with fail
    go_region
    go_wp2_with fail
    go_region
    go_wp2
    go_ret
    exact ⟨congrArg (fun z : Int => Ending.returned (.int .u8 z)) HP.out, (Below.refl _ _).drew.drew⟩
set_option maxHeartbeats 1000000 in
theorem isDigit_any (c : Nat) (w : World) : Calls Tryz.prog 106 #[.int .u8 c] w fun x w' => x = .returned (.bool (decide (48 ≤ c ∧ c ≤ 57))) ∧ w' = w := by
  by_cases h1 : 48 ≤ c
  · have h1' : (48 : Int) ≤ (c : Int) := by omega
    by_cases h2 : c ≤ 57
    · have h2' : (c : Int) ≤ 57 := by omega
      have h : decide (48 ≤ c ∧ c ≤ 57) = true := by simp [h1, h2]
      rw [h]
      go_enter Tryz.func106, Tryz.ntmps106
      go_wp2
      go_ret
      exact ⟨rfl, rfl⟩
    · have h2' : ¬ (c : Int) ≤ 57 := by omega
      have h : decide (48 ≤ c ∧ c ≤ 57) = false := by simp [h2]
      rw [h]
      go_enter Tryz.func106, Tryz.ntmps106
      go_wp2
      go_ret
      exact ⟨rfl, rfl⟩
  · have h1' : ¬ (48 : Int) ≤ (c : Int) := by omega
    have h : decide (48 ≤ c ∧ c ≤ 57) = false := by simp [h1]
    rw [h]
    go_enter Tryz.func106, Tryz.ntmps106
    go_wp2
    go_ret
    exact ⟨rfl, rfl⟩

/-- a place at which reading fails, and how -/
def FailsAt (a e : Nat) (x : Ending) : Prop := x = .panicked [{ v := faultV (a : Int) (e : Int), recovered := false }]
/-- what a digit of sixteen is worth -/
def hexS (c : Nat) : Option Nat := if 48 ≤ c ∧ c ≤ 57 then some (c - 48) else if 97 ≤ c ∧ c ≤ 102 then some (c - 87) else if 65 ≤ c ∧ c ≤ 70 then some (c - 55) else none
def HexPost (rb : Nat) (s : ByteArray) (a q : Nat) (w : World) (r : Option Nat) (x : Ending) (w' : World) : Prop :=
  (∀ h, r = some h → x = .returned (.int .u8 h) ∧ Rd w' rb s (a + 1) q ∧ But (fun y => y = rb) w w') ∧ (r = none → FailsAt a 28 x ∧ But (fun y => y = rb) w w')

theorem hexS_cases (c : Nat) : (48 ≤ c ∧ c ≤ 57 ∧ hexS c = some (c - 48)) ∨ (97 ≤ c ∧ c ≤ 102 ∧ hexS c = some (c - 87)) ∨ (65 ≤ c ∧ c ≤ 70 ∧ hexS c = some (c - 55)) ∨ ((c < 48 ∨ (57 < c ∧ c < 65) ∨ (70 < c ∧ c < 97) ∨ 102 < c) ∧ hexS c = none) := by
  unfold hexS
  by_cases h1 : 48 ≤ c ∧ c ≤ 57
  · rw [if_pos h1]; exact .inl ⟨h1.1, h1.2, rfl⟩
  · rw [if_neg h1]
    by_cases h2 : 97 ≤ c ∧ c ≤ 102
    · rw [if_pos h2]; exact .inr (.inl ⟨h2.1, h2.2, rfl⟩)
    · rw [if_neg h2]
      by_cases h3 : 65 ≤ c ∧ c ≤ 70
      · rw [if_pos h3]; exact .inr (.inr (.inl ⟨h3.1, h3.2, rfl⟩))
      · rw [if_neg h3]; exact .inr (.inr (.inr ⟨by omega, rfl⟩))
set_option maxHeartbeats 2000000 in
theorem hexDigit_any (rb : Nat) (s : ByteArray) (a q : Nat) (w : World) (hb : Rd w rb s a q) (ha : a ≤ s.size) (hs : s.size ≤ 140737488355328) :
    Calls Tryz.prog 119 #[.pointer (some ⟨rb, 0, none⟩)] w fun x w' => HexPost rb s a q w (hexS (pk s a)) x w' := by
  have HP := hid (peek_any rb s a q w hb ha)
  have HB := hid hb
  have hlt := pk_lt s a
  have hcs := hexS_cases (pk s a)
  clear hb
  generalize pk s a = c at *
  go_enter Tryz.func119, Tryz.ntmps119
  go_wp2_with fail
  refine HP.out.mono ?_
  rintro e w1 ⟨rfl, hb1⟩
  have HB1 := hid (HB.out.below hb1)
  have x1 := HB1.out.cell 1
  have f1 := HB1.out.frozen 1
  simp at x1
  have HS := hid (Rd.to HB1.out ((a : Int) + 1) (a + 1) (by omega))
  have HK := hid (((But.one w rb).trans (But.ofBelow hb1)).setAt 1 (.int .i64 ((a : Int) + 1)))
  have HK1 := hid ((But.one w rb).trans (But.ofBelow hb1))
  have hw1 : IntKind.i64.wrap ((a : Int) + 1) = (a : Int) + 1 := by rw [IntKind.wrap_i64]; omega
  clear HP HB hb1
  go_wp2_with fail
  refine (isDigit_any c w1).mono ?_
  rintro e w2 ⟨rfl, hw⟩
  subst w2
  rcases hcs with ⟨h1, h2, hx⟩ | ⟨h1, h2, hx⟩ | ⟨h1, h2, hx⟩ | ⟨h1, hx⟩
  · have hd : decide (48 ≤ c ∧ c ≤ 57) = true := by simp [h1, h2]
    have HX := hid hx
    simp only [hd]
    clear hx hd
    go_wp2
    go_ret
    exact ⟨fun h hh => ⟨by rw [HX.out] at hh; cases hh; exact congrArg (fun z : Int => Ending.returned (.int .u8 z)) (show (c : Int) - 48 = ((c - 48 : Nat) : Int) by omega), HS.out, HK.out⟩, fun hn => by rw [HX.out] at hn; cases hn⟩
  · have hd : decide (48 ≤ c ∧ c ≤ 57) = false := by simp; omega
    have HX := hid hx
    simp only [hd]
    clear hx hd
    go_wp2
    go_ret
    exact ⟨fun h hh => ⟨by rw [HX.out] at hh; cases hh; exact congrArg (fun z : Int => Ending.returned (.int .u8 z)) (show (c : Int) - 87 = ((c - 87 : Nat) : Int) by omega), HS.out, HK.out⟩, fun hn => by rw [HX.out] at hn; cases hn⟩
  · have hd : decide (48 ≤ c ∧ c ≤ 57) = false := by simp; omega
    have HX := hid hx
    simp only [hd]
    clear hx hd
    go_wp2
    go_ret
    exact ⟨fun h hh => ⟨by rw [HX.out] at hh; cases hh; exact congrArg (fun z : Int => Ending.returned (.int .u8 z)) (show (c : Int) - 55 = ((c - 55 : Nat) : Int) by omega), HS.out, HK.out⟩, fun hn => by rw [HX.out] at hn; cases hn⟩
  · have hd : decide (48 ≤ c ∧ c ≤ 57) = false := by simp; omega
    have HX := hid hx
    have HG := hid (fun W => giveUp_any a 28 W)
    simp only [hd]
    clear hx hd
    rcases h1 with h1 | ⟨h1, h2⟩ | ⟨h1, h2⟩ | h1
    all_goals
      go_wp2_with fail
      refine (HG.out _).mono ?_
      rintro e w2 ⟨rfl, hw⟩
      subst w2
      exact ⟨rfl, fun h hh => (by rw [HX.out] at hh; cases hh), fun _ => ⟨rfl, HK1.out⟩⟩
end Go.Proofs.YtdmhemofhmfkoabGreatDoor

namespace Go.Proofs.YtdmhemofhmfkoabGreatDoor
open Go.RowKit
set_option maxRecDepth 8000

theorem pk_pos {s : ByteArray} {a : Nat} (h : pk s a ≠ 0) : a < s.size := by
  rcases Nat.lt_or_ge a s.size with h1 | h1
  · exact h1
  · refine absurd ?_ h
    unfold pk
    rw [Array.getElem?_eq_none (show s.data.size ≤ a from h1)]
    rfl
theorem hexS_some {c h : Nat} (e : hexS c = some h) : c ≠ 0 ∧ h < 16 := by
  unfold hexS at e
  split at e
  · cases e; omega
  · split at e
    · cases e; omega
    · split at e
      · cases e; omega
      · cases e
theorem hex_or : ∀ h, h < 16 → ∀ l, l < 16 → bits BinOp.or IntKind.u8 ((h : Nat) * 16 : Int) ((l : Nat) : Int) = ((h * 16 + l : Nat) : Int) := by decide +kernel
/-- what a reading function does: what it reads and where it stands then, or the place and the number of its error -/
def RdPost {β : Type} (rb : Nat) (s : ByteArray) (q : Nat) (w : World) (r : Except (Nat × Nat) (β × Nat)) (V : β → Value) (x : Ending) (w' : World) : Prop :=
  (∀ b a', r = .ok (b, a') → x = .returned (V b) ∧ Rd w' rb s a' q ∧ But (fun y => y = rb) w w') ∧ (∀ p e, r = .error (p, e) → FailsAt p e x ∧ But (fun y => y = rb) w w')
theorem RdPost.ok {β : Type} {rb : Nat} {s : ByteArray} {q : Nat} {w : World} {r : Except (Nat × Nat) (β × Nat)} {V : β → Value} {x : Ending} {w' : World} {b : β} {a' : Nat} (h : r = .ok (b, a')) (hx : x = .returned (V b)) (hr : Rd w' rb s a' q) (hk : But (fun y => y = rb) w w') : RdPost rb s q w r V x w' := by
  subst h
  exact ⟨fun b2 a2 e => (by cases e; exact ⟨hx, hr, hk⟩), fun p e2 e => (by cases e)⟩
theorem RdPost.err {β : Type} {rb : Nat} {s : ByteArray} {q : Nat} {w : World} {r : Except (Nat × Nat) (β × Nat)} {V : β → Value} {x : Ending} {w' : World} {p e : Nat} (h : r = .error (p, e)) (hx : FailsAt p e x) (hk : But (fun y => y = rb) w w') : RdPost rb s q w r V x w' := by
  subst h
  exact ⟨fun b2 a2 e => (by cases e), fun p e2 e => (by cases e; exact ⟨hx, hk⟩)⟩

/-- what stands for a byte behind a backslash (the backslash is at a) -/
def escS (s : ByteArray) (a : Nat) : Except (Nat × Nat) (Nat × Nat) :=
  if pk s (a + 1) = 34 ∨ pk s (a + 1) = 92 then .ok (pk s (a + 1), a + 2)
  else if pk s (a + 1) = 110 then .ok (10, a + 2)
  else if pk s (a + 1) = 116 then .ok (9, a + 2)
  else if pk s (a + 1) = 120 then (match hexS (pk s (a + 2)) with
    | none => .error (a + 2, 28)
    | some h => match hexS (pk s (a + 3)) with
      | none => .error (a + 3, 28)
      | some l => .ok (h * 16 + l, a + 4))
  else .error (a + 1, 28)

set_option maxHeartbeats 4000000 in
theorem escaped_any (rb : Nat) (s : ByteArray) (a q : Nat) (w : World) (hb : Rd w rb s a q) (ha : a < s.size) (hs : s.size ≤ 140737488355328) :
    Calls Tryz.prog 103 #[.pointer (some ⟨rb, 0, none⟩)] w fun x w' => RdPost rb s q w (escS s a) (fun b => .int .u8 (b : Nat)) x w' := by
  have x1 := hb.cell 1
  have f1 := hb.frozen 1
  simp at x1
  have hw1 : IntKind.i64.wrap ((a : Int) + 1) = (a : Int) + 1 := by rw [IntKind.wrap_i64]; omega
  have hw2 : IntKind.i64.wrap ((a : Int) + 1 + 1) = (a : Int) + 1 + 1 := by rw [IntKind.wrap_i64]; omega
  have HB1 := hid (Rd.to hb ((a : Int) + 1) (a + 1) (by omega))
  have HK1 := hid ((But.one w rb).setAt 1 (.int .i64 ((a : Int) + 1)))
  have HP := hid (peek_any rb s (a + 1) q _ HB1.out (by omega))
  clear hb
  go_enter Tryz.func103, Tryz.ntmps103
  go_wp2_with fail
  refine HP.out.mono ?_
  rintro e w1 ⟨rfl, hb1⟩
  have HB2 := hid (Box.below HB1.out hb1)
  have HK2 := hid (HK1.out.trans (But.ofBelow hb1))
  have y1 := HB2.out.cell 1
  have g1 := HB2.out.frozen 1
  simp at y1
  have HB3 := hid (Rd.to HB2.out ((a : Int) + 1 + 1) (a + 2) (by omega))
  have HK3 := hid (HK2.out.setAt 1 (.int .i64 ((a : Int) + 1 + 1)))
  clear HP HB1 HK1 hb1 x1 f1
  have HE : Hid (escS s a = escS s a) := rfl
  have HE2 : Hid (∀ n, pk s (a + 1) = n → escS s a = if n = 34 ∨ n = 92 then .ok (n, a + 2) else if n = 110 then .ok (10, a + 2) else if n = 116 then .ok (9, a + 2) else if n = 120 then (match hexS (pk s (a + 2)) with
    | none => .error (a + 2, 28)
    | some h => match hexS (pk s (a + 3)) with
      | none => .error (a + 3, 28)
      | some l => .ok (h * 16 + l, a + 4)) else .error (a + 1, 28)) := fun n hn => by subst hn; rfl
  clear HE
  have hpos : pk s (a + 1) = 120 → a + 2 ≤ s.size := fun h => pk_pos (s := s) (a := a + 1) (by omega)
  obtain ⟨c, hc⟩ : ∃ c, pk s (a + 1) = c := ⟨_, rfl⟩
  have HE := hid (HE2.out c hc)
  have HH := hid (hc ▸ hpos)
  rw [hc]
  clear HE2 hc hpos
  by_cases c34 : c = 34
  · subst c34
    go_wp2
    go_ret
    exact RdPost.ok HE.out rfl HB3.out HK3.out
  by_cases c92 : c = 92
  · subst c92
    go_wp2
    go_ret
    exact RdPost.ok HE.out rfl HB3.out HK3.out
  by_cases c110 : c = 110
  · subst c110
    go_wp2
    go_ret
    exact RdPost.ok HE.out rfl HB3.out HK3.out
  by_cases c116 : c = 116
  · subst c116
    go_wp2
    go_ret
    exact RdPost.ok HE.out rfl HB3.out HK3.out
  by_cases c120 : c = 120
  · subst c120
    have hsz := HH.out rfl
    have HD := hid (hexDigit_any rb s (a + 2) q _ HB3.out hsz hs)
    have HE' : Hid (escS s a = match hexS (pk s (a + 2)) with
      | none => .error (a + 2, 28)
      | some h => match hexS (pk s (a + 3)) with
        | none => .error (a + 3, 28)
        | some l => .ok (h * 16 + l, a + 4)) := HE.out
    clear HE HH
    have hpos : ∀ h, hexS (pk s (a + 2)) = some h → a + 3 ≤ s.size := fun h hh => pk_pos (s := s) (a := a + 2) (hexS_some hh).1
    go_wp2_with fail
    refine HD.out.mono ?_
    rintro e w2 ⟨hok, hbad⟩
    clear HD
    cases hx : hexS (pk s (a + 2)) with
    | none =>
      obtain ⟨he, hk⟩ := hbad hx
      have HX : Hid (escS s a = .error (a + 2, 28)) := by unfold Hid; rw [HE'.out, hx]
      unfold FailsAt at he
      subst he
      exact ⟨rfl, RdPost.err HX.out rfl (HK3.out.trans hk)⟩
    | some h =>
      obtain ⟨he, hr, hk⟩ := hok h hx
      have hsz3 := hpos h hx
      have hh16 := (hexS_some hx).2
      have HD2 := hid (hexDigit_any rb s (a + 3) q _ hr hsz3 hs)
      have HK4 := hid (HK3.out.trans hk)
      have HE2 : Hid (escS s a = match hexS (pk s (a + 3)) with
        | none => .error (a + 3, 28)
        | some l => .ok (h * 16 + l, a + 4)) := by unfold Hid; rw [HE'.out, hx]
      subst he
      clear hok hbad hx hr hk HE' hpos
      go_wp2_with fail
      refine HD2.out.mono ?_
      rintro e w3 ⟨hok, hbad⟩
      clear HD2
      cases hx : hexS (pk s (a + 3)) with
      | none =>
        obtain ⟨he, hk⟩ := hbad hx
        have HX : Hid (escS s a = .error (a + 3, 28)) := by unfold Hid; rw [HE2.out, hx]
        unfold FailsAt at he
        subst he
        exact ⟨rfl, RdPost.err HX.out rfl (HK4.out.trans hk)⟩
      | some l =>
        obtain ⟨he, hr, hk⟩ := hok l hx
        have HX : Hid (escS s a = .ok (h * 16 + l, a + 4)) := by unfold Hid; rw [HE2.out, hx]
        have hl16 := (hexS_some hx).2
        have HR := hid hr
        have HK5 := hid (HK4.out.trans hk)
        subst he
        clear hok hbad hx hr hk HE2
        go_wp2
        go_ret
        exact RdPost.ok HX.out (congrArg (fun z : Int => Ending.returned (.int .u8 z)) (hex_or h hh16 l hl16)) HR.out HK5.out
  · have e1 : ((c : Int) == 34) = false := by simp; omega
    have e2 : ((c : Int) == 92) = false := by simp; omega
    have e3 : ((c : Int) == 110) = false := by simp; omega
    have e4 : ((c : Int) == 116) = false := by simp; omega
    have e5 : ((c : Int) == 120) = false := by simp; omega
    have HX : Hid (escS s a = .error (a + 1, 28)) := by
      unfold Hid
      rw [HE.out, if_neg (by omega), if_neg (by omega), if_neg (by omega), if_neg (by omega)]
    have HG := hid (fun W => giveUp_any ((a : Int) + 1) 28 W)
    go_wp2_with fail
    refine (HG.out _).mono ?_
    rintro e w2 ⟨rfl, hw⟩
    subst w2
    exact ⟨rfl, RdPost.err HX.out rfl HK2.out⟩

end Go.Proofs.YtdmhemofhmfkoabGreatDoor

namespace Go.Proofs.YtdmhemofhmfkoabGreatDoor
open Go.RowKit
set_option maxRecDepth 8000

/-- is there no rune at this place? -/
def badR (s : ByteArray) (a : Nat) : Prop := (Utf8.decode s a).1 = 65533 ∧ (Utf8.decode s a).2 = 1
instance (s : ByteArray) (a : Nat) : Decidable (badR s a) := by unfold badR; infer_instance

def WidPost (bad : Prop) (a D : Nat) (x : Ending) : Prop := (bad → FailsAt a 28 x) ∧ (¬ bad → x = .returned (.int .i64 (D : Nat)))

set_option maxHeartbeats 2000000 in
theorem width_any (rb : Nat) (s : ByteArray) (a q : Nat) (w : World) (hb : Rd w rb s a q) (ha : a < s.size) (hT : Tabs w.heap.size w) :
    Calls Tryz.prog 104 #[.pointer (some ⟨rb, 0, none⟩)] w fun x w' => WidPost (badR s a) a (Utf8.decode s a).2 x ∧ Below w.heap.size w w' := by
  have x0 := hb.cell 0
  have x1 := hb.cell 1
  simp at x0 x1
  have HB := hid hb
  have hdg := decGo s a ha
  have HD : Hid (∀ W, Below w.heap.size w W → Calls Tryz.prog 96 #[.string (s.extract a s.size)] W fun e w' => e = .returned (.tuple #[.int .i32 (Utf8.decode s a).1, .int .i64 (Utf8.decode s a).2]) ∧ Below W.heap.size W w') := fun W hW => by
    have h := Tryz.utf8_DecodeRuneInString (s.extract a s.size) W (hT.utf W hW)
    rw [hdg] at h
    exact h
  clear hb hdg hT
  have hle : (a : Int) ≤ (s.size : Int) := by omega
  unfold badR
  generalize (Utf8.decode s a).1 = R at *
  generalize (Utf8.decode s a).2 = D at *
  go_enter Tryz.func104, Tryz.ntmps104
  go_wp2_with fail
  go_region_held (fun W => W.cell? ⟨rb, 0, none⟩ = some (.string s) ∧ W.cell? ⟨rb, 1, none⟩ = some (.int .i64 a)) (go_keep)
    ((go_at_call 96; refine (HD.out _ (Below.refl _ _).drew).mono ?_; rintro e w1 ⟨rfl, hb1'⟩; have hb1 : Below w.heap.size w w1 := (Below.refl _ _).drew.trans hb1'; have y0 := (HB.out.below hb1).cell 0; have y1 := (HB.out.below hb1).cell 1; simp at y0 y1))
  have HG := hid (fun W => giveUp_any (a : Int) 28 W)
  clear HD HB x0 x1 hb1'
  by_cases hR : R = 65533
  · subst hR
    by_cases hD : D = 1
    · subst hD
      go_wp2_with fail
      refine (HG.out _).mono ?_
      rintro e w2 ⟨rfl, hw⟩
      subst w2
      exact ⟨rfl, ⟨fun _ => rfl, fun h => absurd ⟨rfl, rfl⟩ h⟩, hb1⟩
    · have e1 : ((D : Int) == 1) = false := by simp; omega
      go_wp2
      go_ret
      exact ⟨⟨fun h => False.elim h, fun _ => rfl⟩, hb1⟩
  · have e1 : ((R : Int) == 65533) = false := by simp; omega
    go_wp2
    go_ret
    exact ⟨⟨fun h => absurd h.1 hR, fun _ => rfl⟩, hb1⟩
end Go.Proofs.YtdmhemofhmfkoabGreatDoor

namespace Go.Proofs.YtdmhemofhmfkoabGreatDoor
open Go.RowKit
set_option maxRecDepth 8000

/-- what reading a byte comes to -/
def NextPost (w : World) (db : Nat) (p : Option Addr) (n c a q : Nat) (f : Nat → Int) (x : Ending) (w' : World) : Prop :=
  (a < n → x = .returned (.int .u8 (f a)) ∧ Box w' db #[.slice p n c, .int .i64 ((a + 1 : Nat) : Int), .int .i64 q] 70 ∧ But (fun y => y = db) w w') ∧ (n ≤ a → Fails 28 x ∧ But (fun y => y = db) w w')

set_option maxHeartbeats 1000000 in
theorem next_any (db : Nat) (p : Option Addr) (n c a q : Nat) (w : World) (S : Nat → Prop) (f : Nat → Int) (hB : Byts w S p n c f) (hS : ¬ S db) (hb : Box w db #[.slice p n c, .int .i64 a, .int .i64 q] 70) (ha : a ≤ n) :
    Calls Tryz.prog 72 #[.pointer (some ⟨db, 0, none⟩)] w fun x w' => NextPost w db p n c a q f x w' := by
  have HT := take_any db p n c a q 1 w S f hB hb ha (by omega)
  have HY := hid hB
  clear hB hb
  go_enter Tryz.func72, Tryz.ntmps72
  go_wp2_with fail
  refine HT.mono ?_
  intro x w1 hP
  by_cases h : a < n
  · obtain ⟨⟨p', c', rfl, hp'⟩, hb1, hk1⟩ := hP.1 h
    obtain ⟨b, o, hp, hSb, hbl, hat⟩ := HY.out.at_ (by omega)
    have hp2 := hp' (by omega)
    rw [hp] at hp2
    have hp3 : p' = some ⟨b, o + a, none⟩ := by rw [hp2]; simp [from_, Addr.add]
    subst hp3
    have hne : b ≠ db := fun e => hS (e ▸ hSb)
    have y := (World.cell?_of_block (a := ⟨b, o + a, none⟩) (hk1.block b hbl hne)).trans (hat a h)
    have HF := hid (And.intro hb1 hk1)
    clear hP hb1 hk1 hat hp' hp2 HT
    go_wp2
    go_ret
    exact ⟨fun _ => ⟨rfl, HF.out.1, HF.out.2⟩, fun h2 => by omega⟩
  · obtain ⟨⟨a2, rfl⟩, hk1⟩ := hP.2 (by omega)
    have HF := hid hk1
    clear hP hk1 HT
    exact ⟨rfl, fun h2 => absurd h2 h, fun _ => ⟨⟨a2, rfl⟩, HF.out⟩⟩

/-- what reading a count comes to -/
def CountPost (w : World) (db : Nat) (p : Option Addr) (n c a q : Nat) (f : Nat → Int) (most e : Int) (x : Ending) (w' : World) : Prop :=
  (a < n → f a ≤ most → x = .returned (.int .i64 (f a)) ∧ Box w' db #[.slice p n c, .int .i64 ((a + 1 : Nat) : Int), .int .i64 q] 70 ∧ But (fun y => y = db) w w') ∧ (a < n → most < f a → Fails e x ∧ But (fun y => y = db) w w') ∧ (n ≤ a → Fails 28 x ∧ But (fun y => y = db) w w')

set_option maxHeartbeats 1000000 in
theorem count_any (db : Nat) (p : Option Addr) (n c a q : Nat) (w : World) (S : Nat → Prop) (f : Nat → Int) (most e : Int) (hB : Byts w S p n c f) (hS : ¬ S db) (hb : Box w db #[.slice p n c, .int .i64 a, .int .i64 q] 70) (ha : a ≤ n) :
    Calls Tryz.prog 76 #[.pointer (some ⟨db, 0, none⟩), .int .i64 most, .int .i64 e] w fun x w' => CountPost w db p n c a q f most e x w' := by
  have HN := next_any db p n c a q w S f hB hS hb ha
  have HFit := hid hB.fit
  clear hB hb
  go_enter Tryz.func76, Tryz.ntmps76
  go_wp2_with fail
  refine HN.mono ?_
  intro x w1 hP
  by_cases h : a < n
  · obtain ⟨rfl, hb1, hk1⟩ := hP.1 h
    have hf := HFit.out a h
    obtain ⟨hf1, hf2⟩ := hf
    have HF := hid (And.intro hb1 hk1)
    clear hP hb1 hk1 HN
    by_cases hm : f a ≤ most
    · have hm' : ¬ most < f a := by omega
      go_wp2
      go_ret
      exact ⟨fun _ _ => ⟨rfl, HF.out.1, HF.out.2⟩, fun _ h2 => by omega, fun h2 => by omega⟩
    · have hm' : most < f a := by omega
      have HFa := fail_any db (.slice p n c) ((a + 1 : Nat) : Int) q e w1 HF.out.1
      go_wp2_with fail
      refine HFa.mono ?_
      rintro x2 w2 ⟨⟨a2, rfl⟩, hw⟩
      subst w2
      exact ⟨rfl, fun _ h2 => by omega, fun _ _ => ⟨⟨a2, rfl⟩, HF.out.2⟩, fun h2 => by omega⟩
  · obtain ⟨⟨a2, rfl⟩, hk1⟩ := hP.2 (by omega)
    have HF := hid hk1
    clear hP hk1 HN
    exact ⟨rfl, fun h2 => absurd h2 h, fun h2 => absurd h2 h, fun _ => ⟨⟨a2, rfl⟩, HF.out⟩⟩
end Go.Proofs.YtdmhemofhmfkoabGreatDoor

namespace Go.Proofs.YtdmhemofhmfkoabGreatDoor
open Go.RowKit
set_option maxRecDepth 8000

/-- the number whose groups begin at a: the number, and where it ends; none: it is none -/
def grpS (f : Nat → Int) (n : Nat) : Nat → Nat → Nat → Nat → Option (Nat × Nat)
  | 0, _, _, _ => none
  | k + 1, a, i, u => if n ≤ a then none else if (0 < i ∧ (f a).toNat = 0) ∨ (i = 9 ∧ 1 < (f a).toNat) then none
    else if (f a).toNat < 128 then some (u ||| ((f a).toNat % 128) * 2 ^ (7 * i), a + 1) else grpS f n k (a + 1) (i + 1) (u ||| ((f a).toNat % 128) * 2 ^ (7 * i))
def GrpPost (w : World) (db : Nat) (p : Option Addr) (n c q : Nat) (r : Option (Nat × Nat)) (x : Ending) (w' : World) : Prop :=
  (∀ u a', r = some (u, a') → x = .returned (.int .u64 (u : Int)) ∧ Box w' db #[.slice p n c, .int .i64 (a' : Int), .int .i64 q] 70 ∧ But (fun y => y = db) w w') ∧ (r = none → Fails 28 x ∧ But (fun y => y = db) w w')
theorem andnot128 (c : Nat) (h : c < 256) : bits BinOp.andNot IntKind.u8 (c : Int) 128 = ((c % 128 : Nat) : Int) := by
  have h2 : ∀ v : Nat, v < 256 → bits BinOp.andNot IntKind.u8 (v : Int) 128 = ((v % 128 : Nat) : Int) := by decide
  exact h2 c h
theorem grp_fits {c i : Nat} (hi : i ≤ 9) (h : i = 9 → c ≤ 1) : c % 128 * 2 ^ (7 * i) < 2 ^ 64 := by
  rcases (by omega : i = 9 ∨ i ≤ 8) with rfl | h8
  · have := h rfl
    have h1 : c % 128 ≤ 1 := by omega
    calc c % 128 * 2 ^ (7 * 9) ≤ 1 * 2 ^ 63 := Nat.mul_le_mul h1 (by decide)
      _ < 2 ^ 64 := by decide
  · have h1 : c % 128 < 128 := by omega
    calc c % 128 * 2 ^ (7 * i) ≤ 127 * 2 ^ (7 * i) := Nat.mul_le_mul (by omega) (Nat.le_refl _)
      _ ≤ 127 * 2 ^ 56 := Nat.mul_le_mul (Nat.le_refl _) (Nat.pow_le_pow_right (by omega) (by omega))
      _ < 2 ^ 64 := by decide

set_option maxHeartbeats 2000000 in
theorem groups_any (db : Nat) (p : Option Addr) (n c a q : Nat) (w : World) (S : Nat → Prop) (f : Nat → Int) (hB : Byts w S p n c f) (hS : ¬ S db) (hb : Box w db #[.slice p n c, .int .i64 a, .int .i64 q] 70) (ha : a ≤ n) :
    Calls Tryz.prog 75 #[.pointer (some ⟨db, 0, none⟩)] w fun x w' => GrpPost w db p n c q (grpS f n 10 a 0 0) x w' := by
  have HY := hid hB
  have HB := hid hb
  generalize hR : grpS f n 10 a 0 0 = R
  clear hB hb
  go_enter Tryz.func75, Tryz.ntmps75
  go_wp2_with fail
  go_loopw [3, 4] (fun y x wr => ∃ (i u a' : Nat), i ≤ 9 ∧ y = .int .u64 (u : Int) ∧ x = .int .i64 ((7 * i : Nat) : Int) ∧ u < 2 ^ 64 ∧ a' ≤ n ∧ grpS f n (10 - i) a' i u = R ∧ Box wr db #[.slice p n c, .int .i64 (a' : Int), .int .i64 q] 70 ∧ But (fun y => y = db) w wr) (fun _ x _ => 100 - (intOf x).toNat)
  case atStart => exact ⟨0, 0, a, by omega, rfl, rfl, by decide, ha, hR, HB.out, But.refl _ _⟩
  case round =>
    obtain ⟨i, u, a', hi, rfl, rfl, hu, ha', hg, hbx, hk⟩ := hrel
    have hB1 : Byts wr S p n c f := HY.out.kept hk.size fun b hb hl => hk.block b hl (fun e => hS (e ▸ hb))
    have HN := next_any db p n c a' q wr S f hB1 hS hbx ha'
    have HK := hid hk
    have HG := hid hg
    clear hk hbx hg hB1
    go_wp2_with fail
    refine HN.mono ?_
    intro x w1 hP
    have HE : Hid (10 - i = (9 - i) + 1) := by unfold Hid; omega
    by_cases h : a' < n
    · obtain ⟨rfl, hb1, hk1⟩ := hP.1 h
      obtain ⟨hf1, hf2⟩ := HY.out.fit a' h
      obtain ⟨C, hC⟩ := Int.eq_ofNat_of_zero_le hf1
      have hg2 := HG.out
      rw [HE.out, grpS, if_neg (by omega), hC] at hg2
      simp only [Int.toNat_natCast] at hg2
      have HG2 := hid hg2
      have HF := hid (And.intro hb1 (HK.out.trans hk1))
      clear hP hb1 hk1 HN hg2
      rw [hC]
      have hC2 : C < 256 := by omega
      have e1 := andnot128 C hC2
      have HFa := hid (fail_any db (.slice p n c) ((a' + 1 : Nat) : Int) q 28 w1 HF.out.1)
      by_cases hbad : (0 < i ∧ C = 0) ∨ (i = 9 ∧ 1 < C)
      · have hr : R = none := by have h2 := HG2.out; rw [if_pos hbad] at h2; exact h2.symm
        have HRn := hid hr
        clear hr
        rcases (by omega : (0 < i ∧ C = 0) ∨ (i = 9 ∧ 1 < C)) with ⟨h1, rfl⟩ | ⟨rfl, h1⟩
        · have h1' : (0 : Int) < 7 * (i : Int) := by omega
          go_wp2_with fail
          refine HFa.out.mono ?_
          rintro x2 w2 ⟨⟨a2, rfl⟩, hw⟩
          subst w2
          exact ⟨rfl, fun u2 a3 h2 => (by rw [HRn.out] at h2; cases h2), fun _ => ⟨⟨a2, rfl⟩, HF.out.2⟩⟩
        · have h1' : (1 : Int) < (C : Int) := by omega
          have h2' : ¬ (C : Int) = 0 := by omega
          go_wp2_with fail
          refine HFa.out.mono ?_
          rintro x2 w2 ⟨⟨a2, rfl⟩, hw⟩
          subst w2
          exact ⟨rfl, fun u2 a3 h2 => (by rw [HRn.out] at h2; cases h2), fun _ => ⟨⟨a2, rfl⟩, HF.out.2⟩⟩
      · have hg3 := HG2.out
        rw [if_neg hbad] at hg3
        have HG3 := hid hg3
        have hfit := grp_fits (c := C) hi (fun h9 => by omega)
        obtain ⟨V, hV⟩ : ∃ V, V = C % 128 * 2 ^ (7 * i) := ⟨_, rfl⟩
        rw [← hV] at hfit
        have hor := bits_or_u64_nat u V (by omega) (by omega)
        have HV := hid hV
        clear hg3 hV
        have hfit2 := hid hfit
        have HRs : C < 128 → R = some (u ||| V, a' + 1) := fun h2 => by have h3 := HG3.out; rw [if_pos h2, ← HV.out] at h3; exact h3.symm
        have HRr : ¬ C < 128 → grpS f n (10 - (i + 1)) (a' + 1) (i + 1) (u ||| V) = R := fun h2 => by have h3 := HG3.out; rw [if_neg h2, ← HV.out] at h3; rw [show 10 - (i + 1) = 9 - i by omega]; exact h3
        have HRs := hid HRs
        have HRr := hid HRr
        by_cases hi0 : i = 0
        · subst hi0
          have e0 : (C : Int) % 128 = (V : Int) := by have := HV.out; omega
          by_cases hlt : C < 128
          · have hlt' : (C : Int) < 128 := by omega
            have HRs := hid (HRs.out hlt)
            clear HRr HV hfit HG2 HG3
            go_wp2
            go_ret
            exact ⟨fun u2 a3 h2 => (by rw [HRs.out] at h2; cases h2; exact ⟨rfl, HF.out.1, HF.out.2⟩), fun h2 => (by rw [HRs.out] at h2; cases h2)⟩
          · have hlt' : ¬ (C : Int) < 128 := by omega
            have HRr := hid (HRr.out hlt)
            clear HRs HV hfit HG2 HG3
            go_wp2
            go_roundw
            case rel => exact ⟨0 + 1, u ||| V, a' + 1, by omega, rfl, by go_num, Nat.or_lt_two_pow hu hfit2.out, by omega, HRr.out, HF.out.1, HF.out.2⟩
            case measure => simp [intOf]
        · have h1' : (0 : Int) < 7 * (i : Int) := by omega
          have h2' : ¬ (C : Int) = 0 := by omega
          have h2b : ((C : Int) == 0) = false := by simpa using h2'
          by_cases hi9 : i = 9
          · subst hi9
            have h3' : ¬ (1 : Int) < (C : Int) := by omega
            have hlt : C < 128 := by omega
            have hlt' : (C : Int) < 128 := by omega
            have e0 : (C : Int) % 128 * 9223372036854775808 = (V : Int) := by
              have := HV.out
              rw [this]
              omega
            have HRs := hid (HRs.out hlt)
            clear HRr HV hfit HG2 HG3
            go_wp2
            go_ret
            exact ⟨fun u2 a3 h2 => (by rw [HRs.out] at h2; cases h2; exact ⟨rfl, HF.out.1, HF.out.2⟩), fun h2 => (by rw [HRs.out] at h2; cases h2)⟩
          · have h3' : ¬ 7 * (i : Int) = 63 := by omega
            have e0 : IntKind.u64.wrap ((C : Int) % 128 * 2 ^ (7 * i)) = (V : Int) := by
              have h2 : (C : Int) % 128 * 2 ^ (7 * i) = (V : Int) := by rw [HV.out]; simp
              rw [h2, wrap_u64]; omega
            by_cases hlt : C < 128
            · have hlt' : (C : Int) < 128 := by omega
              have HRs := hid (HRs.out hlt)
              clear HRr HV hfit HG2 HG3
              go_wp2
              go_ret
              exact ⟨fun u2 a3 h2 => (by rw [HRs.out] at h2; cases h2; exact ⟨rfl, HF.out.1, HF.out.2⟩), fun h2 => (by rw [HRs.out] at h2; cases h2)⟩
            · have hlt' : ¬ (C : Int) < 128 := by omega
              have HRr := hid (HRr.out hlt)
              clear HRs HV hfit HG2 HG3
              go_wp2
              go_roundw
              case rel => exact ⟨i + 1, u ||| V, a' + 1, by omega, rfl, by go_num, Nat.or_lt_two_pow hu hfit2.out, by omega, HRr.out, HF.out.1, HF.out.2⟩
              case measure => simp [intOf]; omega
    · obtain ⟨⟨a2, rfl⟩, hk1⟩ := hP.2 (by omega)
      have hr : R = none := by have h2 := HG.out; rw [HE.out, grpS, if_pos (by omega)] at h2; exact h2.symm
      have HF := hid (HK.out.trans hk1)
      have HRn := hid hr
      clear hP hk1 HN hr
      exact ⟨rfl, fun u2 a3 h2 => (by rw [HRn.out] at h2; cases h2), fun _ => ⟨⟨a2, rfl⟩, HF.out⟩⟩
end Go.Proofs.YtdmhemofhmfkoabGreatDoor
