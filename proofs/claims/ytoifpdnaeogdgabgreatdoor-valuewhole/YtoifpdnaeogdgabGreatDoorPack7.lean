import Derived.Test.YtoifpdnaeogdgabGreatDoorPack3
namespace Go.Proofs.YtoifpdnaeogdgabGreatDoor
open Go.RowKit
set_option maxRecDepth 8000
/-- bytes in a row, in a block of S -/
structure Byts (w : World) (S : Nat → Prop) (p : Option Addr) (n c : Nat) (f : Nat → Int) : Prop where
  at_ : 0 < n → ∃ b o, p = some ⟨b, o, none⟩ ∧ S b ∧ b < w.heap.size ∧ ∀ j, j < n → w.cell? ⟨b, o + j, none⟩ = some (.int .u8 (f j))
  nc : n ≤ c
  nn : n ≤ 140737488355328
  cc : c ≤ maxLen
  fit : ∀ j, j < n → 0 ≤ f j ∧ f j < 256
  nil : p = none → n = 0 ∧ c = 0
theorem Byts.kept {w w' : World} {S : Nat → Prop} {p : Option Addr} {n c : Nat} {f : Nat → Int} (h : Byts w S p n c f) (hs : w.heap.size ≤ w'.heap.size) (hb : ∀ b, S b → b < w.heap.size → w'.heap[b]? = w.heap[b]?) : Byts w' S p n c f := by
  refine ⟨fun hn => ?_, h.nc, h.nn, h.cc, h.fit, h.nil⟩
  obtain ⟨b, o, e, hS, hl, ha⟩ := h.at_ hn
  exact ⟨b, o, e, hS, Nat.lt_of_lt_of_le hl hs, fun j hj => (World.cell?_of_block (a := ⟨b, o + j, none⟩) (hb b hS hl)).trans (ha j hj)⟩
theorem Byts.mono {w : World} {S S' : Nat → Prop} {p : Option Addr} {n c : Nat} {f : Nat → Int} (h : Byts w S p n c f) (hb : ∀ b, S b → b < w.heap.size → S' b) : Byts w S' p n c f := by
  refine ⟨fun hn => ?_, h.nc, h.nn, h.cc, h.fit, h.nil⟩
  obtain ⟨b, o, e, hS, hl, ha⟩ := h.at_ hn
  exact ⟨b, o, e, hb b hS hl, hl, ha⟩
theorem Byts.src {w : World} {S : Nat → Prop} {p : Option Addr} {n c : Nat} {f : Nat → Int} (h : Byts w S p n c f) : Src w p n c 1 ((List.range n).map fun j => .int .u8 (f j)) := by
  cases p with
  | none => obtain ⟨rfl, rfl⟩ := h.nil rfl; exact .inl ⟨rfl, rfl, rfl, rfl⟩
  | some ad =>
    refine .inr ⟨ad, rfl, by simp, fun j u hu => ?_⟩
    by_cases hj : j < n
    · obtain ⟨b, o, e, _, _, ha⟩ := h.at_ (by omega)
      cases e
      rw [Go.WideShapes.add_plain, ha j hj]
      simp [List.getElem?_range hj] at hu
      rw [hu]
    · simp [List.getElem?_eq_none (show ((List.range n).map fun j => Value.int .u8 (f j)).length ≤ j by simp; omega)] at hu
theorem oneCell_byts (n : Nat) (f : Nat → Int) : ∀ u ∈ ((List.range n).map fun j => Value.int .u8 (f j)), u.oneCell' = true := by
  intro u hu
  obtain ⟨j, _, rfl⟩ := List.mem_map.1 hu
  rfl
end Go.Proofs.YtoifpdnaeogdgabGreatDoor

namespace Go.Proofs.YtoifpdnaeogdgabGreatDoor
open Go.RowKit
set_option maxRecDepth 8000

/-- what a reading function panics with -/
def faultV (a e : Int) : Value := .iface 64 (.agg #[.int .i64 a, .int .i64 e])
def Fails (e : Int) (x : Ending) : Prop := ∃ a : Int, x = .panicked [{ v := faultV a e, recovered := false }]

set_option maxHeartbeats 1000000 in
theorem giveUp_any (a e : Int) (w : World) : Calls Tryz.prog 65 #[.int .i64 a, .int .i64 e] w fun x w' => x = .panicked [{ v := faultV a e, recovered := false }] ∧ w' = w := by
  unfold faultV
  go_enter Tryz.func65, Tryz.ntmps65
  go_wp2
  exact ⟨rfl, rfl, rfl⟩
set_option maxHeartbeats 1000000 in
theorem fail_any (db : Nat) (s : Value) (a q : Int) (e : Int) (w : World) (hb : Box w db #[s, .int .i64 a, .int .i64 q] 70) : Calls Tryz.prog 73 #[.pointer (some ⟨db, 0, none⟩), .int .i64 e] w fun x w' => Fails e x ∧ w' = w := by
  have x1 := hb.cell 1
  simp at x1
  have HG := fun W => giveUp_any a e W
  go_enter Tryz.func73, Tryz.ntmps73
  go_wp2_with fail
  refine (HG _).mono ?_
  rintro e2 w2 ⟨rfl, hw⟩
  subst w2
  exact ⟨rfl, ⟨a, rfl⟩, rfl⟩

/-- the piece of a list from a place on -/
def from_ (p : Option Addr) (k : Nat) : Option Addr := p.map fun a => a.add k

/-- what taking k bytes comes to -/
def TakePost (w : World) (db : Nat) (p : Option Addr) (n c a q k : Nat) (x : Ending) (w' : World) : Prop :=
  (a + k ≤ n → (∃ p' c', x = .returned (.slice p' k c') ∧ (0 < k → p' = from_ p a)) ∧ Box w' db #[.slice p n c, .int .i64 ((a + k : Nat) : Int), .int .i64 q] 70 ∧ But (fun y => y = db) w w') ∧ (n < a + k → Fails 28 x ∧ But (fun y => y = db) w w')

set_option maxHeartbeats 2000000 in
theorem take_any (db : Nat) (p : Option Addr) (n c a q k : Nat) (w : World) (S : Nat → Prop) (f : Nat → Int) (hB : Byts w S p n c f) (hb : Box w db #[.slice p n c, .int .i64 a, .int .i64 q] 70) (ha : a ≤ n) (hk : k ≤ 1000) :
    Calls Tryz.prog 77 #[.pointer (some ⟨db, 0, none⟩), .int .i64 k] w fun x w' => TakePost w db p n c a q k x w' := by
  have x0 := hb.cell 0
  have x1 := hb.cell 1
  have f1 := hb.frozen 1
  have hbl := hb.lt
  simp at x0 x1
  have HB := hid hb
  have hnn := hB.nn
  have hcn := hB.nc
  have HY := hid hB
  clear hb hB
  by_cases h : a + k ≤ n
  · have h1 : ¬ ((n : Int) - (a : Int) < (k : Int)) := by omega
    have h2 : IntKind.i64.wrap ((a : Int) + (k : Int)) = (a : Int) + (k : Int) := by rw [IntKind.wrap_i64]; omega
    have h3 : (a : Int) + (k : Int) - (k : Int) = (a : Int) := by omega
    have h4 : (a : Int) ≤ (a : Int) + (k : Int) := by omega
    have h5 : (a : Int) + (k : Int) ≤ (c : Int) := by omega
    have h6 : (0 : Int) ≤ (a : Int) + (k : Int) := by omega
    have h7 : ((a : Int) + (k : Int)).toNat = a + k := by omega
    have hbx : Box (w.setCell ⟨db, 1, none⟩ (.int .i64 ((a : Int) + (k : Int)))) db #[.slice p n c, .int .i64 ((a + k : Nat) : Int), .int .i64 q] 70 := by
      have h := HB.out.set 1 (.int .i64 ((a : Int) + (k : Int)))
      simpa using h
    have HB2 := hid hbx
    have HK2 := hid ((But.one w db).setAt 1 (.int .i64 ((a : Int) + (k : Int))))
    clear hbx
    cases p with
    | none =>
      obtain ⟨rfl, rfl⟩ := HY.out.nil rfl
      obtain rfl : a = 0 := by omega
      obtain rfl : k = 0 := by omega
      go_enter Tryz.func77, Tryz.ntmps77
      go_wp2_with fail
      go_region
      go_wp2_with fail
      go_region
      go_wp2
      go_ret
      exact ⟨fun _ => ⟨⟨none, 0, rfl, fun h => by omega⟩, HB2.out.below (Below.refl _ _).drew.drew, HK2.out.drew.drew⟩, fun h => by omega⟩
    | some ad =>
      by_cases hca : c = a
      · subst hca
        obtain rfl : k = 0 := by omega
        go_enter Tryz.func77, Tryz.ntmps77
        go_wp2_with fail
        go_region
        go_wp2_with fail
        go_region
        go_wp2
        go_ret
        exact ⟨fun _ => ⟨⟨_, _, rfl, fun h => by omega⟩, HB2.out.below (Below.refl _ _).drew.drew, HK2.out.drew.drew⟩, fun h => by omega⟩
      · go_enter Tryz.func77, Tryz.ntmps77
        go_wp2_with fail
        go_region
        go_wp2_with fail
        go_region
        go_wp2
        go_ret
        exact ⟨fun _ => ⟨⟨_, _, rfl, fun _ => rfl⟩, HB2.out.below (Below.refl _ _).drew.drew, HK2.out.drew.drew⟩, fun h => by omega⟩
  · have h1 : (n : Int) - (a : Int) < (k : Int) := by omega
    have HF := fun W hb => fail_any db (.slice p n c) a q 28 W hb
    go_enter Tryz.func77, Tryz.ntmps77
    go_wp2_with fail
    go_region
    go_wp2_with fail
    refine (HF _ ?_).mono ?_
    · exact HB.out.below (Below.refl _ _).drew
    · rintro e w2 ⟨⟨a2, rfl⟩, hw⟩
      subst w2
      exact ⟨rfl, fun h2 => absurd h2 h, fun _ => ⟨⟨a2, rfl⟩, (But.refl _ _).drew⟩⟩
end Go.Proofs.YtoifpdnaeogdgabGreatDoor

namespace Go.Proofs.YtoifpdnaeogdgabGreatDoor
open Go.RowKit
set_option maxRecDepth 8000

/-- the byte at a place of a text; behind its end 0 -/
def pk (s : ByteArray) (a : Nat) : Nat := ((s.data[a]?).map UInt8.toNat).getD 0
theorem pk_lt (s : ByteArray) (a : Nat) : pk s a < 256 := by
  unfold pk
  cases s.data[a]? with
  | none => simp
  | some x => simpa using x.toNat_lt
/-- the reader's box -/
abbrev Rd (w : World) (rb : Nat) (s : ByteArray) (a q : Nat) : Prop := Box w rb #[.string s, .int .i64 a, .int .i64 q] 67

/-- the reader's place moves on -/
theorem Rd.to {w : World} {rb : Nat} {s : ByteArray} {a q : Nat} (h : Rd w rb s a q) (z : Int) (b : Nat) (hz : z = (b : Int)) : Rd (w.setCell ⟨rb, 1, none⟩ (.int .i64 z)) rb s b q := by
  subst hz
  have h2 := Box.set h 1 (.int .i64 (b : Int))
  simp at h2
  exact h2
theorem Rd.parts {w : World} {rb : Nat} {s : ByteArray} {a q : Nat} (h : Rd w rb s a q) (z : Int) (b : Nat) (hz : z = (b : Int)) : Rd (w.setCell ⟨rb, 2, none⟩ (.int .i64 z)) rb s a b := by
  subst hz
  have h2 := Box.set h 2 (.int .i64 (b : Int))
  simp at h2
  exact h2

set_option maxHeartbeats 1000000 in
theorem peek_any (rb : Nat) (s : ByteArray) (a q : Nat) (w : World) (hb : Rd w rb s a q) (ha : a ≤ s.size) :
    Calls Tryz.prog 63 #[.pointer (some ⟨rb, 0, none⟩)] w fun x w' => x = .returned (.int .u8 (pk s a)) ∧ Below w.heap.size w w' := by
  have x0 := hb.cell 0
  have x1 := hb.cell 1
  simp at x0 x1
  clear hb
  by_cases h : a = s.size
  · have hp : pk s a = 0 := by unfold pk; rw [Array.getElem?_eq_none (by rw [h]; exact Nat.le_refl _)]; rfl
    have hi : ((a : Int) = (s.size : Int)) := by omega
    rw [hp]
    clear hp h
    go_enter Tryz.func63, Tryz.ntmps63
    go_wp2_with fail
    go_region
    go_wp2
    go_ret
    exact ⟨rfl, (Below.refl _ _).drew⟩
  · have hi : ¬ ((a : Int) = (s.size : Int)) := by omega
    have hlt : a < s.size := by omega
    have HP : Hid (((s[a]'hlt).toNat : Int) = (pk s a : Int)) := by
      unfold Hid pk
      rw [Array.getElem?_eq_getElem (show a < s.data.size from hlt)]
      rfl
    go_enter Tryz.func63, Tryz.ntmps63
    go_wp2_with fail
    go_region
    go_wp2_with fail
    go_region
    go_wp2
    go_ret
    exact ⟨congrArg (fun z : Int => Ending.returned (.int .u8 z)) HP.out, (Below.refl _ _).drew.drew⟩
set_option maxHeartbeats 1000000 in
theorem isDigit_any (c : Nat) (w : World) : Calls Tryz.prog 106 #[.int .u8 c] w fun x w' => x = .returned (.bool (decide (48 ≤ c ∧ c ≤ 57))) ∧ w' = w := by
  by_cases h1 : 48 ≤ c
  · have h1' : (48 : Int) ≤ (c : Int) := by omega
    by_cases h2 : c ≤ 57
    · have h2' : (c : Int) ≤ 57 := by omega
      have h : decide (48 ≤ c ∧ c ≤ 57) = true := by simp [h1, h2]
      rw [h]
      go_enter Tryz.func106, Tryz.ntmps106
      go_wp2
      go_ret
      exact ⟨rfl, rfl⟩
    · have h2' : ¬ (c : Int) ≤ 57 := by omega
      have h : decide (48 ≤ c ∧ c ≤ 57) = false := by simp [h2]
      rw [h]
      go_enter Tryz.func106, Tryz.ntmps106
      go_wp2
      go_ret
      exact ⟨rfl, rfl⟩
  · have h1' : ¬ (48 : Int) ≤ (c : Int) := by omega
    have h : decide (48 ≤ c ∧ c ≤ 57) = false := by simp [h1]
    rw [h]
    go_enter Tryz.func106, Tryz.ntmps106
    go_wp2
    go_ret
    exact ⟨rfl, rfl⟩

/-- a place at which reading fails, and how -/
def FailsAt (a e : Nat) (x : Ending) : Prop := x = .panicked [{ v := faultV (a : Int) (e : Int), recovered := false }]
/-- what a digit of sixteen is worth -/
def hexS (c : Nat) : Option Nat := if 48 ≤ c ∧ c ≤ 57 then some (c - 48) else if 97 ≤ c ∧ c ≤ 102 then some (c - 87) else if 65 ≤ c ∧ c ≤ 70 then some (c - 55) else none
def HexPost (rb : Nat) (s : ByteArray) (a q : Nat) (w : World) (r : Option Nat) (x : Ending) (w' : World) : Prop :=
  (∀ h, r = some h → x = .returned (.int .u8 h) ∧ Rd w' rb s (a + 1) q ∧ But (fun y => y = rb) w w') ∧ (r = none → FailsAt a 28 x ∧ But (fun y => y = rb) w w')

theorem hexS_cases (c : Nat) : (48 ≤ c ∧ c ≤ 57 ∧ hexS c = some (c - 48)) ∨ (97 ≤ c ∧ c ≤ 102 ∧ hexS c = some (c - 87)) ∨ (65 ≤ c ∧ c ≤ 70 ∧ hexS c = some (c - 55)) ∨ ((c < 48 ∨ (57 < c ∧ c < 65) ∨ (70 < c ∧ c < 97) ∨ 102 < c) ∧ hexS c = none) := by
  unfold hexS
  by_cases h1 : 48 ≤ c ∧ c ≤ 57
  · rw [if_pos h1]; exact .inl ⟨h1.1, h1.2, rfl⟩
  · rw [if_neg h1]
    by_cases h2 : 97 ≤ c ∧ c ≤ 102
    · rw [if_pos h2]; exact .inr (.inl ⟨h2.1, h2.2, rfl⟩)
    · rw [if_neg h2]
      by_cases h3 : 65 ≤ c ∧ c ≤ 70
      · rw [if_pos h3]; exact .inr (.inr (.inl ⟨h3.1, h3.2, rfl⟩))
      · rw [if_neg h3]; exact .inr (.inr (.inr ⟨by omega, rfl⟩))
set_option maxHeartbeats 2000000 in
theorem hexDigit_any (rb : Nat) (s : ByteArray) (a q : Nat) (w : World) (hb : Rd w rb s a q) (ha : a ≤ s.size) (hs : s.size ≤ 140737488355328) :
    Calls Tryz.prog 119 #[.pointer (some ⟨rb, 0, none⟩)] w fun x w' => HexPost rb s a q w (hexS (pk s a)) x w' := by
  have HP := hid (peek_any rb s a q w hb ha)
  have HB := hid hb
  have hlt := pk_lt s a
  have hcs := hexS_cases (pk s a)
  clear hb
  generalize pk s a = c at *
  go_enter Tryz.func119, Tryz.ntmps119
  go_wp2_with fail
  refine HP.out.mono ?_
  rintro e w1 ⟨rfl, hb1⟩
  have HB1 := hid (HB.out.below hb1)
  have x1 := HB1.out.cell 1
  have f1 := HB1.out.frozen 1
  simp at x1
  have HS := hid (Rd.to HB1.out ((a : Int) + 1) (a + 1) (by omega))
  have HK := hid (((But.one w rb).trans (But.ofBelow hb1)).setAt 1 (.int .i64 ((a : Int) + 1)))
  have HK1 := hid ((But.one w rb).trans (But.ofBelow hb1))
  have hw1 : IntKind.i64.wrap ((a : Int) + 1) = (a : Int) + 1 := by rw [IntKind.wrap_i64]; omega
  clear HP HB hb1
  go_wp2_with fail
  refine (isDigit_any c w1).mono ?_
  rintro e w2 ⟨rfl, hw⟩
  subst w2
  rcases hcs with ⟨h1, h2, hx⟩ | ⟨h1, h2, hx⟩ | ⟨h1, h2, hx⟩ | ⟨h1, hx⟩
  · have hd : decide (48 ≤ c ∧ c ≤ 57) = true := by simp [h1, h2]
    have HX := hid hx
    simp only [hd]
    clear hx hd
    go_wp2
    go_ret
    exact ⟨fun h hh => ⟨by rw [HX.out] at hh; cases hh; exact congrArg (fun z : Int => Ending.returned (.int .u8 z)) (show (c : Int) - 48 = ((c - 48 : Nat) : Int) by omega), HS.out, HK.out⟩, fun hn => by rw [HX.out] at hn; cases hn⟩
  · have hd : decide (48 ≤ c ∧ c ≤ 57) = false := by simp; omega
    have HX := hid hx
    simp only [hd]
    clear hx hd
    go_wp2
    go_ret
    exact ⟨fun h hh => ⟨by rw [HX.out] at hh; cases hh; exact congrArg (fun z : Int => Ending.returned (.int .u8 z)) (show (c : Int) - 87 = ((c - 87 : Nat) : Int) by omega), HS.out, HK.out⟩, fun hn => by rw [HX.out] at hn; cases hn⟩
  · have hd : decide (48 ≤ c ∧ c ≤ 57) = false := by simp; omega
    have HX := hid hx
    simp only [hd]
    clear hx hd
    go_wp2
    go_ret
    exact ⟨fun h hh => ⟨by rw [HX.out] at hh; cases hh; exact congrArg (fun z : Int => Ending.returned (.int .u8 z)) (show (c : Int) - 55 = ((c - 55 : Nat) : Int) by omega), HS.out, HK.out⟩, fun hn => by rw [HX.out] at hn; cases hn⟩
  · have hd : decide (48 ≤ c ∧ c ≤ 57) = false := by simp; omega
    have HX := hid hx
    have HG := hid (fun W => giveUp_any a 28 W)
    simp only [hd]
    clear hx hd
    rcases h1 with h1 | ⟨h1, h2⟩ | ⟨h1, h2⟩ | h1
    all_goals
      go_wp2_with fail
      refine (HG.out _).mono ?_
      rintro e w2 ⟨rfl, hw⟩
      subst w2
      exact ⟨rfl, fun h hh => (by rw [HX.out] at hh; cases hh), fun _ => ⟨rfl, HK1.out⟩⟩
end Go.Proofs.YtoifpdnaeogdgabGreatDoor
