import Derived.Test.YtoifpdnaeogdgabDoorPack3
namespace Go.Proofs.YtoifpdnaeogdgabDoor
open Go.RowKit
set_option maxRecDepth 8000
/-- bytes in a row, in a block of S -/
structure Byts (w : World) (S : Nat → Prop) (p : Option Addr) (n c : Nat) (f : Nat → Int) : Prop where
  at_ : 0 < n → ∃ b o, p = some ⟨b, o, none⟩ ∧ S b ∧ b < w.heap.size ∧ ∀ j, j < n → w.cell? ⟨b, o + j, none⟩ = some (.int .u8 (f j))
  nc : n ≤ c
  nn : n ≤ 140737488355328
  cc : c ≤ maxLen
  fit : ∀ j, j < n → 0 ≤ f j ∧ f j < 256
  nil : p = none → n = 0 ∧ c = 0
theorem Byts.kept {w w' : World} {S : Nat → Prop} {p : Option Addr} {n c : Nat} {f : Nat → Int} (h : Byts w S p n c f) (hs : w.heap.size ≤ w'.heap.size) (hb : ∀ b, S b → b < w.heap.size → w'.heap[b]? = w.heap[b]?) : Byts w' S p n c f := by
  refine ⟨fun hn => ?_, h.nc, h.nn, h.cc, h.fit, h.nil⟩
  obtain ⟨b, o, e, hS, hl, ha⟩ := h.at_ hn
  exact ⟨b, o, e, hS, Nat.lt_of_lt_of_le hl hs, fun j hj => (World.cell?_of_block (a := ⟨b, o + j, none⟩) (hb b hS hl)).trans (ha j hj)⟩
theorem Byts.mono {w : World} {S S' : Nat → Prop} {p : Option Addr} {n c : Nat} {f : Nat → Int} (h : Byts w S p n c f) (hb : ∀ b, S b → b < w.heap.size → S' b) : Byts w S' p n c f := by
  refine ⟨fun hn => ?_, h.nc, h.nn, h.cc, h.fit, h.nil⟩
  obtain ⟨b, o, e, hS, hl, ha⟩ := h.at_ hn
  exact ⟨b, o, e, hb b hS hl, hl, ha⟩
theorem Byts.src {w : World} {S : Nat → Prop} {p : Option Addr} {n c : Nat} {f : Nat → Int} (h : Byts w S p n c f) : Src w p n c 1 ((List.range n).map fun j => .int .u8 (f j)) := by
  cases p with
  | none => obtain ⟨rfl, rfl⟩ := h.nil rfl; exact .inl ⟨rfl, rfl, rfl, rfl⟩
  | some ad =>
    refine .inr ⟨ad, rfl, by simp, fun j u hu => ?_⟩
    by_cases hj : j < n
    · obtain ⟨b, o, e, _, _, ha⟩ := h.at_ (by omega)
      cases e
      rw [Go.WideShapes.add_plain, ha j hj]
      simp [List.getElem?_range hj] at hu
      rw [hu]
    · simp [List.getElem?_eq_none (show ((List.range n).map fun j => Value.int .u8 (f j)).length ≤ j by simp; omega)] at hu
theorem oneCell_byts (n : Nat) (f : Nat → Int) : ∀ u ∈ ((List.range n).map fun j => Value.int .u8 (f j)), u.oneCell' = true := by
  intro u hu
  obtain ⟨j, _, rfl⟩ := List.mem_map.1 hu
  rfl
end Go.Proofs.YtoifpdnaeogdgabDoor

namespace Go.Proofs.YtoifpdnaeogdgabDoor
open Go.RowKit
set_option maxRecDepth 8000

/-- what a reading function panics with -/
def faultV (a e : Int) : Value := .iface 46 (.agg #[.int .i64 a, .int .i64 e])
def Fails (e : Int) (x : Ending) : Prop := ∃ a : Int, x = .panicked [{ v := faultV a e, recovered := false }]

set_option maxHeartbeats 1000000 in
theorem giveUp_any (a e : Int) (w : World) : Calls Tryd.prog 27 #[.int .i64 a, .int .i64 e] w fun x w' => x = .panicked [{ v := faultV a e, recovered := false }] ∧ w' = w := by
  unfold faultV
  go_enter Tryd.func27, Tryd.ntmps27
  go_wp2
  exact ⟨rfl, rfl, rfl⟩
/-- the piece of a list from a place on -/
def from_ (p : Option Addr) (k : Nat) : Option Addr := p.map fun a => a.add k

end Go.Proofs.YtoifpdnaeogdgabDoor

namespace Go.Proofs.YtoifpdnaeogdgabDoor
open Go.RowKit
set_option maxRecDepth 8000

/-- the byte at a place of a text; behind its end 0 -/
def pk (s : ByteArray) (a : Nat) : Nat := ((s.data[a]?).map UInt8.toNat).getD 0
theorem pk_lt (s : ByteArray) (a : Nat) : pk s a < 256 := by
  unfold pk
  cases s.data[a]? with
  | none => simp
  | some x => simpa using x.toNat_lt
/-- the reader's box -/
abbrev Rd (w : World) (rb : Nat) (s : ByteArray) (a q : Nat) : Prop := Box w rb #[.string s, .int .i64 a, .int .i64 q] 49

/-- the reader's place moves on -/
theorem Rd.to {w : World} {rb : Nat} {s : ByteArray} {a q : Nat} (h : Rd w rb s a q) (z : Int) (b : Nat) (hz : z = (b : Int)) : Rd (w.setCell ⟨rb, 1, none⟩ (.int .i64 z)) rb s b q := by
  subst hz
  have h2 := Box.set h 1 (.int .i64 (b : Int))
  simp at h2
  exact h2
theorem Rd.parts {w : World} {rb : Nat} {s : ByteArray} {a q : Nat} (h : Rd w rb s a q) (z : Int) (b : Nat) (hz : z = (b : Int)) : Rd (w.setCell ⟨rb, 2, none⟩ (.int .i64 z)) rb s a b := by
  subst hz
  have h2 := Box.set h 2 (.int .i64 (b : Int))
  simp at h2
  exact h2

set_option maxHeartbeats 1000000 in
theorem peek_any (rb : Nat) (s : ByteArray) (a q : Nat) (w : World) (hb : Rd w rb s a q) (ha : a ≤ s.size) :
    Calls Tryd.prog 25 #[.pointer (some ⟨rb, 0, none⟩)] w fun x w' => x = .returned (.int .u8 (pk s a)) ∧ Below w.heap.size w w' := by
  have x0 := hb.cell 0
  have x1 := hb.cell 1
  simp at x0 x1
  clear hb
  by_cases h : a = s.size
  · have hp : pk s a = 0 := by unfold pk; rw [Array.getElem?_eq_none (by rw [h]; exact Nat.le_refl _)]; rfl
    have hi : ((a : Int) = (s.size : Int)) := by omega
    rw [hp]
    clear hp h
    go_enter Tryd.func25, Tryd.ntmps25
    go_wp2_with fail
    go_region
    go_wp2
    go_ret
    exact ⟨rfl, (Below.refl _ _).drew⟩
  · have hi : ¬ ((a : Int) = (s.size : Int)) := by omega
    have hlt : a < s.size := by omega
    have HP : Hid (((s[a]'hlt).toNat : Int) = (pk s a : Int)) := by
      unfold Hid pk
      rw [Array.getElem?_eq_getElem (show a < s.data.size from hlt)]
      rfl
    go_enter Tryd.func25, Tryd.ntmps25
    go_wp2_with fail
    go_region
    go_wp2_with fail
    go_region
    go_wp2
    go_ret
    exact ⟨congrArg (fun z : Int => Ending.returned (.int .u8 z)) HP.out, (Below.refl _ _).drew.drew⟩
set_option maxHeartbeats 1000000 in
theorem isDigit_any (c : Nat) (w : World) : Calls Tryd.prog 41 #[.int .u8 c] w fun x w' => x = .returned (.bool (decide (48 ≤ c ∧ c ≤ 57))) ∧ w' = w := by
  by_cases h1 : 48 ≤ c
  · have h1' : (48 : Int) ≤ (c : Int) := by omega
    by_cases h2 : c ≤ 57
    · have h2' : (c : Int) ≤ 57 := by omega
      have h : decide (48 ≤ c ∧ c ≤ 57) = true := by simp [h1, h2]
      rw [h]
      go_enter Tryd.func41, Tryd.ntmps41
      go_wp2
      go_ret
      exact ⟨rfl, rfl⟩
    · have h2' : ¬ (c : Int) ≤ 57 := by omega
      have h : decide (48 ≤ c ∧ c ≤ 57) = false := by simp [h2]
      rw [h]
      go_enter Tryd.func41, Tryd.ntmps41
      go_wp2
      go_ret
      exact ⟨rfl, rfl⟩
  · have h1' : ¬ (48 : Int) ≤ (c : Int) := by omega
    have h : decide (48 ≤ c ∧ c ≤ 57) = false := by simp [h1]
    rw [h]
    go_enter Tryd.func41, Tryd.ntmps41
    go_wp2
    go_ret
    exact ⟨rfl, rfl⟩

/-- a place at which reading fails, and how -/
def FailsAt (a e : Nat) (x : Ending) : Prop := x = .panicked [{ v := faultV (a : Int) (e : Int), recovered := false }]
/-- what a digit of sixteen is worth -/
def hexS (c : Nat) : Option Nat := if 48 ≤ c ∧ c ≤ 57 then some (c - 48) else if 97 ≤ c ∧ c ≤ 102 then some (c - 87) else if 65 ≤ c ∧ c ≤ 70 then some (c - 55) else none
def HexPost (rb : Nat) (s : ByteArray) (a q : Nat) (w : World) (r : Option Nat) (x : Ending) (w' : World) : Prop :=
  (∀ h, r = some h → x = .returned (.int .u8 h) ∧ Rd w' rb s (a + 1) q ∧ But (fun y => y = rb) w w') ∧ (r = none → FailsAt a 28 x ∧ But (fun y => y = rb) w w')

theorem hexS_cases (c : Nat) : (48 ≤ c ∧ c ≤ 57 ∧ hexS c = some (c - 48)) ∨ (97 ≤ c ∧ c ≤ 102 ∧ hexS c = some (c - 87)) ∨ (65 ≤ c ∧ c ≤ 70 ∧ hexS c = some (c - 55)) ∨ ((c < 48 ∨ (57 < c ∧ c < 65) ∨ (70 < c ∧ c < 97) ∨ 102 < c) ∧ hexS c = none) := by
  unfold hexS
  by_cases h1 : 48 ≤ c ∧ c ≤ 57
  · rw [if_pos h1]; exact .inl ⟨h1.1, h1.2, rfl⟩
  · rw [if_neg h1]
    by_cases h2 : 97 ≤ c ∧ c ≤ 102
    · rw [if_pos h2]; exact .inr (.inl ⟨h2.1, h2.2, rfl⟩)
    · rw [if_neg h2]
      by_cases h3 : 65 ≤ c ∧ c ≤ 70
      · rw [if_pos h3]; exact .inr (.inr (.inl ⟨h3.1, h3.2, rfl⟩))
      · rw [if_neg h3]; exact .inr (.inr (.inr ⟨by omega, rfl⟩))
set_option maxHeartbeats 2000000 in
theorem hexDigit_any (rb : Nat) (s : ByteArray) (a q : Nat) (w : World) (hb : Rd w rb s a q) (ha : a ≤ s.size) (hs : s.size ≤ 140737488355328) :
    Calls Tryd.prog 52 #[.pointer (some ⟨rb, 0, none⟩)] w fun x w' => HexPost rb s a q w (hexS (pk s a)) x w' := by
  have HP := hid (peek_any rb s a q w hb ha)
  have HB := hid hb
  have hlt := pk_lt s a
  have hcs := hexS_cases (pk s a)
  clear hb
  generalize pk s a = c at *
  go_enter Tryd.func52, Tryd.ntmps52
  go_wp2_with fail
  refine HP.out.mono ?_
  rintro e w1 ⟨rfl, hb1⟩
  have HB1 := hid (HB.out.below hb1)
  have x1 := HB1.out.cell 1
  have f1 := HB1.out.frozen 1
  simp at x1
  have HS := hid (Rd.to HB1.out ((a : Int) + 1) (a + 1) (by omega))
  have HK := hid (((But.one w rb).trans (But.ofBelow hb1)).setAt 1 (.int .i64 ((a : Int) + 1)))
  have HK1 := hid ((But.one w rb).trans (But.ofBelow hb1))
  have hw1 : IntKind.i64.wrap ((a : Int) + 1) = (a : Int) + 1 := by rw [IntKind.wrap_i64]; omega
  clear HP HB hb1
  go_wp2_with fail
  refine (isDigit_any c w1).mono ?_
  rintro e w2 ⟨rfl, hw⟩
  subst w2
  rcases hcs with ⟨h1, h2, hx⟩ | ⟨h1, h2, hx⟩ | ⟨h1, h2, hx⟩ | ⟨h1, hx⟩
  · have hd : decide (48 ≤ c ∧ c ≤ 57) = true := by simp [h1, h2]
    have HX := hid hx
    simp only [hd]
    clear hx hd
    go_wp2
    go_ret
    exact ⟨fun h hh => ⟨by rw [HX.out] at hh; cases hh; exact congrArg (fun z : Int => Ending.returned (.int .u8 z)) (show (c : Int) - 48 = ((c - 48 : Nat) : Int) by omega), HS.out, HK.out⟩, fun hn => by rw [HX.out] at hn; cases hn⟩
  · have hd : decide (48 ≤ c ∧ c ≤ 57) = false := by simp; omega
    have HX := hid hx
    simp only [hd]
    clear hx hd
    go_wp2
    go_ret
    exact ⟨fun h hh => ⟨by rw [HX.out] at hh; cases hh; exact congrArg (fun z : Int => Ending.returned (.int .u8 z)) (show (c : Int) - 87 = ((c - 87 : Nat) : Int) by omega), HS.out, HK.out⟩, fun hn => by rw [HX.out] at hn; cases hn⟩
  · have hd : decide (48 ≤ c ∧ c ≤ 57) = false := by simp; omega
    have HX := hid hx
    simp only [hd]
    clear hx hd
    go_wp2
    go_ret
    exact ⟨fun h hh => ⟨by rw [HX.out] at hh; cases hh; exact congrArg (fun z : Int => Ending.returned (.int .u8 z)) (show (c : Int) - 55 = ((c - 55 : Nat) : Int) by omega), HS.out, HK.out⟩, fun hn => by rw [HX.out] at hn; cases hn⟩
  · have hd : decide (48 ≤ c ∧ c ≤ 57) = false := by simp; omega
    have HX := hid hx
    have HG := hid (fun W => giveUp_any a 28 W)
    simp only [hd]
    clear hx hd
    rcases h1 with h1 | ⟨h1, h2⟩ | ⟨h1, h2⟩ | h1
    all_goals
      go_wp2_with fail
      refine (HG.out _).mono ?_
      rintro e w2 ⟨rfl, hw⟩
      subst w2
      exact ⟨rfl, fun h hh => (by rw [HX.out] at hh; cases hh), fun _ => ⟨rfl, HK1.out⟩⟩
end Go.Proofs.YtoifpdnaeogdgabDoor
