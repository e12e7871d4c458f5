import Derived.Test.YtoifpdnaeogdgabDoorPack7
import Derived.Test.YtoifpdnaeogdgabDoorPack6
import Derived.Test.YtoifpdnaeogdgabDoorShelf
import Derived.Deep.RegionHeld
namespace Go.Proofs.YtoifpdnaeogdgabDoor
open Go.RowKit
set_option maxRecDepth 8000

theorem pk_pos {s : ByteArray} {a : Nat} (h : pk s a ≠ 0) : a < s.size := by
  rcases Nat.lt_or_ge a s.size with h1 | h1
  · exact h1
  · refine absurd ?_ h
    unfold pk
    rw [Array.getElem?_eq_none (show s.data.size ≤ a from h1)]
    rfl
theorem hexS_some {c h : Nat} (e : hexS c = some h) : c ≠ 0 ∧ h < 16 := by
  unfold hexS at e
  split at e
  · cases e; omega
  · split at e
    · cases e; omega
    · split at e
      · cases e; omega
      · cases e
theorem hex_or : ∀ h, h < 16 → ∀ l, l < 16 → bits BinOp.or IntKind.u8 ((h : Nat) * 16 : Int) ((l : Nat) : Int) = ((h * 16 + l : Nat) : Int) := by decide +kernel
/-- what a reading function does: what it reads and where it stands then, or the place and the number of its error -/
def RdPost {β : Type} (rb : Nat) (s : ByteArray) (q : Nat) (w : World) (r : Except (Nat × Nat) (β × Nat)) (V : β → Value) (x : Ending) (w' : World) : Prop :=
  (∀ b a', r = .ok (b, a') → x = .returned (V b) ∧ Rd w' rb s a' q ∧ But (fun y => y = rb) w w') ∧ (∀ p e, r = .error (p, e) → FailsAt p e x ∧ But (fun y => y = rb) w w')
theorem RdPost.ok {β : Type} {rb : Nat} {s : ByteArray} {q : Nat} {w : World} {r : Except (Nat × Nat) (β × Nat)} {V : β → Value} {x : Ending} {w' : World} {b : β} {a' : Nat} (h : r = .ok (b, a')) (hx : x = .returned (V b)) (hr : Rd w' rb s a' q) (hk : But (fun y => y = rb) w w') : RdPost rb s q w r V x w' := by
  subst h
  exact ⟨fun b2 a2 e => (by cases e; exact ⟨hx, hr, hk⟩), fun p e2 e => (by cases e)⟩
theorem RdPost.err {β : Type} {rb : Nat} {s : ByteArray} {q : Nat} {w : World} {r : Except (Nat × Nat) (β × Nat)} {V : β → Value} {x : Ending} {w' : World} {p e : Nat} (h : r = .error (p, e)) (hx : FailsAt p e x) (hk : But (fun y => y = rb) w w') : RdPost rb s q w r V x w' := by
  subst h
  exact ⟨fun b2 a2 e => (by cases e), fun p e2 e => (by cases e; exact ⟨hx, hk⟩)⟩

/-- what stands for a byte behind a backslash (the backslash is at a) -/
def escS (s : ByteArray) (a : Nat) : Except (Nat × Nat) (Nat × Nat) :=
  if pk s (a + 1) = 34 ∨ pk s (a + 1) = 92 then .ok (pk s (a + 1), a + 2)
  else if pk s (a + 1) = 110 then .ok (10, a + 2)
  else if pk s (a + 1) = 116 then .ok (9, a + 2)
  else if pk s (a + 1) = 120 then (match hexS (pk s (a + 2)) with
    | none => .error (a + 2, 28)
    | some h => match hexS (pk s (a + 3)) with
      | none => .error (a + 3, 28)
      | some l => .ok (h * 16 + l, a + 4))
  else .error (a + 1, 28)

set_option maxHeartbeats 4000000 in
theorem escaped_any (rb : Nat) (s : ByteArray) (a q : Nat) (w : World) (hb : Rd w rb s a q) (ha : a < s.size) (hs : s.size ≤ 140737488355328) :
    Calls Tryd.prog 38 #[.pointer (some ⟨rb, 0, none⟩)] w fun x w' => RdPost rb s q w (escS s a) (fun b => .int .u8 (b : Nat)) x w' := by
  have x1 := hb.cell 1
  have f1 := hb.frozen 1
  simp at x1
  have hw1 : IntKind.i64.wrap ((a : Int) + 1) = (a : Int) + 1 := by rw [IntKind.wrap_i64]; omega
  have hw2 : IntKind.i64.wrap ((a : Int) + 1 + 1) = (a : Int) + 1 + 1 := by rw [IntKind.wrap_i64]; omega
  have HB1 := hid (Rd.to hb ((a : Int) + 1) (a + 1) (by omega))
  have HK1 := hid ((But.one w rb).setAt 1 (.int .i64 ((a : Int) + 1)))
  have HP := hid (peek_any rb s (a + 1) q _ HB1.out (by omega))
  clear hb
  go_enter Tryd.func38, Tryd.ntmps38
  go_wp2_with fail
  refine HP.out.mono ?_
  rintro e w1 ⟨rfl, hb1⟩
  have HB2 := hid (Box.below HB1.out hb1)
  have HK2 := hid (HK1.out.trans (But.ofBelow hb1))
  have y1 := HB2.out.cell 1
  have g1 := HB2.out.frozen 1
  simp at y1
  have HB3 := hid (Rd.to HB2.out ((a : Int) + 1 + 1) (a + 2) (by omega))
  have HK3 := hid (HK2.out.setAt 1 (.int .i64 ((a : Int) + 1 + 1)))
  clear HP HB1 HK1 hb1 x1 f1
  have HE : Hid (escS s a = escS s a) := rfl
  have HE2 : Hid (∀ n, pk s (a + 1) = n → escS s a = if n = 34 ∨ n = 92 then .ok (n, a + 2) else if n = 110 then .ok (10, a + 2) else if n = 116 then .ok (9, a + 2) else if n = 120 then (match hexS (pk s (a + 2)) with
    | none => .error (a + 2, 28)
    | some h => match hexS (pk s (a + 3)) with
      | none => .error (a + 3, 28)
      | some l => .ok (h * 16 + l, a + 4)) else .error (a + 1, 28)) := fun n hn => by subst hn; rfl
  clear HE
  have hpos : pk s (a + 1) = 120 → a + 2 ≤ s.size := fun h => pk_pos (s := s) (a := a + 1) (by omega)
  obtain ⟨c, hc⟩ : ∃ c, pk s (a + 1) = c := ⟨_, rfl⟩
  have HE := hid (HE2.out c hc)
  have HH := hid (hc ▸ hpos)
  rw [hc]
  clear HE2 hc hpos
  by_cases c34 : c = 34
  · subst c34
    go_wp2
    go_ret
    exact RdPost.ok HE.out rfl HB3.out HK3.out
  by_cases c92 : c = 92
  · subst c92
    go_wp2
    go_ret
    exact RdPost.ok HE.out rfl HB3.out HK3.out
  by_cases c110 : c = 110
  · subst c110
    go_wp2
    go_ret
    exact RdPost.ok HE.out rfl HB3.out HK3.out
  by_cases c116 : c = 116
  · subst c116
    go_wp2
    go_ret
    exact RdPost.ok HE.out rfl HB3.out HK3.out
  by_cases c120 : c = 120
  · subst c120
    have hsz := HH.out rfl
    have HD := hid (hexDigit_any rb s (a + 2) q _ HB3.out hsz hs)
    have HE' : Hid (escS s a = match hexS (pk s (a + 2)) with
      | none => .error (a + 2, 28)
      | some h => match hexS (pk s (a + 3)) with
        | none => .error (a + 3, 28)
        | some l => .ok (h * 16 + l, a + 4)) := HE.out
    clear HE HH
    have hpos : ∀ h, hexS (pk s (a + 2)) = some h → a + 3 ≤ s.size := fun h hh => pk_pos (s := s) (a := a + 2) (hexS_some hh).1
    go_wp2_with fail
    refine HD.out.mono ?_
    rintro e w2 ⟨hok, hbad⟩
    clear HD
    cases hx : hexS (pk s (a + 2)) with
    | none =>
      obtain ⟨he, hk⟩ := hbad hx
      have HX : Hid (escS s a = .error (a + 2, 28)) := by unfold Hid; rw [HE'.out, hx]
      unfold FailsAt at he
      subst he
      exact ⟨rfl, RdPost.err HX.out rfl (HK3.out.trans hk)⟩
    | some h =>
      obtain ⟨he, hr, hk⟩ := hok h hx
      have hsz3 := hpos h hx
      have hh16 := (hexS_some hx).2
      have HD2 := hid (hexDigit_any rb s (a + 3) q _ hr hsz3 hs)
      have HK4 := hid (HK3.out.trans hk)
      have HE2 : Hid (escS s a = match hexS (pk s (a + 3)) with
        | none => .error (a + 3, 28)
        | some l => .ok (h * 16 + l, a + 4)) := by unfold Hid; rw [HE'.out, hx]
      subst he
      clear hok hbad hx hr hk HE' hpos
      go_wp2_with fail
      refine HD2.out.mono ?_
      rintro e w3 ⟨hok, hbad⟩
      clear HD2
      cases hx : hexS (pk s (a + 3)) with
      | none =>
        obtain ⟨he, hk⟩ := hbad hx
        have HX : Hid (escS s a = .error (a + 3, 28)) := by unfold Hid; rw [HE2.out, hx]
        unfold FailsAt at he
        subst he
        exact ⟨rfl, RdPost.err HX.out rfl (HK4.out.trans hk)⟩
      | some l =>
        obtain ⟨he, hr, hk⟩ := hok l hx
        have HX : Hid (escS s a = .ok (h * 16 + l, a + 4)) := by unfold Hid; rw [HE2.out, hx]
        have hl16 := (hexS_some hx).2
        have HR := hid hr
        have HK5 := hid (HK4.out.trans hk)
        subst he
        clear hok hbad hx hr hk HE2
        go_wp2
        go_ret
        exact RdPost.ok HX.out (congrArg (fun z : Int => Ending.returned (.int .u8 z)) (hex_or h hh16 l hl16)) HR.out HK5.out
  · have e1 : ((c : Int) == 34) = false := by simp; omega
    have e2 : ((c : Int) == 92) = false := by simp; omega
    have e3 : ((c : Int) == 110) = false := by simp; omega
    have e4 : ((c : Int) == 116) = false := by simp; omega
    have e5 : ((c : Int) == 120) = false := by simp; omega
    have HX : Hid (escS s a = .error (a + 1, 28)) := by
      unfold Hid
      rw [HE.out, if_neg (by omega), if_neg (by omega), if_neg (by omega), if_neg (by omega)]
    have HG := hid (fun W => giveUp_any ((a : Int) + 1) 28 W)
    go_wp2_with fail
    refine (HG.out _).mono ?_
    rintro e w2 ⟨rfl, hw⟩
    subst w2
    exact ⟨rfl, RdPost.err HX.out rfl HK2.out⟩

end Go.Proofs.YtoifpdnaeogdgabDoor

namespace Go.Proofs.YtoifpdnaeogdgabDoor
open Go.RowKit
set_option maxRecDepth 8000

/-- is there no rune at this place? -/
def badR (s : ByteArray) (a : Nat) : Prop := (Utf8.decode s a).1 = 65533 ∧ (Utf8.decode s a).2 = 1
instance (s : ByteArray) (a : Nat) : Decidable (badR s a) := by unfold badR; infer_instance

def WidPost (bad : Prop) (a D : Nat) (x : Ending) : Prop := (bad → FailsAt a 28 x) ∧ (¬ bad → x = .returned (.int .i64 (D : Nat)))

set_option maxHeartbeats 2000000 in
theorem width_any (rb : Nat) (s : ByteArray) (a q : Nat) (w : World) (hb : Rd w rb s a q) (ha : a < s.size) (hT : Tabs w.heap.size w) :
    Calls Tryd.prog 39 #[.pointer (some ⟨rb, 0, none⟩)] w fun x w' => WidPost (badR s a) a (Utf8.decode s a).2 x ∧ Below w.heap.size w w' := by
  have x0 := hb.cell 0
  have x1 := hb.cell 1
  simp at x0 x1
  have HB := hid hb
  have hdg := decGo s a ha
  have HD : Hid (∀ W, Below w.heap.size w W → Calls Tryd.prog 48 #[.string (s.extract a s.size)] W fun e w' => e = .returned (.tuple #[.int .i32 (Utf8.decode s a).1, .int .i64 (Utf8.decode s a).2]) ∧ Below W.heap.size W w') := fun W hW => by
    have h := Tryd.utf8_DecodeRuneInString (s.extract a s.size) W (hT.utf W hW)
    rw [hdg] at h
    exact h
  clear hb hdg hT
  have hle : (a : Int) ≤ (s.size : Int) := by omega
  unfold badR
  generalize (Utf8.decode s a).1 = R at *
  generalize (Utf8.decode s a).2 = D at *
  go_enter Tryd.func39, Tryd.ntmps39
  go_wp2_with fail
  go_region_held (fun W => W.cell? ⟨rb, 0, none⟩ = some (.string s) ∧ W.cell? ⟨rb, 1, none⟩ = some (.int .i64 a)) (go_keep)
    ((go_at_call 48; refine (HD.out _ (Below.refl _ _).drew).mono ?_; rintro e w1 ⟨rfl, hb1'⟩; have hb1 : Below w.heap.size w w1 := (Below.refl _ _).drew.trans hb1'; have y0 := (HB.out.below hb1).cell 0; have y1 := (HB.out.below hb1).cell 1; simp at y0 y1))
  have HG := hid (fun W => giveUp_any (a : Int) 28 W)
  clear HD HB x0 x1 hb1'
  by_cases hR : R = 65533
  · subst hR
    by_cases hD : D = 1
    · subst hD
      go_wp2_with fail
      refine (HG.out _).mono ?_
      rintro e w2 ⟨rfl, hw⟩
      subst w2
      exact ⟨rfl, ⟨fun _ => rfl, fun h => absurd ⟨rfl, rfl⟩ h⟩, hb1⟩
    · have e1 : ((D : Int) == 1) = false := by simp; omega
      go_wp2
      go_ret
      exact ⟨⟨fun h => False.elim h, fun _ => rfl⟩, hb1⟩
  · have e1 : ((R : Int) == 65533) = false := by simp; omega
    go_wp2
    go_ret
    exact ⟨⟨fun h => absurd h.1 hR, fun _ => rfl⟩, hb1⟩
end Go.Proofs.YtoifpdnaeogdgabDoor

namespace Go.Proofs.YtoifpdnaeogdgabDoor
open Go.RowKit
set_option maxRecDepth 8000

end Go.Proofs.YtoifpdnaeogdgabDoor
