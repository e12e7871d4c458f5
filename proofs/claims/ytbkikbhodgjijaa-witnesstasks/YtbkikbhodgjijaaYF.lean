import Derived.Test.YtbkikbhodgjijaaYD
namespace Go.Proofs.Ytbkikbhodgjijaa
open Go.RowKit
set_option maxRecDepth 8000
set_option maxHeartbeats 4000000 in
/-- the reference's Can -/
theorem rcan_any (l : LT TR) (n : Int) (w : World) (S : Nat → Prop) (hl : LT.In elTr w S l) :
    Calls Try.prog 28 #[.slice l.p l.n l.c, .int .i64 n] w fun e w' => YesQ (CanL n l) w e w' := by
  have hnn := hl.nn
  have H := hid hl
  clear hl
  by_cases h1 : n < 1
  · go_enter Try.func28, Try.ntmps28
    go_wp2
    go_ret
    exact ⟨false, rfl, ⟨fun h => (by cases h), fun h => by have := h.1; omega⟩, Below.refl _ _⟩
  by_cases h2 : 12 < n
  · go_enter Try.func28, Try.ntmps28
    go_wp2
    go_ret
    exact ⟨false, rfl, ⟨fun h => (by cases h), fun h => by have := h.2.1; omega⟩, Below.refl _ _⟩
  have HN : Hid (1 ≤ n ∧ n ≤ 12) := ⟨by omega, by omega⟩
  go_enter Try.func28, Try.ntmps28
  go_wp2_with fail
  go_loopw [5] (fun x wr => ∃ k : Nat, k ≤ l.n ∧ x = .int .i64 (k : Int) ∧ (∀ q, q < k → Can n (l.item q)) ∧ Below w.heap.size w wr) (fun x _ => l.n - (intOf x).toNat)
  case atStart => exact ⟨0, Nat.zero_le _, rfl, fun q hq => absurd hq (by omega), Below.refl _ _⟩
  case round =>
    obtain ⟨k, hk, rfl, hno, hb⟩ := hrel
    have HNo := hid hno
    have HB := hid hb
    clear hno hb
    by_cases hlt : k < l.n
    · have hlt' : (k : Int) < (l.n : Int) := by omega
      obtain ⟨b1, o1, hp, _, hl1, ha⟩ := (H.out.below HB.out).tr (by omega)
      obtain ⟨a0, a1, a2, a3⟩ := ha k hlt
      have HE := fun w => hid (rentry_any (l.item k).kind (l.item k).task (l.item k).port (l.item k).id n w HN.out.1)
      rw [hp]
      clear ha hp
      go_wp2_with fail
      refine (HE _).out.mono ?_
      rintro e w2 ⟨b, rfl, hb, hb2⟩
      have HB2 : Hid (Below w.heap.size w w2) := HB.out.trans (hb2.mono HB.out.size)
      clear hb2
      cases b with
      | true =>
        have HC : Hid (Can n (l.item k)) := hb.1 rfl
        clear hb
        go_wp2
        go_roundw
        case rel =>
          refine ⟨k + 1, by omega, by go_num, fun q hq => ?_, HB2.out⟩
          by_cases hqk : q < k
          · exact HNo.out q hqk
          · obtain rfl : q = k := by omega
            exact HC.out
        case measure => simp [intOf]; omega
      | false =>
        have HC : Hid (¬ Can n (l.item k)) := fun h => by have := hb.2 h; cases this
        clear hb
        go_wp2
        go_ret
        exact ⟨false, rfl, ⟨fun h => (by cases h), fun h => (HC.out (h.2.2 k hlt)).elim⟩, HB2.out⟩
    · obtain rfl : k = l.n := by omega
      go_wp2
      go_ret
      exact ⟨true, rfl, ⟨fun _ => ⟨HN.out.1, HN.out.2, HNo.out⟩, fun _ => rfl⟩, HB.out⟩
end Go.Proofs.Ytbkikbhodgjijaa
