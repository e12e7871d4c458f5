import Derived.Test.YtbcnlfbclgkeiaaTree
namespace Go.Proofs.Ytbcnlfbclgkeiaa
open Go.RowKit
set_option maxRecDepth 8000

theorem szOk_any (w : World) (b : Nat) (l : Int) (hb : Box w b #[.int .i64 l] 104) :
    Calls Try.prog 28 #[.pointer (some ⟨b, 0, none⟩)] w fun e w' => e = .returned (.bool (decide (0 ≤ l))) ∧ w' = w := by
  have hc : w.cell? ⟨b, 0, none⟩ = some (.int .i64 l) := hb.cell 0
  go_enter Try.func28, Try.ntmps28
  go_wp2
  go_ret
  exact ⟨by simp, rfl⟩

theorem szAdd_pos (w : World) (b : Nat) (l n : Int) (hb : Box w b #[.int .i64 l] 104) (hl : 0 ≤ l) (hl2 : l ≤ 10000) (hn : 0 ≤ n) (hn2 : n ≤ 281474976710656) :
    Calls Try.prog 72 #[.pointer (some ⟨b, 0, none⟩), .int .i64 n] w fun e w' => e = .returned (.bool (decide (0 ≤ l - n))) ∧ Box w' b #[.int .i64 (l - n)] 104 ∧ But (fun k => k = b) w w' := by
  have hc : w.cell? ⟨b, 0, none⟩ = some (.int .i64 l) := hb.cell 0
  have hf : w.frozen? ⟨b, 0, none⟩ = false := hb.frozen 0
  have hlt := hb.lt
  have H1 : Hid (Box (w.setCell ⟨b, 0, none⟩ (.int .i64 (l - n))) b #[.int .i64 (l - n)] 104) := by
    have := hb.set 0 (.int .i64 (l - n)); unfold Hid; simpa using this
  have H2 : Hid (But (fun k => k = b) w (w.setCell ⟨b, 0, none⟩ (.int .i64 (l - n)))) := by
    unfold Hid; exact (But.refl (fun k => k = b) w).setCell (p := ⟨b, 0, none⟩) (fun _ => rfl) _
  clear hb
  go_enter Try.func72, Try.ntmps72
  go_wp2
  go_ret
  exact ⟨by simp, H1.out, H2.out⟩

theorem szAdd_neg (w : World) (b : Nat) (l n : Int) (hb : Box w b #[.int .i64 l] 104) (hl : l < 0) :
    Calls Try.prog 72 #[.pointer (some ⟨b, 0, none⟩), .int .i64 n] w fun e w' => e = .returned (.bool false) ∧ w' = w := by
  have hc : w.cell? ⟨b, 0, none⟩ = some (.int .i64 l) := hb.cell 0
  clear hb
  go_enter Try.func72, Try.ntmps72
  go_wp2
  go_ret
  exact ⟨by simp; assumption, rfl⟩

/-- what the count says of the parts below t: it was l ahead of them and is m behind them -/
structure Told (l m : Int) (total : Nat) : Prop where
  ok : 0 ≤ m → 0 ≤ l ∧ m = l - total
  le : m ≤ l
  low : -1000000000000000 ≤ m

set_option maxHeartbeats 1000000 in
theorem szValues_any (t : VT) : ∀ (w : World) (S : Nat → Prop) (b : Nat) (l : Int), VT.In w S t → ¬ S b → Box w b #[.int .i64 l] 104 → 0 ≤ l → l ≤ 10000 →
    Calls Try.prog 73 #[.pointer (some ⟨b, 0, none⟩), t.row] w fun e w' => e = .returned (.tuple #[]) ∧ ∃ m, Box w' b #[.int .i64 m] 104 ∧ Told l m t.total ∧ But (fun k => k = b) w w' := by
  induction t with
  | nil => intro w S b l hin; exact hin.elim
  | mk k i s n p c f ih =>
    intro w S b l hin hS hb hl hl2
    have hfit := hin.fit
    have hcc := hfit.nn
    simp only [VT.n] at hcc
    have HT : Hid (∀ j, VT.upto (.mk k i s n p c f) (j + 1) = VT.upto (.mk k i s n p c f) j + (f j).total) := fun j => VT.upto_succ _ j
    have HE : Hid ((VT.mk k i s n p c f).total = n + VT.upto (.mk k i s n p c f) n) := VT.total_upto _
    have HA := szAdd_pos w b l (n : Int) hb hl hl2 (by omega) (by omega)
    simp only [VT.row, VT.p, VT.n, VT.c]
    clear hb
    go_enter Try.func73, Try.ntmps73
    go_wp2_with (go_at_call 72; refine HA.mono ?_; rintro e w1 ⟨rfl, hb1, hk1⟩)
    have HI : Hid (VT.In w S (.mk k i s n p c f)) := hin
    clear hin hfit HA
    go_loopw [4] (fun x wr => ∃ j : Nat, j ≤ n ∧ x = .int .i64 j ∧ ∃ m : Int, Box wr b #[.int .i64 m] 104 ∧ Told l m (n + VT.upto (.mk k i s n p c f) j) ∧ But (fun k => k = b) w wr) (fun x _ => n - (intOf x).toNat)
    case atStart => exact ⟨0, Nat.zero_le _, rfl, l - n, hb1, ⟨fun h => ⟨hl, by simp [VT.upto]⟩, by omega, by omega⟩, hk1⟩
    case round =>
      obtain ⟨j, hj, rfl, m, hbm, htold, hkm⟩ := hrel
      clear hb1 hk1
      have HO := szOk_any wr b m hbm
      by_cases hlt : j < n
      · have hlt' : (j : Int) < (n : Int) := by omega
        by_cases hm : 0 ≤ m
        · have hd : decide (0 ≤ m) = true := decide_eq_true hm
          rw [hd] at HO
          obtain ⟨bb, o, hp, hSb, hbl, hat⟩ := HI.out.at_ (show 0 < (VT.mk k i s n p c f).n from by simp only [VT.n]; omega)
          simp only [VT.p] at hp
          subst hp
          have hne : bb ≠ b := fun e => hS (e ▸ hSb)
          have c3 := ((hat j hlt).kept (hkm.block bb hbl hne)).c3
          simp only [VT.item] at c3
          have HC : Hid (Calls Try.prog 73 #[.pointer (some ⟨b, 0, none⟩), (f j).row] wr fun e w' => e = .returned (.tuple #[]) ∧ ∃ m', Box w' b #[.int .i64 m'] 104 ∧ Told m m' (f j).total ∧ But (fun k => k = b) wr w') :=
            ih j wr S b m ((HI.out.sub hlt).but hkm (fun x hx _ e => hS (e ▸ hx))) hS hbm hm (by have := htold.le; omega)
          unfold VT.row at HC
          clear hat
          go_wp2_with (first | (go_at_call 28; refine HO.mono ?_; rintro e w2 ⟨rfl, rfl⟩) | (go_at_call 73; refine HC.out.mono ?_; rintro e w3 ⟨rfl, m', hb3, ht3, hk3⟩))
          go_roundw
          case rel =>
            have hu := HT.out j
            refine ⟨j + 1, by omega, by go_num, m', hb3, ⟨fun h => ?_, ?_, ?_⟩, hkm.trans hk3⟩
            · have a1 := ht3.ok h
              have a2 := htold.ok hm
              refine ⟨a2.1, ?_⟩
              rw [hu]; omega
            · have a1 := ht3.le
              have a2 := htold.le
              omega
            · exact ht3.low
          case measure => simp [intOf]; omega
        · have hd : decide (0 ≤ m) = false := decide_eq_false hm
          rw [hd] at HO
          go_wp2_with (go_at_call 28; refine HO.mono ?_; rintro e w2 ⟨rfl, rfl⟩)
          go_end0
          exact ⟨rfl, m, hbm, ⟨fun h => absurd h (by omega), htold.le, htold.low⟩, hkm⟩
      · obtain rfl : j = n := by omega
        go_wp2_with fail
        go_end0
        refine ⟨rfl, m, hbm, ?_, hkm⟩
        rw [HE.out]
        exact htold

end Go.Proofs.Ytbcnlfbclgkeiaa
