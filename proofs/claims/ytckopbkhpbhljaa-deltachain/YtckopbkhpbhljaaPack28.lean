import Derived.Test.YtckopbkhpbhljaaPack0
import Derived.Test.YtckopbkhpbhljaaPack1
namespace Go.Proofs.Ytckopbkhpbhljaa
open Go.RowKit
set_option maxRecDepth 8000

theorem szOk_any (w : World) (b : Nat) (l : Int) (hb : Box w b #[.int .i64 l] 95) :
    Calls Try.prog 28 #[.pointer (some ⟨b, 0, none⟩)] w fun e w' => e = .returned (.bool (decide (0 ≤ l))) ∧ w' = w := by
  have hc : w.cell? ⟨b, 0, none⟩ = some (.int .i64 l) := hb.cell 0
  go_enter Try.func28, Try.ntmps28
  go_wp2
  go_ret
  exact ⟨by simp, rfl⟩

theorem szAdd_pos (w : World) (b : Nat) (l n : Int) (hb : Box w b #[.int .i64 l] 95) (hl : 0 ≤ l) (hl2 : l ≤ 10000) (hn : 0 ≤ n) (hn2 : n ≤ 281474976710656) :
    Calls Try.prog 54 #[.pointer (some ⟨b, 0, none⟩), .int .i64 n] w fun e w' => e = .returned (.bool (decide (0 ≤ l - n))) ∧ Box w' b #[.int .i64 (l - n)] 95 ∧ But (fun k => k = b) w w' := by
  have hc : w.cell? ⟨b, 0, none⟩ = some (.int .i64 l) := hb.cell 0
  have hf : w.frozen? ⟨b, 0, none⟩ = false := hb.frozen 0
  have hlt := hb.lt
  have H1 : Hid (Box (w.setCell ⟨b, 0, none⟩ (.int .i64 (l - n))) b #[.int .i64 (l - n)] 95) := by
    have := hb.set 0 (.int .i64 (l - n)); unfold Hid; simpa using this
  have H2 : Hid (But (fun k => k = b) w (w.setCell ⟨b, 0, none⟩ (.int .i64 (l - n)))) := by
    unfold Hid; exact (But.refl (fun k => k = b) w).setCell (p := ⟨b, 0, none⟩) (fun _ => rfl) _
  clear hb
  go_enter Try.func54, Try.ntmps54
  go_wp2
  go_ret
  exact ⟨by simp, H1.out, H2.out⟩

theorem szAdd_neg (w : World) (b : Nat) (l n : Int) (hb : Box w b #[.int .i64 l] 95) (hl : l < 0) :
    Calls Try.prog 54 #[.pointer (some ⟨b, 0, none⟩), .int .i64 n] w fun e w' => e = .returned (.bool false) ∧ w' = w := by
  have hc : w.cell? ⟨b, 0, none⟩ = some (.int .i64 l) := hb.cell 0
  clear hb
  go_enter Try.func54, Try.ntmps54
  go_wp2
  go_ret
  exact ⟨by simp; assumption, rfl⟩

/-- what the count says of the parts below t: it was l ahead of them and is m behind them -/
structure Told (l m : Int) (total : Nat) : Prop where
  ok : 0 ≤ m → 0 ≤ l ∧ m = l - total
  le : m ≤ l
  low : -1000000000000000 ≤ m

set_option maxHeartbeats 1000000 in
theorem szValues_any (t : VT) : ∀ (w : World) (S : Nat → Prop) (b : Nat) (l : Int), VT.In w S t → ¬ S b → Box w b #[.int .i64 l] 95 → 0 ≤ l → l ≤ 10000 →
    Calls Try.prog 55 #[.pointer (some ⟨b, 0, none⟩), t.row] w fun e w' => e = .returned (.tuple #[]) ∧ ∃ m, Box w' b #[.int .i64 m] 95 ∧ Told l m t.total ∧ But (fun k => k = b) w w' := by
  induction t with
  | nil => intro w S b l hin; exact hin.elim
  | mk k i s n p c f ih =>
    intro w S b l hin hS hb hl hl2
    have hfit := hin.fit
    have hcc := hfit.nn
    simp only [VT.n] at hcc
    have HT : Hid (∀ j, VT.upto (.mk k i s n p c f) (j + 1) = VT.upto (.mk k i s n p c f) j + (f j).total) := fun j => VT.upto_succ _ j
    have HE : Hid ((VT.mk k i s n p c f).total = n + VT.upto (.mk k i s n p c f) n) := VT.total_upto _
    have HA := szAdd_pos w b l (n : Int) hb hl hl2 (by omega) (by omega)
    simp only [VT.row, VT.p, VT.n, VT.c]
    clear hb
    go_enter Try.func55, Try.ntmps55
    go_wp2_with (go_at_call 54; refine HA.mono ?_; rintro e w1 ⟨rfl, hb1, hk1⟩)
    have HI : Hid (VT.In w S (.mk k i s n p c f)) := hin
    clear hin hfit HA
    go_loopw [4] (fun x wr => ∃ j : Nat, j ≤ n ∧ x = .int .i64 j ∧ ∃ m : Int, Box wr b #[.int .i64 m] 95 ∧ Told l m (n + VT.upto (.mk k i s n p c f) j) ∧ But (fun k => k = b) w wr) (fun x _ => n - (intOf x).toNat)
    case atStart => exact ⟨0, Nat.zero_le _, rfl, l - n, hb1, ⟨fun h => ⟨hl, by simp [VT.upto]⟩, by omega, by omega⟩, hk1⟩
    case round =>
      obtain ⟨j, hj, rfl, m, hbm, htold, hkm⟩ := hrel
      clear hb1 hk1
      have HO := szOk_any wr b m hbm
      by_cases hlt : j < n
      · have hlt' : (j : Int) < (n : Int) := by omega
        by_cases hm : 0 ≤ m
        · have hd : decide (0 ≤ m) = true := decide_eq_true hm
          rw [hd] at HO
          obtain ⟨bb, o, hp, hSb, hbl, hat⟩ := HI.out.at_ (show 0 < (VT.mk k i s n p c f).n from by simp only [VT.n]; omega)
          simp only [VT.p] at hp
          subst hp
          have hne : bb ≠ b := fun e => hS (e ▸ hSb)
          have c3 := ((hat j hlt).kept (hkm.block bb hbl hne)).c3
          simp only [VT.item] at c3
          have HC : Hid (Calls Try.prog 55 #[.pointer (some ⟨b, 0, none⟩), (f j).row] wr fun e w' => e = .returned (.tuple #[]) ∧ ∃ m', Box w' b #[.int .i64 m'] 95 ∧ Told m m' (f j).total ∧ But (fun k => k = b) wr w') :=
            ih j wr S b m ((HI.out.sub hlt).but hkm (fun x hx _ e => hS (e ▸ hx))) hS hbm hm (by have := htold.le; omega)
          unfold VT.row at HC
          clear hat
          go_wp2_with (first | (go_at_call 28; refine HO.mono ?_; rintro e w2 ⟨rfl, rfl⟩) | (go_at_call 55; refine HC.out.mono ?_; rintro e w3 ⟨rfl, m', hb3, ht3, hk3⟩))
          go_roundw
          case rel =>
            have hu := HT.out j
            refine ⟨j + 1, by omega, by go_num, m', hb3, ⟨fun h => ?_, ?_, ?_⟩, hkm.trans hk3⟩
            · have a1 := ht3.ok h
              have a2 := htold.ok hm
              refine ⟨a2.1, ?_⟩
              rw [hu]; omega
            · have a1 := ht3.le
              have a2 := htold.le
              omega
            · exact ht3.low
          case measure => simp [intOf]; omega
        · have hd : decide (0 ≤ m) = false := decide_eq_false hm
          rw [hd] at HO
          go_wp2_with (go_at_call 28; refine HO.mono ?_; rintro e w2 ⟨rfl, rfl⟩)
          go_end0
          exact ⟨rfl, m, hbm, ⟨fun h => absurd h (by omega), htold.le, htold.low⟩, hkm⟩
      · obtain rfl : j = n := by omega
        go_wp2_with fail
        go_end0
        refine ⟨rfl, m, hbm, ?_, hkm⟩
        rw [HE.out]
        exact htold

end Go.Proofs.Ytckopbkhpbhljaa

namespace Go.Proofs.Ytckopbkhpbhljaa
open Go.RowKit
set_option maxRecDepth 8000

set_option maxHeartbeats 400000 in
theorem szValues_neg (w : World) (b : Nat) (l : Int) (p : Option Addr) (n c : Nat) (hn : n ≤ 140737488355328) (hb : Box w b #[.int .i64 l] 95) (hl : l < 0) :
    Calls Try.prog 55 #[.pointer (some ⟨b, 0, none⟩), .slice p n c] w fun e w' => e = .returned (.tuple #[]) ∧ w' = w := by
  have HA := szAdd_neg w b l (n : Int) hb hl
  have HO := szOk_any w b l hb
  have hd : decide (0 ≤ l) = false := decide_eq_false (by omega)
  rw [hd] at HO
  clear hb
  by_cases h0 : 0 < n
  · have h0' : (0 : Int) < (n : Int) := by omega
    go_enter Try.func55, Try.ntmps55
    go_wp2_with (go_at_call 54; refine HA.mono ?_; rintro e w1 ⟨rfl, rfl⟩)
    refine wp_loop_rounds 1 ?_
    rw [rounds_succ]
    go_wp2_with (go_at_call 28; refine HO.mono ?_; rintro e w2 ⟨rfl, rfl⟩)
    go_end0
    exact ⟨rfl, rfl⟩
  · obtain rfl : n = 0 := by omega
    go_enter Try.func55, Try.ntmps55
    go_wp2_with (go_at_call 54; refine HA.mono ?_; rintro e w1 ⟨rfl, rfl⟩)
    refine wp_loop_rounds 1 ?_
    rw [rounds_succ]
    go_wp2_with fail
    go_end0
    exact ⟨rfl, rfl⟩

def SzPost (b : Nat) (l : Int) (k : Nat) (w : World) (e : Ending) (w' : World) : Prop := e = .returned (.tuple #[]) ∧ ∃ m, Box w' b #[.int .i64 m] 95 ∧ Told l m k ∧ But (fun k => k = b) w w'

theorem szValues_all (t : VT) (w : World) (S : Nat → Prop) (b : Nat) (l : Int) (hin : VT.In w S t) (hS : ¬ S b) (hb : Box w b #[.int .i64 l] 95) (hl : -1000000000000000 ≤ l) (hl2 : l ≤ 10000) :
    Calls Try.prog 55 #[.pointer (some ⟨b, 0, none⟩), t.row] w fun e w' => SzPost b l t.total w e w' := by
  by_cases h : 0 ≤ l
  · exact szValues_any t w S b l hin hS hb h hl2
  · refine (szValues_neg w b l t.p t.n t.c hin.fit.nn hb (by omega)).mono fun e w' hp => ?_
    obtain ⟨rfl, rfl⟩ := hp
    exact ⟨rfl, l, hb, ⟨fun h2 => absurd h2 h, Int.le_refl _, hl⟩, But.refl _ _⟩

theorem Told.add {l l1 m : Int} {j k : Nat} (h : l1 = l - j) (hl : 0 ≤ l) (t : Told l1 m k) : Told l m (j + k) :=
  ⟨fun h0 => ⟨hl, by have := t.ok h0; omega⟩, by have := t.le; omega, t.low⟩

set_option maxHeartbeats 1000000 in
theorem szCells_any (s : ST) (w : World) (S : Nat → Prop) (b : Nat) (l : Int) (hin : ST.In w S s) (hS : ¬ S b) (hb : Box w b #[.int .i64 l] 95) (hl : 0 ≤ l) (hl2 : l ≤ 10000) :
    Calls Try.prog 29 #[.pointer (some ⟨b, 0, none⟩), .slice s.p s.n s.c] w fun e w' => SzPost b l s.total w e w' := by
  obtain ⟨num, p, n, c, f⟩ := s
  have hcc := hin.nn
  simp only at hcc ⊢
  have HT : Hid (∀ j, ST.upto ⟨num, p, n, c, f⟩ (j + 1) = ST.upto ⟨num, p, n, c, f⟩ j + (f j).total) := fun j => ST.upto_succ _ j
  have HE : Hid ((ST.mk num p n c f).total = n + ST.upto ⟨num, p, n, c, f⟩ n) := rfl
  have HA := szAdd_pos w b l (n : Int) hb hl hl2 (by omega) (by omega)
  clear hb
  go_enter Try.func29, Try.ntmps29
  go_wp2_with (go_at_call 54; refine HA.mono ?_; rintro e w1 ⟨rfl, hb1, hk1⟩)
  have HI : Hid (ST.In w S ⟨num, p, n, c, f⟩) := hin
  clear hin HA
  go_loopw [4] (fun x wr => ∃ j : Nat, j ≤ n ∧ x = .int .i64 j ∧ ∃ m : Int, Box wr b #[.int .i64 m] 95 ∧ Told l m (n + ST.upto ⟨num, p, n, c, f⟩ j) ∧ But (fun k => k = b) w wr) (fun x _ => n - (intOf x).toNat)
  case atStart => exact ⟨0, Nat.zero_le _, rfl, l - n, hb1, ⟨fun h => ⟨hl, by simp [ST.upto]⟩, by omega, by omega⟩, hk1⟩
  case round =>
    obtain ⟨j, hj, rfl, m, hbm, htold, hkm⟩ := hrel
    clear hb1 hk1
    have HO := szOk_any wr b m hbm
    by_cases hlt : j < n
    · have hlt' : (j : Int) < (n : Int) := by omega
      by_cases hm : 0 ≤ m
      · have hd : decide (0 ≤ m) = true := decide_eq_true hm
        rw [hd] at HO
        obtain ⟨bb, o, hp, hSb, hbl, hat⟩ := HI.out.at_ (show 0 < n by omega)
        simp only at hp
        subst hp
        have hne : bb ≠ b := fun e => hS (e ▸ hSb)
        have c3 := ((hat j hlt).kept (hkm.block bb hbl hne)).c1
        simp only at c3
        have HC : Hid (Calls Try.prog 55 #[.pointer (some ⟨b, 0, none⟩), (f j).row] wr fun e w' => SzPost b m (f j).total wr e w') :=
          szValues_all (f j) wr S b m ((HI.out.each j hlt).but hkm (fun x hx _ e => hS (e ▸ hx))) hS hbm (by omega) (by have := htold.le; omega)
        unfold VT.row at HC
        clear hat
        go_wp2_with (first | (go_at_call 28; refine HO.mono ?_; rintro e w2 ⟨rfl, rfl⟩) | (go_at_call 55; refine HC.out.mono ?_; rintro e w3 ⟨rfl, m', hb3, ht3, hk3⟩))
        go_roundw
        case rel =>
          have hu := HT.out j
          refine ⟨j + 1, by omega, by go_num, m', hb3, ⟨fun h => ?_, ?_, ?_⟩, hkm.trans hk3⟩
          · have a1 := ht3.ok h
            have a2 := htold.ok hm
            refine ⟨a2.1, ?_⟩
            rw [hu]; omega
          · have a1 := ht3.le
            have a2 := htold.le
            omega
          · exact ht3.low
        case measure => simp [intOf]; omega
      · have hd : decide (0 ≤ m) = false := decide_eq_false hm
        rw [hd] at HO
        go_wp2_with (go_at_call 28; refine HO.mono ?_; rintro e w2 ⟨rfl, rfl⟩)
        go_end0
        exact ⟨rfl, m, hbm, ⟨fun h => absurd h (by omega), htold.le, htold.low⟩, hkm⟩
    · obtain rfl : j = n := by omega
      go_wp2_with fail
      go_end0
      refine ⟨rfl, m, hbm, ?_, hkm⟩
      rw [HE.out]
      exact htold

theorem szNew_any (w' : World) : Calls Try.prog 27 #[] w' fun e w1 => e = .returned (.pointer (some ⟨w'.heap.size, 0, none⟩)) ∧ w1 = w'.alloc (.cells #[.int .i64 10000] 95) := by
  go_enter Try.func27, Try.ntmps27
  go_wp2
  go_ret
  exact ⟨rfl, rfl⟩

set_option maxHeartbeats 1000000 in
theorem sizesS_any (s : ST) (w : World) (S : Nat → Prop) (hin : ST.In w S s) (hS : ∀ b, S b → b < w.heap.size) (ab : Nat) (hab : Box w ab #[.int .i64 s.num, .slice s.p s.n s.c] 24) :
    Calls Try.prog 9 #[.slice (some ⟨ab, 0, none⟩) 1 1] w fun e w' => ∃ q, e = .returned (.bool q) ∧ (q = true → s.total ≤ 10000) ∧ Below w.heap.size w w' := by
  have hb0 : Below w.heap.size w (w.alloc (.cells #[.int .i64 10000] 95)) := (Below.refl _ _).alloc (Nat.le_refl _) _
  have HB0 : Hid (Below w.heap.size w (w.alloc (.cells #[.int .i64 10000] 95))) := hb0
  have HC := szCells_any s (w.alloc (.cells #[.int .i64 10000] 95)) S w.heap.size 10000 (hin.below hb0) (fun h => absurd (hS _ h) (by omega)) (Box.new _ _ _) (by omega) (by omega)
  have HO := szOk_any (w.alloc (.cells #[.int .i64 10000] 95)) w.heap.size 10000 (Box.new _ _ _)
  rw [show decide ((0 : Int) ≤ 10000) = true from rfl] at HO
  have hab1 := hab.below hb0
  have x0 := hab1.cell 0
  have x1 := hab1.cell 1
  have hal := hab.lt
  simp only [List.getElem?_toArray] at x0 x1
  simp at x0 x1
  clear hin hab hS hb0 hab1
  go_enter Try.func9, Try.ntmps9
  go_wp2_with (go_at_call 27; refine (szNew_any _).mono ?_; rintro e w1 ⟨rfl, rfl⟩)
  refine wp_loop_rounds 2 ?_
  rw [rounds_succ]
  go_wp2_with (go_at_call 28; refine HO.mono ?_; rintro e w2 ⟨rfl, rfl⟩)
  refine HC.mono ?_
  rintro e w2 ⟨rfl, m, hb2, ht2, hk2⟩
  go_wp2_with fail
  rw [rounds_succ]
  go_wp2_with fail
  have HO2 := szOk_any w2 _ m hb2
  refine HO2.mono ?_
  rintro e w3 ⟨rfl, rfl⟩
  go_wp2_with fail
  go_ret
  refine ⟨_, rfl, fun h => ?_, HB0.out.trans (hk2.below HB0.out.size fun k hk => by omega)⟩
  have h0 : 0 ≤ m := of_decide_eq_true h
  have := ht2.ok h0
  omega
end Go.Proofs.Ytckopbkhpbhljaa
