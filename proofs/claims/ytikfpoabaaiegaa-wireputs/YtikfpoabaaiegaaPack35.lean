import Derived.Test.YtikfpoabaaiegaaPack0
import Derived.Test.YtikfpoabaaiegaaPack1
import Derived.Test.YtikfpoabaaiegaaPack22
namespace Go.Proofs.Ytikfpoabaaiegaa
open Go.RowKit
set_option maxRecDepth 8000

theorem szOk_any (w : World) (b : Nat) (l : Int) (hb : Box w b #[.int .i64 l] 159) :
    Calls Try.prog 43 #[.pointer (some ⟨b, 0, none⟩)] w fun e w' => e = .returned (.bool (decide (0 ≤ l))) ∧ w' = w := by
  have hc : w.cell? ⟨b, 0, none⟩ = some (.int .i64 l) := hb.cell 0
  go_enter Try.func43, Try.ntmps43
  go_wp2
  go_ret
  exact ⟨by simp, rfl⟩

theorem szAdd_pos (w : World) (b : Nat) (l n : Int) (hb : Box w b #[.int .i64 l] 159) (hl : 0 ≤ l) (hl2 : l ≤ 10000) (hn : 0 ≤ n) (hn2 : n ≤ 281474976710656) :
    Calls Try.prog 87 #[.pointer (some ⟨b, 0, none⟩), .int .i64 n] w fun e w' => e = .returned (.bool (decide (0 ≤ l - n))) ∧ Box w' b #[.int .i64 (l - n)] 159 ∧ But (fun k => k = b) w w' := by
  have hc : w.cell? ⟨b, 0, none⟩ = some (.int .i64 l) := hb.cell 0
  have hf : w.frozen? ⟨b, 0, none⟩ = false := hb.frozen 0
  have hlt := hb.lt
  have H1 : Hid (Box (w.setCell ⟨b, 0, none⟩ (.int .i64 (l - n))) b #[.int .i64 (l - n)] 159) := by
    have := hb.set 0 (.int .i64 (l - n)); unfold Hid; simpa using this
  have H2 : Hid (But (fun k => k = b) w (w.setCell ⟨b, 0, none⟩ (.int .i64 (l - n)))) := by
    unfold Hid; exact (But.refl (fun k => k = b) w).setCell (p := ⟨b, 0, none⟩) (fun _ => rfl) _
  clear hb
  go_enter Try.func87, Try.ntmps87
  go_wp2
  go_ret
  exact ⟨by simp, H1.out, H2.out⟩

theorem szAdd_neg (w : World) (b : Nat) (l n : Int) (hb : Box w b #[.int .i64 l] 159) (hl : l < 0) :
    Calls Try.prog 87 #[.pointer (some ⟨b, 0, none⟩), .int .i64 n] w fun e w' => e = .returned (.bool false) ∧ w' = w := by
  have hc : w.cell? ⟨b, 0, none⟩ = some (.int .i64 l) := hb.cell 0
  clear hb
  go_enter Try.func87, Try.ntmps87
  go_wp2
  go_ret
  exact ⟨by simp; assumption, rfl⟩

/-- what the count says of the parts below t: it was l ahead of them and is m behind them -/
structure Told (l m : Int) (total : Nat) : Prop where
  ok : 0 ≤ m → 0 ≤ l ∧ m = l - total
  le : m ≤ l
  low : -1000000000000000 ≤ m

set_option maxHeartbeats 1000000 in
theorem szValues_any (t : VT) : ∀ (w : World) (S : Nat → Prop) (b : Nat) (l : Int), VT.In w S t → ¬ S b → Box w b #[.int .i64 l] 159 → 0 ≤ l → l ≤ 10000 →
    Calls Try.prog 88 #[.pointer (some ⟨b, 0, none⟩), t.row] w fun e w' => e = .returned (.tuple #[]) ∧ ∃ m, Box w' b #[.int .i64 m] 159 ∧ Told l m t.total ∧ But (fun k => k = b) w w' := by
  induction t with
  | nil => intro w S b l hin; exact hin.elim
  | mk k i s n p c f ih =>
    intro w S b l hin hS hb hl hl2
    have hfit := hin.fit
    have hcc := hfit.nn
    simp only [VT.n] at hcc
    have HT : Hid (∀ j, VT.upto (.mk k i s n p c f) (j + 1) = VT.upto (.mk k i s n p c f) j + (f j).total) := fun j => VT.upto_succ _ j
    have HE : Hid ((VT.mk k i s n p c f).total = n + VT.upto (.mk k i s n p c f) n) := VT.total_upto _
    have HA := szAdd_pos w b l (n : Int) hb hl hl2 (by omega) (by omega)
    simp only [VT.row, VT.p, VT.n, VT.c]
    clear hb
    go_enter Try.func88, Try.ntmps88
    go_wp2_with (go_at_call 87; refine HA.mono ?_; rintro e w1 ⟨rfl, hb1, hk1⟩)
    have HI : Hid (VT.In w S (.mk k i s n p c f)) := hin
    clear hin hfit HA
    go_loopw [4] (fun x wr => ∃ j : Nat, j ≤ n ∧ x = .int .i64 j ∧ ∃ m : Int, Box wr b #[.int .i64 m] 159 ∧ Told l m (n + VT.upto (.mk k i s n p c f) j) ∧ But (fun k => k = b) w wr) (fun x _ => n - (intOf x).toNat)
    case atStart => exact ⟨0, Nat.zero_le _, rfl, l - n, hb1, ⟨fun h => ⟨hl, by simp [VT.upto]⟩, by omega, by omega⟩, hk1⟩
    case round =>
      obtain ⟨j, hj, rfl, m, hbm, htold, hkm⟩ := hrel
      clear hb1 hk1
      have HO := szOk_any wr b m hbm
      by_cases hlt : j < n
      · have hlt' : (j : Int) < (n : Int) := by omega
        by_cases hm : 0 ≤ m
        · have hd : decide (0 ≤ m) = true := decide_eq_true hm
          rw [hd] at HO
          obtain ⟨bb, o, hp, hSb, hbl, hat⟩ := HI.out.at_ (show 0 < (VT.mk k i s n p c f).n from by simp only [VT.n]; omega)
          simp only [VT.p] at hp
          subst hp
          have hne : bb ≠ b := fun e => hS (e ▸ hSb)
          have c3 := ((hat j hlt).kept (hkm.block bb hbl hne)).c3
          simp only [VT.item] at c3
          have HC : Hid (Calls Try.prog 88 #[.pointer (some ⟨b, 0, none⟩), (f j).row] wr fun e w' => e = .returned (.tuple #[]) ∧ ∃ m', Box w' b #[.int .i64 m'] 159 ∧ Told m m' (f j).total ∧ But (fun k => k = b) wr w') :=
            ih j wr S b m ((HI.out.sub hlt).but hkm (fun x hx _ e => hS (e ▸ hx))) hS hbm hm (by have := htold.le; omega)
          unfold VT.row at HC
          clear hat
          go_wp2_with (first | (go_at_call 43; refine HO.mono ?_; rintro e w2 ⟨rfl, rfl⟩) | (go_at_call 88; refine HC.out.mono ?_; rintro e w3 ⟨rfl, m', hb3, ht3, hk3⟩))
          go_roundw
          case rel =>
            have hu := HT.out j
            refine ⟨j + 1, by omega, by go_num, m', hb3, ⟨fun h => ?_, ?_, ?_⟩, hkm.trans hk3⟩
            · have a1 := ht3.ok h
              have a2 := htold.ok hm
              refine ⟨a2.1, ?_⟩
              rw [hu]; omega
            · have a1 := ht3.le
              have a2 := htold.le
              omega
            · exact ht3.low
          case measure => simp [intOf]; omega
        · have hd : decide (0 ≤ m) = false := decide_eq_false hm
          rw [hd] at HO
          go_wp2_with (go_at_call 43; refine HO.mono ?_; rintro e w2 ⟨rfl, rfl⟩)
          go_end0
          exact ⟨rfl, m, hbm, ⟨fun h => absurd h (by omega), htold.le, htold.low⟩, hkm⟩
      · obtain rfl : j = n := by omega
        go_wp2_with fail
        go_end0
        refine ⟨rfl, m, hbm, ?_, hkm⟩
        rw [HE.out]
        exact htold

end Go.Proofs.Ytikfpoabaaiegaa

namespace Go.Proofs.Ytikfpoabaaiegaa
open Go.RowKit
set_option maxRecDepth 8000

set_option maxHeartbeats 400000 in
theorem szValues_neg (w : World) (b : Nat) (l : Int) (p : Option Addr) (n c : Nat) (hn : n ≤ 140737488355328) (hb : Box w b #[.int .i64 l] 159) (hl : l < 0) :
    Calls Try.prog 88 #[.pointer (some ⟨b, 0, none⟩), .slice p n c] w fun e w' => e = .returned (.tuple #[]) ∧ w' = w := by
  have HA := szAdd_neg w b l (n : Int) hb hl
  have HO := szOk_any w b l hb
  have hd : decide (0 ≤ l) = false := decide_eq_false (by omega)
  rw [hd] at HO
  clear hb
  by_cases h0 : 0 < n
  · have h0' : (0 : Int) < (n : Int) := by omega
    go_enter Try.func88, Try.ntmps88
    go_wp2_with (go_at_call 87; refine HA.mono ?_; rintro e w1 ⟨rfl, rfl⟩)
    refine wp_loop_rounds 1 ?_
    rw [rounds_succ]
    go_wp2_with (go_at_call 43; refine HO.mono ?_; rintro e w2 ⟨rfl, rfl⟩)
    go_end0
    exact ⟨rfl, rfl⟩
  · obtain rfl : n = 0 := by omega
    go_enter Try.func88, Try.ntmps88
    go_wp2_with (go_at_call 87; refine HA.mono ?_; rintro e w1 ⟨rfl, rfl⟩)
    refine wp_loop_rounds 1 ?_
    rw [rounds_succ]
    go_wp2_with fail
    go_end0
    exact ⟨rfl, rfl⟩

def SzPost (b : Nat) (l : Int) (k : Nat) (w : World) (e : Ending) (w' : World) : Prop := e = .returned (.tuple #[]) ∧ ∃ m, Box w' b #[.int .i64 m] 159 ∧ Told l m k ∧ But (fun k => k = b) w w'

theorem szValues_all (t : VT) (w : World) (S : Nat → Prop) (b : Nat) (l : Int) (hin : VT.In w S t) (hS : ¬ S b) (hb : Box w b #[.int .i64 l] 159) (hl : -1000000000000000 ≤ l) (hl2 : l ≤ 10000) :
    Calls Try.prog 88 #[.pointer (some ⟨b, 0, none⟩), t.row] w fun e w' => SzPost b l t.total w e w' := by
  by_cases h : 0 ≤ l
  · exact szValues_any t w S b l hin hS hb h hl2
  · refine (szValues_neg w b l t.p t.n t.c hin.fit.nn hb (by omega)).mono fun e w' hp => ?_
    obtain ⟨rfl, rfl⟩ := hp
    exact ⟨rfl, l, hb, ⟨fun h2 => absurd h2 h, Int.le_refl _, hl⟩, But.refl _ _⟩

theorem Told.add {l l1 m : Int} {j k : Nat} (h : l1 = l - j) (hl : 0 ≤ l) (t : Told l1 m k) : Told l m (j + k) :=
  ⟨fun h0 => ⟨hl, by have := t.ok h0; omega⟩, by have := t.le; omega, t.low⟩

set_option maxHeartbeats 1000000 in
theorem szRecord_any (r : RT) (w : World) (S : Nat → Prop) (b : Nat) (l : Int) (hin : RT.In w S r) (hS : ¬ S b) (hb : Box w b #[.int .i64 l] 159) (hl : 0 ≤ l) (hl2 : l ≤ 10000) :
    Calls Try.prog 39 #[.pointer (some ⟨b, 0, none⟩), r.val] w fun e w' => SzPost b l (1 + r.n + r.v.total) w e w' := by
  have hnn := hin.l.nn
  have hbl := hb.lt
  have HB : Hid (Box w b #[.int .i64 l] 159) := hb
  have HI : Hid (RT.In w S r) := hin
  unfold RT.val
  clear hin hb
  go_enter Try.func39, Try.ntmps39
  go_wp2_with fail
  have hal : Below w.heap.size w (w.alloc (.cells #[.string r.key, .int .i64 r.v.kind, .int .i64 r.v.int, .string r.v.text, .slice r.v.p r.v.n r.v.c, .slice r.p r.n r.c] 27)) := (Below.refl _ _).alloc (Nat.le_refl _) _
  have hbx := Box.new w #[.string r.key, .int .i64 r.v.kind, .int .i64 r.v.int, .string r.v.text, .slice r.v.p r.v.n r.v.c, .slice r.p r.n r.c] 27
  refine (szAdd_pos _ b l (1 + (r.n : Int)) (HB.out.below hal) hl hl2 (by omega) (by omega)).mono ?_
  rintro e w1 ⟨rfl, hb1, hk1⟩
  have hbx1 := hbx.but hk1 (show w.heap.size ≠ b by omega)
  have x4 := hbx1.cell 4
  simp at x4
  have HX : Hid (Box w1 b #[.int .i64 (l - (1 + (r.n : Int)))] 159 ∧ But (fun k => k = b) w w1) := ⟨hb1, (But.ofBelow hal).trans hk1⟩
  clear hb1 hk1 hbx hbx1 hal
  go_wp2_with fail
  have h := szValues_all r.v w1 S b (l - (1 + (r.n : Int))) ?_ hS HX.out.1 (by omega) (by omega)
  · refine h.mono ?_
    clear h
    rintro e w2 ⟨rfl, m, hb2, ht2, hk2⟩
    go_wp2_with fail
    go_end0
    refine ⟨rfl, m, hb2, ?_, HX.out.2.trans hk2⟩
    exact ht2.add (by omega) hl
  · exact HI.out.v.but HX.out.2 (fun x hx _ e => hS (e ▸ hx))

set_option maxHeartbeats 1000000 in
theorem szCells_any (s : ST) (w : World) (S : Nat → Prop) (b : Nat) (l : Int) (hin : ST.In w S s) (hS : ¬ S b) (hb : Box w b #[.int .i64 l] 159) (hl : 0 ≤ l) (hl2 : l ≤ 10000) :
    Calls Try.prog 40 #[.pointer (some ⟨b, 0, none⟩), .slice s.p s.n s.c] w fun e w' => SzPost b l s.total w e w' := by
  obtain ⟨num, p, n, c, f⟩ := s
  have hcc := hin.nn
  simp only at hcc ⊢
  have HT : Hid (∀ j, ST.upto ⟨num, p, n, c, f⟩ (j + 1) = ST.upto ⟨num, p, n, c, f⟩ j + (f j).total) := fun j => ST.upto_succ _ j
  have HE : Hid ((ST.mk num p n c f).total = n + ST.upto ⟨num, p, n, c, f⟩ n) := rfl
  have HA := szAdd_pos w b l (n : Int) hb hl hl2 (by omega) (by omega)
  clear hb
  go_enter Try.func40, Try.ntmps40
  go_wp2_with (go_at_call 87; refine HA.mono ?_; rintro e w1 ⟨rfl, hb1, hk1⟩)
  have HI : Hid (ST.In w S ⟨num, p, n, c, f⟩) := hin
  clear hin HA
  go_loopw [4] (fun x wr => ∃ j : Nat, j ≤ n ∧ x = .int .i64 j ∧ ∃ m : Int, Box wr b #[.int .i64 m] 159 ∧ Told l m (n + ST.upto ⟨num, p, n, c, f⟩ j) ∧ But (fun k => k = b) w wr) (fun x _ => n - (intOf x).toNat)
  case atStart => exact ⟨0, Nat.zero_le _, rfl, l - n, hb1, ⟨fun h => ⟨hl, by simp [ST.upto]⟩, by omega, by omega⟩, hk1⟩
  case round =>
    obtain ⟨j, hj, rfl, m, hbm, htold, hkm⟩ := hrel
    clear hb1 hk1
    have HO := szOk_any wr b m hbm
    by_cases hlt : j < n
    · have hlt' : (j : Int) < (n : Int) := by omega
      by_cases hm : 0 ≤ m
      · have hd : decide (0 ≤ m) = true := decide_eq_true hm
        rw [hd] at HO
        obtain ⟨bb, o, hp, hSb, hbl, hat⟩ := HI.out.at_ (show 0 < n by omega)
        simp only at hp
        subst hp
        have hne : bb ≠ b := fun e => hS (e ▸ hSb)
        have c3 := ((hat j hlt).kept (hkm.block bb hbl hne)).c1
        simp only at c3
        have HC : Hid (Calls Try.prog 88 #[.pointer (some ⟨b, 0, none⟩), (f j).row] wr fun e w' => SzPost b m (f j).total wr e w') :=
          szValues_all (f j) wr S b m ((HI.out.each j hlt).but hkm (fun x hx _ e => hS (e ▸ hx))) hS hbm (by omega) (by have := htold.le; omega)
        unfold VT.row at HC
        clear hat
        go_wp2_with (first | (go_at_call 43; refine HO.mono ?_; rintro e w2 ⟨rfl, rfl⟩) | (go_at_call 88; refine HC.out.mono ?_; rintro e w3 ⟨rfl, m', hb3, ht3, hk3⟩))
        go_roundw
        case rel =>
          have hu := HT.out j
          refine ⟨j + 1, by omega, by go_num, m', hb3, ⟨fun h => ?_, ?_, ?_⟩, hkm.trans hk3⟩
          · have a1 := ht3.ok h
            have a2 := htold.ok hm
            refine ⟨a2.1, ?_⟩
            rw [hu]; omega
          · have a1 := ht3.le
            have a2 := htold.le
            omega
          · exact ht3.low
        case measure => simp [intOf]; omega
      · have hd : decide (0 ≤ m) = false := decide_eq_false hm
        rw [hd] at HO
        go_wp2_with (go_at_call 43; refine HO.mono ?_; rintro e w2 ⟨rfl, rfl⟩)
        go_end0
        exact ⟨rfl, m, hbm, ⟨fun h => absurd h (by omega), htold.le, htold.low⟩, hkm⟩
    · obtain rfl : j = n := by omega
      go_wp2_with fail
      go_end0
      refine ⟨rfl, m, hbm, ?_, hkm⟩
      rw [HE.out]
      exact htold

theorem szNew_any (w' : World) : Calls Try.prog 38 #[] w' fun e w1 => e = .returned (.pointer (some ⟨w'.heap.size, 0, none⟩)) ∧ w1 = w'.alloc (.cells #[.int .i64 10000] 159) := by
  go_enter Try.func38, Try.ntmps38
  go_wp2
  go_ret
  exact ⟨rfl, rfl⟩

set_option maxHeartbeats 1000000 in
theorem szRecords_one (r : RT) (w : World) (S : Nat → Prop) (b : Nat) (l : Int) (hin : RT.In w S r) (hS : ¬ S b) (hb : Box w b #[.int .i64 l] 159) (hl : 0 ≤ l) (hl2 : l ≤ 10000) (ab : Nat) (hab : Box w ab #[.string r.key, .int .i64 r.v.kind, .int .i64 r.v.int, .string r.v.text, .slice r.v.p r.v.n r.v.c, .slice r.p r.n r.c] 27) :
    Calls Try.prog 90 #[.pointer (some ⟨b, 0, none⟩), .slice (some ⟨ab, 0, none⟩) 1 1] w fun e w' => SzPost b l (1 + r.n + r.v.total) w e w' := by
  have HO := szOk_any w b l hb
  rw [decide_eq_true hl] at HO
  have HC : Hid (Calls Try.prog 39 #[.pointer (some ⟨b, 0, none⟩), r.val] w fun e w' => SzPost b l (1 + r.n + r.v.total) w e w') := szRecord_any r w S b l hin hS hb hl hl2
  unfold RT.val at HC
  have x0 := hab.cell 0
  have x1 := hab.cell 1
  have x2 := hab.cell 2
  have x3 := hab.cell 3
  have x4 := hab.cell 4
  have x5 := hab.cell 5
  simp at x0 x1 x2 x3 x4 x5
  clear hab hin hb hS
  go_enter Try.func90, Try.ntmps90
  go_wp2_with fail
  refine wp_loop_rounds 2 ?_
  rw [rounds_succ]
  go_wp2_with (go_at_call 43; refine HO.mono ?_; rintro e w2 ⟨rfl, rfl⟩)
  refine HC.out.mono ?_
  rintro e w3 ⟨rfl, hp⟩
  go_wp2_with fail
  rw [rounds_succ]
  go_wp2_with fail
  go_end0
  exact ⟨rfl, hp⟩

end Go.Proofs.Ytikfpoabaaiegaa

namespace Go.Proofs.Ytikfpoabaaiegaa
open Go.RowKit
set_option maxRecDepth 8000

/-- a counter -/
def Cn (w : World) (b : Nat) : Prop := ∃ l : Int, Box w b #[.int .i64 l] 159 ∧ -1000000000000000 ≤ l ∧ l ≤ 10000
def CPost (b : Nat) (w : World) (e : Ending) (w' : World) : Prop := e = .returned (.tuple #[]) ∧ Cn w' b ∧ But (fun k => k = b) w w'
theorem Cn.lt {w : World} {b : Nat} (h : Cn w b) : b < w.heap.size := by obtain ⟨l, h, _⟩ := h; exact h.lt
theorem Cn.below {w w' : World} {b : Nat} (h : Cn w b) (hb : Below w.heap.size w w') : Cn w' b := by obtain ⟨l, h, h2⟩ := h; exact ⟨l, h.below hb, h2⟩
theorem cOk (w : World) (b : Nat) (h : Cn w b) : ∃ x : Bool, Calls Try.prog 43 #[.pointer (some ⟨b, 0, none⟩)] w fun e w' => e = .returned (.bool x) ∧ w' = w := by
  obtain ⟨l, h, _⟩ := h
  exact ⟨_, szOk_any w b l h⟩
theorem cAdd (w : World) (b : Nat) (n : Int) (h : Cn w b) (hn : 0 ≤ n) (hn2 : n ≤ 281474976710656) : Calls Try.prog 87 #[.pointer (some ⟨b, 0, none⟩), .int .i64 n] w fun e w' => ∃ x, e = .returned (.bool x) ∧ Cn w' b ∧ But (fun k => k = b) w w' := by
  obtain ⟨l, h, h1, h2⟩ := h
  by_cases hl : 0 ≤ l
  · exact (szAdd_pos w b l n h hl h2 hn hn2).mono fun e w' hp => ⟨_, hp.1, ⟨l - n, hp.2.1, by omega, by omega⟩, hp.2.2⟩
  · refine (szAdd_neg w b l n h (by omega)).mono fun e w' hp => ?_
    obtain ⟨rfl, rfl⟩ := hp
    exact ⟨_, rfl, ⟨l, h, h1, h2⟩, But.refl _ _⟩
theorem cValues (t : VT) (w : World) (S : Nat → Prop) (b : Nat) (hin : VT.In w S t) (hS : ¬ S b) (h : Cn w b) : Calls Try.prog 88 #[.pointer (some ⟨b, 0, none⟩), .slice t.p t.n t.c] w fun e w' => CPost b w e w' := by
  obtain ⟨l, h, h1, h2⟩ := h
  refine (szValues_all t w S b l hin hS h h1 h2).mono fun e w' hp => ?_
  obtain ⟨rfl, m, hb, ht, hk⟩ := hp
  exact ⟨rfl, ⟨m, hb, ht.low, by have := ht.le; omega⟩, hk⟩
set_option maxHeartbeats 1000000 in
theorem cRecord (r : RT) (w : World) (S : Nat → Prop) (b : Nat) (hin : RT.In w S r) (hS : ¬ S b) (h : Cn w b) : Calls Try.prog 39 #[.pointer (some ⟨b, 0, none⟩), r.val] w fun e w' => CPost b w e w' := by
  have hnn := hin.l.nn
  have hbl := h.lt
  have HB := hid h
  have HI := hid hin
  unfold RT.val
  clear hin h
  have hal : Below w.heap.size w (w.alloc (.cells #[.string r.key, .int .i64 r.v.kind, .int .i64 r.v.int, .string r.v.text, .slice r.v.p r.v.n r.v.c, .slice r.p r.n r.c] 27)) := (Below.refl _ _).alloc (Nat.le_refl _) _
  have HL := hid hal
  clear hal
  go_enter Try.func39, Try.ntmps39
  go_wp2_with fail
  have hbx := Box.new w #[.string r.key, .int .i64 r.v.kind, .int .i64 r.v.int, .string r.v.text, .slice r.v.p r.v.n r.v.c, .slice r.p r.n r.c] 27
  refine (cAdd _ b (1 + (r.n : Int)) (HB.out.below HL.out) (by omega) (by omega)).mono ?_
  rintro e w1 ⟨x, rfl, hb1, hk1⟩
  have hbx1 := hbx.but hk1 (show w.heap.size ≠ b by omega)
  have x4 := hbx1.cell 4
  simp at x4
  have HX := hid (And.intro hb1 ((But.ofBelow HL.out).trans hk1))
  clear hb1 hk1 hbx hbx1
  go_wp2_with fail
  refine (cValues r.v w1 S b (HI.out.v.but HX.out.2 (fun x hx _ e => hS (e ▸ hx))) hS HX.out.1).mono ?_
  rintro e w2 ⟨rfl, hc2, hk2⟩
  go_wp2_with fail
  go_end0
  exact ⟨rfl, hc2, HX.out.2.trans hk2⟩
set_option maxHeartbeats 1000000 in
theorem cCells (l : LT VT) (w : World) (S : Nat → Prop) (b : Nat) (hin : LT.In elCell w S l) (hS : ¬ S b) (h : Cn w b) : Calls Try.prog 40 #[.pointer (some ⟨b, 0, none⟩), .slice l.p l.n l.c] w fun e w' => CPost b w e w' := by
  obtain ⟨p, n, c, f⟩ := l
  have hcc := hin.nn
  simp only at hcc ⊢
  have HA := cAdd w b (n : Int) h (by omega) (by omega)
  clear h
  go_enter Try.func40, Try.ntmps40
  go_wp2_with (go_at_call 87; refine HA.mono ?_; rintro e w1 ⟨x1, rfl, hb1, hk1⟩)
  have HI := hid hin
  clear hin HA
  go_loopw [4] (fun x wr => ∃ j : Nat, j ≤ n ∧ x = .int .i64 j ∧ Cn wr b ∧ But (fun k => k = b) w wr) (fun x _ => n - (intOf x).toNat)
  case atStart => exact ⟨0, Nat.zero_le _, rfl, hb1, hk1⟩
  case round =>
    obtain ⟨j, hj, rfl, hbm, hkm⟩ := hrel
    clear hb1 hk1
    obtain ⟨x2, HO⟩ := cOk wr b hbm
    by_cases hlt : j < n
    · have hlt' : (j : Int) < (n : Int) := by omega
      obtain ⟨bb, o, hp, hSb, hbl, hat⟩ := HI.out.at_ (show 0 < n by omega)
      simp only at hp
      subst hp
      have hne : bb ≠ b := fun e => hS (e ▸ hSb)
      have c3 : wr.cell? ⟨bb, o + j * 2 + 1, none⟩ = some (.slice (f j).p (f j).n (f j).c) := (World.cell?_of_block (a := ⟨bb, o + j * 2 + 1, none⟩) (hkm.block bb hbl hne)).trans (hat j hlt 1 _ rfl)
      have HC := hid (cValues (f j) wr S b ((HI.out.each j hlt).but hkm (fun x hx _ e => hS (e ▸ hx))) hS hbm)
      have HK := hid (And.intro hbm hkm)
      clear hat hbm hkm
      cases x2
      · go_wp2_with (go_at_call 43; refine HO.mono ?_; rintro e w2 ⟨rfl, rfl⟩)
        go_end0
        exact ⟨rfl, HK.out.1, HK.out.2⟩
      · go_wp2_with (first | (go_at_call 43; refine HO.mono ?_; rintro e w2 ⟨rfl, rfl⟩) | (go_at_call 88; refine HC.out.mono ?_; rintro e w3 ⟨rfl, hb3, hk3⟩))
        go_roundw
        case rel => exact ⟨j + 1, by omega, by go_num, hb3, HK.out.2.trans hk3⟩
        case measure => simp [intOf]; omega
    · obtain rfl : j = n := by omega
      go_wp2_with fail
      go_end0
      exact ⟨rfl, hbm, hkm⟩
set_option maxHeartbeats 1000000 in
theorem cRecords (l : LT RT) (w : World) (S : Nat → Prop) (b : Nat) (hin : LT.In elRec w S l) (hS : ¬ S b) (h : Cn w b) : Calls Try.prog 90 #[.pointer (some ⟨b, 0, none⟩), .slice l.p l.n l.c] w fun e w' => CPost b w e w' := by
  obtain ⟨p, n, c, f⟩ := l
  have hcc := hin.nn
  simp only at hcc ⊢
  have HI := hid hin
  have HB := hid h
  clear hin h
  go_enter Try.func90, Try.ntmps90
  go_wp2_with fail
  go_loopw [4] (fun x wr => ∃ j : Nat, j ≤ n ∧ x = .int .i64 j ∧ Cn wr b ∧ But (fun k => k = b) w wr) (fun x _ => n - (intOf x).toNat)
  case atStart => exact ⟨0, Nat.zero_le _, rfl, HB.out, But.refl _ _⟩
  case round =>
    obtain ⟨j, hj, rfl, hbm, hkm⟩ := hrel
    obtain ⟨x2, HO⟩ := cOk wr b hbm
    by_cases hlt : j < n
    · have hlt' : (j : Int) < (n : Int) := by omega
      obtain ⟨bb, o, hp, hSb, hbl, hat⟩ := HI.out.at_ (show 0 < n by omega)
      simp only at hp
      subst hp
      have hne : bb ≠ b := fun e => hS (e ▸ hSb)
      have hca : ∀ r u, (elRec.cells (f j))[r]? = some u → wr.cell? ⟨bb, o + j * 6 + r, none⟩ = some u := fun r u hu => (World.cell?_of_block (a := ⟨bb, o + j * 6 + r, none⟩) (hkm.block bb hbl hne)).trans (hat j hlt r u hu)
      have d0 := hca 0 _ rfl
      have d1 := hca 1 _ rfl
      have d2 := hca 2 _ rfl
      have d3 := hca 3 _ rfl
      have d4 := hca 4 _ rfl
      have d5 := hca 5 _ rfl
      simp only [Nat.add_zero] at d0
      have hi : RT.In w S (f j) := HI.out.each j hlt
      have HC := hid (cRecord (f j) wr S b (hi.but hkm (fun x hx _ e => hS (e ▸ hx))) hS hbm)
      unfold RT.val at HC
      have HK := hid (And.intro hbm hkm)
      clear hat hbm hkm hca hi
      cases x2
      · go_wp2_with (go_at_call 43; refine HO.mono ?_; rintro e w2 ⟨rfl, rfl⟩)
        go_end0
        exact ⟨rfl, HK.out.1, HK.out.2⟩
      · go_wp2_with (first | (go_at_call 43; refine HO.mono ?_; rintro e w2 ⟨rfl, rfl⟩) | (go_at_call 39; refine HC.out.mono ?_; rintro e w3 ⟨rfl, hb3, hk3⟩))
        go_roundw
        case rel => exact ⟨j + 1, by omega, by go_num, hb3, HK.out.2.trans hk3⟩
        case measure => simp [intOf]; omega
    · obtain rfl : j = n := by omega
      go_wp2_with fail
      go_end0
      exact ⟨rfl, hbm, hkm⟩
set_option maxHeartbeats 1000000 in
theorem cLists (l : LT (LT RT)) (w : World) (S : Nat → Prop) (b : Nat) (hin : LT.In elRecs w S l) (hS : ¬ S b) (h : Cn w b) : Calls Try.prog 89 #[.pointer (some ⟨b, 0, none⟩), .slice l.p l.n l.c] w fun e w' => CPost b w e w' := by
  obtain ⟨p, n, c, f⟩ := l
  have hcc := hin.nn
  simp only at hcc ⊢
  have HA := cAdd w b (n : Int) h (by omega) (by omega)
  clear h
  go_enter Try.func89, Try.ntmps89
  go_wp2_with (go_at_call 87; refine HA.mono ?_; rintro e w1 ⟨x1, rfl, hb1, hk1⟩)
  have HI := hid hin
  clear hin HA
  go_loopw [4] (fun x wr => ∃ j : Nat, j ≤ n ∧ x = .int .i64 j ∧ Cn wr b ∧ But (fun k => k = b) w wr) (fun x _ => n - (intOf x).toNat)
  case atStart => exact ⟨0, Nat.zero_le _, rfl, hb1, hk1⟩
  case round =>
    obtain ⟨j, hj, rfl, hbm, hkm⟩ := hrel
    clear hb1 hk1
    obtain ⟨x2, HO⟩ := cOk wr b hbm
    by_cases hlt : j < n
    · have hlt' : (j : Int) < (n : Int) := by omega
      obtain ⟨bb, o, hp, hSb, hbl, hat⟩ := HI.out.at_ (show 0 < n by omega)
      simp only at hp
      subst hp
      have hne : bb ≠ b := fun e => hS (e ▸ hSb)
      have c3 : wr.cell? ⟨bb, o + j, none⟩ = some (.slice (f j).p (f j).n (f j).c) := by
        have h1 := hat j hlt 0 _ rfl
        simp [elRecs] at h1
        exact (World.cell?_of_block (a := ⟨bb, o + j, none⟩) (hkm.block bb hbl hne)).trans h1
      have hi : LT.In elRec w S (f j) := HI.out.each j hlt
      have HC := hid (cRecords (f j) wr S b (hi.but hkm (fun x hx _ e => hS (e ▸ hx))) hS hbm)
      have HK := hid (And.intro hbm hkm)
      clear hat hbm hkm hi
      cases x2
      · go_wp2_with (go_at_call 43; refine HO.mono ?_; rintro e w2 ⟨rfl, rfl⟩)
        go_end0
        exact ⟨rfl, HK.out.1, HK.out.2⟩
      · go_wp2_with (first | (go_at_call 43; refine HO.mono ?_; rintro e w2 ⟨rfl, rfl⟩) | (go_at_call 90; refine HC.out.mono ?_; rintro e w3 ⟨rfl, hb3, hk3⟩))
        go_roundw
        case rel => exact ⟨j + 1, by omega, by go_num, hb3, HK.out.2.trans hk3⟩
        case measure => simp [intOf]; omega
    · obtain rfl : j = n := by omega
      go_wp2_with fail
      go_end0
      exact ⟨rfl, hbm, hkm⟩
end Go.Proofs.Ytikfpoabaaiegaa

namespace Go.Proofs.Ytikfpoabaaiegaa
open Go.RowKit
set_option maxRecDepth 8000

/-- a thing -/
structure HI where
  kind : Int
  r : RT
  s : ST
  g : GI
  m : MI
  o : OI
def HI.cells (t : HI) : Array Value := #[.int .i64 t.kind, .string t.r.key, .int .i64 t.r.v.kind, .int .i64 t.r.v.int, .string t.r.v.text, .slice t.r.v.p t.r.v.n t.r.v.c, .slice t.r.p t.r.n t.r.c, .int .i64 t.s.num, .slice t.s.p t.s.n t.s.c, .int .i64 t.g.id, .int .i64 t.g.task, .int .i64 t.g.base, .int .u32 (t.g.sum : Int), .int .i64 t.g.st.num, .slice t.g.st.p t.g.st.n t.g.st.c, .int .i64 t.g.dnum, .slice t.g.set.p t.g.set.n t.g.set.c, .slice t.g.gone.p t.g.gone.n t.g.gone.c, .slice t.g.logs.p t.g.logs.n t.g.logs.c, .slice t.g.pend.p t.g.pend.n t.g.pend.c, .int .i64 t.m.id, .int .u32 (t.m.sum : Int), .slice t.m.rows.p t.m.rows.n t.m.rows.c, .int .i64 t.o.num, .string t.o.rec_.key, .int .i64 t.o.rec_.v.kind, .int .i64 t.o.rec_.v.int, .string t.o.rec_.v.text, .slice t.o.rec_.v.p t.o.rec_.v.n t.o.rec_.v.c, .slice t.o.rec_.p t.o.rec_.n t.o.rec_.c]
structure HI.In (w : World) (S : Nat → Prop) (t : HI) : Prop where
  k0 : -9223372036854775808 ≤ t.kind
  k1 : t.kind ≤ 9223372036854775807
  r : RT.In w S t.r
  s : ST.In2 w S t.s
  g : GI.In w S t.g
  m : LT.In elRowI w S t.m.rows
  msum : t.m.sum < 4294967296
  m0 : -9223372036854775808 ≤ t.m.id
  m1 : t.m.id ≤ 9223372036854775807
  o : RT.In w S t.o.rec_
  o0 : -9223372036854775808 ≤ t.o.num
  o1 : t.o.num ≤ 9223372036854775807
theorem HI.In.below {w w' : World} {S : Nat → Prop} {t : HI} (h : HI.In w S t) (hb : Below w.heap.size w w') : HI.In w' S t :=
  ⟨h.k0, h.k1, h.r.below hb, h.s.below hb, h.g.below hb, h.m.below hb, h.msum, h.m0, h.m1, h.o.below hb, h.o0, h.o1⟩
theorem HI.size (t : HI) : t.cells.size = 30 := rfl
theorem HI.one (t : HI) : t.cells.all (·.oneCell') = true := by simp [HI.cells, Value.oneCell']
set_option maxHeartbeats 1000000 in
theorem cDelta (d : Int) (l : LT VT) (g : LT ByteArray) (w : World) (S : Nat → Prop) (b : Nat) (hin : LT.In elCell w S l) (hg : LT.In elStr w S g) (hS : ¬ S b) (h : Cn w b) : Calls Try.prog 42 #[.pointer (some ⟨b, 0, none⟩), .agg #[.int .i64 d, .slice l.p l.n l.c, .slice g.p g.n g.c]] w fun e w' => CPost b w e w' := by
  have hnn := hg.nn
  have hbl := h.lt
  have HB := hid h
  have HI := hid hin
  clear hin hg h
  have hal : Below w.heap.size w (w.alloc (.cells #[.int .i64 d, .slice l.p l.n l.c, .slice g.p g.n g.c] 34)) := (Below.refl _ _).alloc (Nat.le_refl _) _
  have HL := hid hal
  clear hal
  go_enter Try.func42, Try.ntmps42
  go_wp2_with fail
  have hbx := Box.new w #[.int .i64 d, .slice l.p l.n l.c, .slice g.p g.n g.c] 34
  refine (cAdd _ b (g.n : Int) (HB.out.below HL.out) (by omega) (by omega)).mono ?_
  rintro e w1 ⟨x, rfl, hb1, hk1⟩
  have hbx1 := hbx.but hk1 (show w.heap.size ≠ b by omega)
  have x1 := hbx1.cell 1
  simp at x1
  have HX := hid (And.intro hb1 ((But.ofBelow HL.out).trans hk1))
  clear hb1 hk1 hbx hbx1
  go_wp2_with fail
  refine (cCells l w1 S b (HI.out.but HX.out.2 (fun x hx _ e => hS (e ▸ hx))) hS HX.out.1).mono ?_
  rintro e w2 ⟨rfl, hc2, hk2⟩
  go_wp2_with fail
  go_end0
  exact ⟨rfl, hc2, HX.out.2.trans hk2⟩
set_option maxHeartbeats 1000000 in
theorem cPart (s : ST) (l : LT (LT RT)) (p : LT RT) (w : World) (S : Nat → Prop) (b : Nat) (hs : ST.In2 w S s) (hl : LT.In elRecs w S l) (hp : LT.In elRec w S p) (hS : ¬ S b) (h : Cn w b) : Calls Try.prog 41 #[.pointer (some ⟨b, 0, none⟩), .agg #[.int .i64 s.num, .slice s.p s.n s.c, .slice l.p l.n l.c, .slice p.p p.n p.c]] w fun e w' => CPost b w e w' := by
  have hbl := h.lt
  have HB := hid h
  have HS := hid (ST.toLT hs.i hs.nil)
  have HLs := hid hl
  have HP := hid hp
  clear hs hl hp h
  have hal : Below w.heap.size w (w.alloc (.cells #[.int .i64 s.num, .slice s.p s.n s.c, .slice l.p l.n l.c, .slice p.p p.n p.c] 98)) := (Below.refl _ _).alloc (Nat.le_refl _) _
  have HL := hid hal
  clear hal
  go_enter Try.func41, Try.ntmps41
  go_wp2_with fail
  have hbx := Box.new w #[.int .i64 s.num, .slice s.p s.n s.c, .slice l.p l.n l.c, .slice p.p p.n p.c] 98
  refine (cCells _ _ S b (HS.out.below HL.out) hS (HB.out.below HL.out)).mono ?_
  rintro e w1 ⟨rfl, hb1, hk1⟩
  have hbx1 := hbx.but hk1 (show w.heap.size ≠ b by omega)
  have x2 := hbx1.cell 2
  simp at x2
  have HX := hid (And.intro hb1 (And.intro ((But.ofBelow HL.out).trans hk1) hbx1))
  clear hb1 hk1 hbx hbx1
  go_wp2_with fail
  refine (cLists l w1 S b (HLs.out.but HX.out.2.1 (fun x hx _ e => hS (e ▸ hx))) hS HX.out.1).mono ?_
  rintro e w2 ⟨rfl, hb2, hk2⟩
  have hbx2 := HX.out.2.2.but hk2 (show w.heap.size ≠ b by omega)
  have y3 := hbx2.cell 3
  simp at y3
  have HX2 := hid (And.intro hb2 (HX.out.2.1.trans hk2))
  clear hb2 hk2 hbx2 x2
  go_wp2_with fail
  refine (cRecords p w2 S b (HP.out.but HX2.out.2 (fun x hx _ e => hS (e ▸ hx))) hS HX2.out.1).mono ?_
  rintro e w3 ⟨rfl, hc3, hk3⟩
  go_wp2_with fail
  go_end0
  exact ⟨rfl, hc3, HX2.out.2.trans hk3⟩
end Go.Proofs.Ytikfpoabaaiegaa

namespace Go.Proofs.Ytikfpoabaaiegaa
open Go.RowKit
set_option maxRecDepth 8000

theorem cNew (w : World) : Calls Try.prog 38 #[] w fun e w1 => ∃ b, b = w.heap.size ∧ e = .returned (.pointer (some ⟨b, 0, none⟩)) ∧ Cn w1 b ∧ Below w.heap.size w w1 := by
  refine (szNew_any w).mono fun e w1 hp => ?_
  obtain ⟨rfl, rfl⟩ := hp
  exact ⟨_, rfl, rfl, ⟨10000, Box.new w _ _, by decide, by decide⟩, (Below.refl _ _).alloc (Nat.le_refl _) _⟩
set_option maxHeartbeats 4000000 in
theorem inside_any (t : HI) (w : World) (S : Nat → Prop) (hin : HI.In w S t) (hS : ∀ b, S b → b < w.heap.size) : Calls Try.prog 12 #[.agg t.cells] w fun x w' => ∃ b, x = .returned (.bool b) ∧ Below w.heap.size w w' := by
  have ha : Below w.heap.size w (w.alloc (.cells t.cells 45)) := (Below.refl _ _).alloc (Nat.le_refl _) _
  have hbx := Box.new w t.cells 45
  have HIn := hid (hin.below ha)
  have HS := hid hS
  have HA := hid ha
  have HBx := hid hbx
  have hsz : (w.alloc (.cells t.cells 45)).heap.size = w.heap.size + 1 := by simp
  have HSz := hid hsz
  clear hin hS ha hbx hsz
  obtain ⟨cT, hcT⟩ : ∃ cT, cT = t.cells := ⟨_, rfl⟩
  rw [← hcT] at HIn HA HBx HSz ⊢
  have HcT := hid hcT
  clear hcT
  go_enter Try.func12, Try.ntmps12
  go_wp2_with fail
  refine (cNew _).mono ?_
  rintro e w1 ⟨b, hb, rfl, hc1, hb1⟩
  have hbn : b = w.heap.size + 1 := hb.trans HSz.out
  have hne : w.heap.size ≠ b := by omega
  have hSb : ¬ S b := fun h => by have := HS.out b h; omega
  have HI1 := hid (HIn.out.below hb1)
  have HB1 := hid hb1
  have HX1 : Hid (Cn w1 b ∧ But (fun k => k = b) w1 w1 ∧ Box w1 w.heap.size t.cells 45) := ⟨hc1, But.refl _ _, by rw [← HcT.out]; exact HBx.out.below hb1⟩
  have HBn := hid hbn
  clear hb hc1 hb1 hbn
  have q0_1 := (HX1.out.2.2.cell 1).trans (show t.cells[1]? = some (.string t.r.key) from rfl)
  have q0_2 := (HX1.out.2.2.cell 2).trans (show t.cells[2]? = some (.int .i64 t.r.v.kind) from rfl)
  have q0_3 := (HX1.out.2.2.cell 3).trans (show t.cells[3]? = some (.int .i64 t.r.v.int) from rfl)
  have q0_4 := (HX1.out.2.2.cell 4).trans (show t.cells[4]? = some (.string t.r.v.text) from rfl)
  have q0_5 := (HX1.out.2.2.cell 5).trans (show t.cells[5]? = some (.slice t.r.v.p t.r.v.n t.r.v.c) from rfl)
  have q0_6 := (HX1.out.2.2.cell 6).trans (show t.cells[6]? = some (.slice t.r.p t.r.n t.r.c) from rfl)
  have HC := hid (cRecord t.r w1 S b (HI1.out.r.but HX1.out.2.1 (fun x hx _ e => hSb (e ▸ hx))) hSb HX1.out.1)
  unfold RT.val at HC
  go_wp2_with fail
  refine HC.out.mono ?_
  rintro e w2 ⟨rfl, hc, hk⟩
  have HX2 : Hid (Cn w2 b ∧ But (fun k => k = b) w1 w2 ∧ Box w2 w.heap.size t.cells 45) := ⟨hc, HX1.out.2.1.trans hk, HX1.out.2.2.but hk hne⟩
  clear hc hk HC  q0_1 q0_2 q0_3 q0_4 q0_5 q0_6
  have q1_8 := (HX2.out.2.2.cell 8).trans (show t.cells[8]? = some (.slice t.s.p t.s.n t.s.c) from rfl)
  have HC := hid (cCells ⟨t.s.p, t.s.n, t.s.c, t.s.cell⟩ w2 S b ((ST.toLT HI1.out.s.i HI1.out.s.nil).but HX2.out.2.1 (fun x hx _ e => hSb (e ▸ hx))) hSb HX2.out.1)
  go_wp2_with fail
  refine HC.out.mono ?_
  rintro e w3 ⟨rfl, hc, hk⟩
  have HX3 : Hid (Cn w3 b ∧ But (fun k => k = b) w1 w3 ∧ Box w3 w.heap.size t.cells 45) := ⟨hc, HX2.out.2.1.trans hk, HX2.out.2.2.but hk hne⟩
  clear hc hk HC HX2 q1_8
  have q2_13 := (HX3.out.2.2.cell 13).trans (show t.cells[13]? = some (.int .i64 t.g.st.num) from rfl)
  have q2_14 := (HX3.out.2.2.cell 14).trans (show t.cells[14]? = some (.slice t.g.st.p t.g.st.n t.g.st.c) from rfl)
  have q2_18 := (HX3.out.2.2.cell 18).trans (show t.cells[18]? = some (.slice t.g.logs.p t.g.logs.n t.g.logs.c) from rfl)
  have q2_19 := (HX3.out.2.2.cell 19).trans (show t.cells[19]? = some (.slice t.g.pend.p t.g.pend.n t.g.pend.c) from rfl)
  have HC := hid (cPart t.g.st t.g.logs t.g.pend w3 S b (HI1.out.g.st.but HX3.out.2.1 (fun x hx _ e => hSb (e ▸ hx))) (HI1.out.g.logs.but HX3.out.2.1 (fun x hx _ e => hSb (e ▸ hx))) (HI1.out.g.pend.but HX3.out.2.1 (fun x hx _ e => hSb (e ▸ hx))) hSb HX3.out.1)
  go_wp2_with fail
  refine HC.out.mono ?_
  rintro e w4 ⟨rfl, hc, hk⟩
  have HX4 : Hid (Cn w4 b ∧ But (fun k => k = b) w1 w4 ∧ Box w4 w.heap.size t.cells 45) := ⟨hc, HX3.out.2.1.trans hk, HX3.out.2.2.but hk hne⟩
  clear hc hk HC HX3 q2_13 q2_14 q2_18 q2_19
  have q3_15 := (HX4.out.2.2.cell 15).trans (show t.cells[15]? = some (.int .i64 t.g.dnum) from rfl)
  have q3_16 := (HX4.out.2.2.cell 16).trans (show t.cells[16]? = some (.slice t.g.set.p t.g.set.n t.g.set.c) from rfl)
  have q3_17 := (HX4.out.2.2.cell 17).trans (show t.cells[17]? = some (.slice t.g.gone.p t.g.gone.n t.g.gone.c) from rfl)
  have HC := hid (cDelta t.g.dnum t.g.set t.g.gone w4 S b (HI1.out.g.set.but HX4.out.2.1 (fun x hx _ e => hSb (e ▸ hx))) (HI1.out.g.gone.but HX4.out.2.1 (fun x hx _ e => hSb (e ▸ hx))) hSb HX4.out.1)
  go_wp2_with fail
  refine HC.out.mono ?_
  rintro e w5 ⟨rfl, hc, hk⟩
  have HX5 : Hid (Cn w5 b ∧ But (fun k => k = b) w1 w5 ∧ Box w5 w.heap.size t.cells 45) := ⟨hc, HX4.out.2.1.trans hk, HX4.out.2.2.but hk hne⟩
  clear hc hk HC HX4 q3_15 q3_16 q3_17
  have q4_24 := (HX5.out.2.2.cell 24).trans (show t.cells[24]? = some (.string t.o.rec_.key) from rfl)
  have q4_25 := (HX5.out.2.2.cell 25).trans (show t.cells[25]? = some (.int .i64 t.o.rec_.v.kind) from rfl)
  have q4_26 := (HX5.out.2.2.cell 26).trans (show t.cells[26]? = some (.int .i64 t.o.rec_.v.int) from rfl)
  have q4_27 := (HX5.out.2.2.cell 27).trans (show t.cells[27]? = some (.string t.o.rec_.v.text) from rfl)
  have q4_28 := (HX5.out.2.2.cell 28).trans (show t.cells[28]? = some (.slice t.o.rec_.v.p t.o.rec_.v.n t.o.rec_.v.c) from rfl)
  have q4_29 := (HX5.out.2.2.cell 29).trans (show t.cells[29]? = some (.slice t.o.rec_.p t.o.rec_.n t.o.rec_.c) from rfl)
  have HC := hid (cRecord t.o.rec_ w5 S b (HI1.out.o.but HX5.out.2.1 (fun x hx _ e => hSb (e ▸ hx))) hSb HX5.out.1)
  unfold RT.val at HC
  go_wp2_with fail
  refine HC.out.mono ?_
  rintro e w6 ⟨rfl, hc, hk⟩
  have HX6 : Hid (Cn w6 b ∧ But (fun k => k = b) w1 w6 ∧ Box w6 w.heap.size t.cells 45) := ⟨hc, HX5.out.2.1.trans hk, HX5.out.2.2.but hk hne⟩
  clear hc hk HC HX5 q4_24 q4_25 q4_26 q4_27 q4_28 q4_29
  obtain ⟨x9, HO⟩ := cOk w6 b HX6.out.1
  go_wp2_with fail
  refine HO.mono ?_
  rintro e w7 ⟨rfl, hw7⟩
  subst w7
  go_wp2
  go_ret
  refine ⟨x9, rfl, ?_⟩
  have h1 : Below w.heap.size w w1 := HA.out.trans (HB1.out.mono (by rw [HSz.out]; omega))
  exact h1.trans (HX6.out.2.1.below h1.size (fun k hk e => by have := HBn.out; omega))
end Go.Proofs.Ytikfpoabaaiegaa
