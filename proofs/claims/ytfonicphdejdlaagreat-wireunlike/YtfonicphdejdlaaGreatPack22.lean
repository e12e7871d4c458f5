import Derived.Test.YtfonicphdejdlaaGreatPack0
import Derived.Test.YtfonicphdejdlaaGreatPack20
namespace Go.Proofs.YtfonicphdejdlaaGreat
open Go.RowKit
set_option maxRecDepth 8000

theorem szOk_any (w : World) (b : Nat) (l : Int) (hb : Box w b #[.int .i64 l] 128) :
    Calls Tryz.prog 38 #[.pointer (some ⟨b, 0, none⟩)] w fun e w' => e = .returned (.bool (decide (0 ≤ l))) ∧ w' = w := by
  have hc : w.cell? ⟨b, 0, none⟩ = some (.int .i64 l) := hb.cell 0
  go_enter Tryz.func38, Tryz.ntmps38
  go_wp2
  go_ret
  exact ⟨by simp, rfl⟩

theorem szAdd_pos (w : World) (b : Nat) (l n : Int) (hb : Box w b #[.int .i64 l] 128) (hl : 0 ≤ l) (hl2 : l ≤ 10000) (hn : 0 ≤ n) (hn2 : n ≤ 281474976710656) :
    Calls Tryz.prog 66 #[.pointer (some ⟨b, 0, none⟩), .int .i64 n] w fun e w' => e = .returned (.bool (decide (0 ≤ l - n))) ∧ Box w' b #[.int .i64 (l - n)] 128 ∧ But (fun k => k = b) w w' := by
  have hc : w.cell? ⟨b, 0, none⟩ = some (.int .i64 l) := hb.cell 0
  have hf : w.frozen? ⟨b, 0, none⟩ = false := hb.frozen 0
  have hlt := hb.lt
  have H1 : Hid (Box (w.setCell ⟨b, 0, none⟩ (.int .i64 (l - n))) b #[.int .i64 (l - n)] 128) := by
    have := hb.set 0 (.int .i64 (l - n)); unfold Hid; simpa using this
  have H2 : Hid (But (fun k => k = b) w (w.setCell ⟨b, 0, none⟩ (.int .i64 (l - n)))) := by
    unfold Hid; exact (But.refl (fun k => k = b) w).setCell (p := ⟨b, 0, none⟩) (fun _ => rfl) _
  clear hb
  go_enter Tryz.func66, Tryz.ntmps66
  go_wp2
  go_ret
  exact ⟨by simp, H1.out, H2.out⟩

theorem szAdd_neg (w : World) (b : Nat) (l n : Int) (hb : Box w b #[.int .i64 l] 128) (hl : l < 0) :
    Calls Tryz.prog 66 #[.pointer (some ⟨b, 0, none⟩), .int .i64 n] w fun e w' => e = .returned (.bool false) ∧ w' = w := by
  have hc : w.cell? ⟨b, 0, none⟩ = some (.int .i64 l) := hb.cell 0
  clear hb
  go_enter Tryz.func66, Tryz.ntmps66
  go_wp2
  go_ret
  exact ⟨by simp; assumption, rfl⟩

/-- what the count says of the parts below t: it was l ahead of them and is m behind them -/
structure Told (l m : Int) (total : Nat) : Prop where
  ok : 0 ≤ m → 0 ≤ l ∧ m = l - total
  le : m ≤ l
  low : -1000000000000000 ≤ m

set_option maxHeartbeats 1000000 in
theorem szValues_any (t : VT) : ∀ (w : World) (S : Nat → Prop) (b : Nat) (l : Int), VT.In w S t → ¬ S b → Box w b #[.int .i64 l] 128 → 0 ≤ l → l ≤ 10000 →
    Calls Tryz.prog 67 #[.pointer (some ⟨b, 0, none⟩), t.row] w fun e w' => e = .returned (.tuple #[]) ∧ ∃ m, Box w' b #[.int .i64 m] 128 ∧ Told l m t.total ∧ But (fun k => k = b) w w' := by
  induction t with
  | nil => intro w S b l hin; exact hin.elim
  | mk k i s n p c f ih =>
    intro w S b l hin hS hb hl hl2
    have hfit := hin.fit
    have hcc := hfit.nn
    simp only [VT.n] at hcc
    have HT : Hid (∀ j, VT.upto (.mk k i s n p c f) (j + 1) = VT.upto (.mk k i s n p c f) j + (f j).total) := fun j => VT.upto_succ _ j
    have HE : Hid ((VT.mk k i s n p c f).total = n + VT.upto (.mk k i s n p c f) n) := VT.total_upto _
    have HA := szAdd_pos w b l (n : Int) hb hl hl2 (by omega) (by omega)
    simp only [VT.row, VT.p, VT.n, VT.c]
    clear hb
    go_enter Tryz.func67, Tryz.ntmps67
    go_wp2_with (go_at_call 66; refine HA.mono ?_; rintro e w1 ⟨rfl, hb1, hk1⟩)
    have HI : Hid (VT.In w S (.mk k i s n p c f)) := hin
    clear hin hfit HA
    go_loopw [4] (fun x wr => ∃ j : Nat, j ≤ n ∧ x = .int .i64 j ∧ ∃ m : Int, Box wr b #[.int .i64 m] 128 ∧ Told l m (n + VT.upto (.mk k i s n p c f) j) ∧ But (fun k => k = b) w wr) (fun x _ => n - (intOf x).toNat)
    case atStart => exact ⟨0, Nat.zero_le _, rfl, l - n, hb1, ⟨fun h => ⟨hl, by simp [VT.upto]⟩, by omega, by omega⟩, hk1⟩
    case round =>
      obtain ⟨j, hj, rfl, m, hbm, htold, hkm⟩ := hrel
      clear hb1 hk1
      have HO := szOk_any wr b m hbm
      by_cases hlt : j < n
      · have hlt' : (j : Int) < (n : Int) := by omega
        by_cases hm : 0 ≤ m
        · have hd : decide (0 ≤ m) = true := decide_eq_true hm
          rw [hd] at HO
          obtain ⟨bb, o, hp, hSb, hbl, hat⟩ := HI.out.at_ (show 0 < (VT.mk k i s n p c f).n from by simp only [VT.n]; omega)
          simp only [VT.p] at hp
          subst hp
          have hne : bb ≠ b := fun e => hS (e ▸ hSb)
          have c3 := ((hat j hlt).kept (hkm.block bb hbl hne)).c3
          simp only [VT.item] at c3
          have HC : Hid (Calls Tryz.prog 67 #[.pointer (some ⟨b, 0, none⟩), (f j).row] wr fun e w' => e = .returned (.tuple #[]) ∧ ∃ m', Box w' b #[.int .i64 m'] 128 ∧ Told m m' (f j).total ∧ But (fun k => k = b) wr w') :=
            ih j wr S b m ((HI.out.sub hlt).but hkm (fun x hx _ e => hS (e ▸ hx))) hS hbm hm (by have := htold.le; omega)
          unfold VT.row at HC
          clear hat
          go_wp2_with (first | (go_at_call 38; refine HO.mono ?_; rintro e w2 ⟨rfl, rfl⟩) | (go_at_call 67; refine HC.out.mono ?_; rintro e w3 ⟨rfl, m', hb3, ht3, hk3⟩))
          go_roundw
          case rel =>
            have hu := HT.out j
            refine ⟨j + 1, by omega, by go_num, m', hb3, ⟨fun h => ?_, ?_, ?_⟩, hkm.trans hk3⟩
            · have a1 := ht3.ok h
              have a2 := htold.ok hm
              refine ⟨a2.1, ?_⟩
              rw [hu]; omega
            · have a1 := ht3.le
              have a2 := htold.le
              omega
            · exact ht3.low
          case measure => simp [intOf]; omega
        · have hd : decide (0 ≤ m) = false := decide_eq_false hm
          rw [hd] at HO
          go_wp2_with (go_at_call 38; refine HO.mono ?_; rintro e w2 ⟨rfl, rfl⟩)
          go_end0
          exact ⟨rfl, m, hbm, ⟨fun h => absurd h (by omega), htold.le, htold.low⟩, hkm⟩
      · obtain rfl : j = n := by omega
        go_wp2_with fail
        go_end0
        refine ⟨rfl, m, hbm, ?_, hkm⟩
        rw [HE.out]
        exact htold

end Go.Proofs.YtfonicphdejdlaaGreat

namespace Go.Proofs.YtfonicphdejdlaaGreat
open Go.RowKit
set_option maxRecDepth 8000

set_option maxHeartbeats 400000 in
theorem szValues_neg (w : World) (b : Nat) (l : Int) (p : Option Addr) (n c : Nat) (hn : n ≤ 140737488355328) (hb : Box w b #[.int .i64 l] 128) (hl : l < 0) :
    Calls Tryz.prog 67 #[.pointer (some ⟨b, 0, none⟩), .slice p n c] w fun e w' => e = .returned (.tuple #[]) ∧ w' = w := by
  have HA := szAdd_neg w b l (n : Int) hb hl
  have HO := szOk_any w b l hb
  have hd : decide (0 ≤ l) = false := decide_eq_false (by omega)
  rw [hd] at HO
  clear hb
  by_cases h0 : 0 < n
  · have h0' : (0 : Int) < (n : Int) := by omega
    go_enter Tryz.func67, Tryz.ntmps67
    go_wp2_with (go_at_call 66; refine HA.mono ?_; rintro e w1 ⟨rfl, rfl⟩)
    refine wp_loop_rounds 1 ?_
    rw [rounds_succ]
    go_wp2_with (go_at_call 38; refine HO.mono ?_; rintro e w2 ⟨rfl, rfl⟩)
    go_end0
    exact ⟨rfl, rfl⟩
  · obtain rfl : n = 0 := by omega
    go_enter Tryz.func67, Tryz.ntmps67
    go_wp2_with (go_at_call 66; refine HA.mono ?_; rintro e w1 ⟨rfl, rfl⟩)
    refine wp_loop_rounds 1 ?_
    rw [rounds_succ]
    go_wp2_with fail
    go_end0
    exact ⟨rfl, rfl⟩

def SzPost (b : Nat) (l : Int) (k : Nat) (w : World) (e : Ending) (w' : World) : Prop := e = .returned (.tuple #[]) ∧ ∃ m, Box w' b #[.int .i64 m] 128 ∧ Told l m k ∧ But (fun k => k = b) w w'

theorem szValues_all (t : VT) (w : World) (S : Nat → Prop) (b : Nat) (l : Int) (hin : VT.In w S t) (hS : ¬ S b) (hb : Box w b #[.int .i64 l] 128) (hl : -1000000000000000 ≤ l) (hl2 : l ≤ 10000) :
    Calls Tryz.prog 67 #[.pointer (some ⟨b, 0, none⟩), t.row] w fun e w' => SzPost b l t.total w e w' := by
  by_cases h : 0 ≤ l
  · exact szValues_any t w S b l hin hS hb h hl2
  · refine (szValues_neg w b l t.p t.n t.c hin.fit.nn hb (by omega)).mono fun e w' hp => ?_
    obtain ⟨rfl, rfl⟩ := hp
    exact ⟨rfl, l, hb, ⟨fun h2 => absurd h2 h, Int.le_refl _, hl⟩, But.refl _ _⟩

theorem Told.add {l l1 m : Int} {j k : Nat} (h : l1 = l - j) (hl : 0 ≤ l) (t : Told l1 m k) : Told l m (j + k) :=
  ⟨fun h0 => ⟨hl, by have := t.ok h0; omega⟩, by have := t.le; omega, t.low⟩

set_option maxHeartbeats 1000000 in
theorem szRecord_any (r : RT) (w : World) (S : Nat → Prop) (b : Nat) (l : Int) (hin : RT.In w S r) (hS : ¬ S b) (hb : Box w b #[.int .i64 l] 128) (hl : 0 ≤ l) (hl2 : l ≤ 10000) :
    Calls Tryz.prog 34 #[.pointer (some ⟨b, 0, none⟩), r.val] w fun e w' => SzPost b l (1 + r.n + r.v.total) w e w' := by
  have hnn := hin.l.nn
  have hbl := hb.lt
  have HB : Hid (Box w b #[.int .i64 l] 128) := hb
  have HI : Hid (RT.In w S r) := hin
  unfold RT.val
  clear hin hb
  go_enter Tryz.func34, Tryz.ntmps34
  go_wp2_with fail
  have hal : Below w.heap.size w (w.alloc (.cells #[.string r.key, .int .i64 r.v.kind, .int .i64 r.v.int, .string r.v.text, .slice r.v.p r.v.n r.v.c, .slice r.p r.n r.c] 27)) := (Below.refl _ _).alloc (Nat.le_refl _) _
  have hbx := Box.new w #[.string r.key, .int .i64 r.v.kind, .int .i64 r.v.int, .string r.v.text, .slice r.v.p r.v.n r.v.c, .slice r.p r.n r.c] 27
  refine (szAdd_pos _ b l (1 + (r.n : Int)) (HB.out.below hal) hl hl2 (by omega) (by omega)).mono ?_
  rintro e w1 ⟨rfl, hb1, hk1⟩
  have hbx1 := hbx.but hk1 (show w.heap.size ≠ b by omega)
  have x4 := hbx1.cell 4
  simp at x4
  have HX : Hid (Box w1 b #[.int .i64 (l - (1 + (r.n : Int)))] 128 ∧ But (fun k => k = b) w w1) := ⟨hb1, (But.ofBelow hal).trans hk1⟩
  clear hb1 hk1 hbx hbx1 hal
  go_wp2_with fail
  have h := szValues_all r.v w1 S b (l - (1 + (r.n : Int))) ?_ hS HX.out.1 (by omega) (by omega)
  · refine h.mono ?_
    clear h
    rintro e w2 ⟨rfl, m, hb2, ht2, hk2⟩
    go_wp2_with fail
    go_end0
    refine ⟨rfl, m, hb2, ?_, HX.out.2.trans hk2⟩
    exact ht2.add (by omega) hl
  · exact HI.out.v.but HX.out.2 (fun x hx _ e => hS (e ▸ hx))

set_option maxHeartbeats 1000000 in
theorem szCells_any (s : ST) (w : World) (S : Nat → Prop) (b : Nat) (l : Int) (hin : ST.In w S s) (hS : ¬ S b) (hb : Box w b #[.int .i64 l] 128) (hl : 0 ≤ l) (hl2 : l ≤ 10000) :
    Calls Tryz.prog 35 #[.pointer (some ⟨b, 0, none⟩), .slice s.p s.n s.c] w fun e w' => SzPost b l s.total w e w' := by
  obtain ⟨num, p, n, c, f⟩ := s
  have hcc := hin.nn
  simp only at hcc ⊢
  have HT : Hid (∀ j, ST.upto ⟨num, p, n, c, f⟩ (j + 1) = ST.upto ⟨num, p, n, c, f⟩ j + (f j).total) := fun j => ST.upto_succ _ j
  have HE : Hid ((ST.mk num p n c f).total = n + ST.upto ⟨num, p, n, c, f⟩ n) := rfl
  have HA := szAdd_pos w b l (n : Int) hb hl hl2 (by omega) (by omega)
  clear hb
  go_enter Tryz.func35, Tryz.ntmps35
  go_wp2_with (go_at_call 66; refine HA.mono ?_; rintro e w1 ⟨rfl, hb1, hk1⟩)
  have HI : Hid (ST.In w S ⟨num, p, n, c, f⟩) := hin
  clear hin HA
  go_loopw [4] (fun x wr => ∃ j : Nat, j ≤ n ∧ x = .int .i64 j ∧ ∃ m : Int, Box wr b #[.int .i64 m] 128 ∧ Told l m (n + ST.upto ⟨num, p, n, c, f⟩ j) ∧ But (fun k => k = b) w wr) (fun x _ => n - (intOf x).toNat)
  case atStart => exact ⟨0, Nat.zero_le _, rfl, l - n, hb1, ⟨fun h => ⟨hl, by simp [ST.upto]⟩, by omega, by omega⟩, hk1⟩
  case round =>
    obtain ⟨j, hj, rfl, m, hbm, htold, hkm⟩ := hrel
    clear hb1 hk1
    have HO := szOk_any wr b m hbm
    by_cases hlt : j < n
    · have hlt' : (j : Int) < (n : Int) := by omega
      by_cases hm : 0 ≤ m
      · have hd : decide (0 ≤ m) = true := decide_eq_true hm
        rw [hd] at HO
        obtain ⟨bb, o, hp, hSb, hbl, hat⟩ := HI.out.at_ (show 0 < n by omega)
        simp only at hp
        subst hp
        have hne : bb ≠ b := fun e => hS (e ▸ hSb)
        have c3 := ((hat j hlt).kept (hkm.block bb hbl hne)).c1
        simp only at c3
        have HC : Hid (Calls Tryz.prog 67 #[.pointer (some ⟨b, 0, none⟩), (f j).row] wr fun e w' => SzPost b m (f j).total wr e w') :=
          szValues_all (f j) wr S b m ((HI.out.each j hlt).but hkm (fun x hx _ e => hS (e ▸ hx))) hS hbm (by omega) (by have := htold.le; omega)
        unfold VT.row at HC
        clear hat
        go_wp2_with (first | (go_at_call 38; refine HO.mono ?_; rintro e w2 ⟨rfl, rfl⟩) | (go_at_call 67; refine HC.out.mono ?_; rintro e w3 ⟨rfl, m', hb3, ht3, hk3⟩))
        go_roundw
        case rel =>
          have hu := HT.out j
          refine ⟨j + 1, by omega, by go_num, m', hb3, ⟨fun h => ?_, ?_, ?_⟩, hkm.trans hk3⟩
          · have a1 := ht3.ok h
            have a2 := htold.ok hm
            refine ⟨a2.1, ?_⟩
            rw [hu]; omega
          · have a1 := ht3.le
            have a2 := htold.le
            omega
          · exact ht3.low
        case measure => simp [intOf]; omega
      · have hd : decide (0 ≤ m) = false := decide_eq_false hm
        rw [hd] at HO
        go_wp2_with (go_at_call 38; refine HO.mono ?_; rintro e w2 ⟨rfl, rfl⟩)
        go_end0
        exact ⟨rfl, m, hbm, ⟨fun h => absurd h (by omega), htold.le, htold.low⟩, hkm⟩
    · obtain rfl : j = n := by omega
      go_wp2_with fail
      go_end0
      refine ⟨rfl, m, hbm, ?_, hkm⟩
      rw [HE.out]
      exact htold

theorem szNew_any (w' : World) : Calls Tryz.prog 33 #[] w' fun e w1 => e = .returned (.pointer (some ⟨w'.heap.size, 0, none⟩)) ∧ w1 = w'.alloc (.cells #[.int .i64 10000] 128) := by
  go_enter Tryz.func33, Tryz.ntmps33
  go_wp2
  go_ret
  exact ⟨rfl, rfl⟩

set_option maxHeartbeats 1000000 in
theorem szRecords_one (r : RT) (w : World) (S : Nat → Prop) (b : Nat) (l : Int) (hin : RT.In w S r) (hS : ¬ S b) (hb : Box w b #[.int .i64 l] 128) (hl : 0 ≤ l) (hl2 : l ≤ 10000) (ab : Nat) (hab : Box w ab #[.string r.key, .int .i64 r.v.kind, .int .i64 r.v.int, .string r.v.text, .slice r.v.p r.v.n r.v.c, .slice r.p r.n r.c] 27) :
    Calls Tryz.prog 69 #[.pointer (some ⟨b, 0, none⟩), .slice (some ⟨ab, 0, none⟩) 1 1] w fun e w' => SzPost b l (1 + r.n + r.v.total) w e w' := by
  have HO := szOk_any w b l hb
  rw [decide_eq_true hl] at HO
  have HC : Hid (Calls Tryz.prog 34 #[.pointer (some ⟨b, 0, none⟩), r.val] w fun e w' => SzPost b l (1 + r.n + r.v.total) w e w') := szRecord_any r w S b l hin hS hb hl hl2
  unfold RT.val at HC
  have x0 := hab.cell 0
  have x1 := hab.cell 1
  have x2 := hab.cell 2
  have x3 := hab.cell 3
  have x4 := hab.cell 4
  have x5 := hab.cell 5
  simp at x0 x1 x2 x3 x4 x5
  clear hab hin hb hS
  go_enter Tryz.func69, Tryz.ntmps69
  go_wp2_with fail
  refine wp_loop_rounds 2 ?_
  rw [rounds_succ]
  go_wp2_with (go_at_call 38; refine HO.mono ?_; rintro e w2 ⟨rfl, rfl⟩)
  refine HC.out.mono ?_
  rintro e w3 ⟨rfl, hp⟩
  go_wp2_with fail
  rw [rounds_succ]
  go_wp2_with fail
  go_end0
  exact ⟨rfl, hp⟩

end Go.Proofs.YtfonicphdejdlaaGreat

namespace Go.Proofs.YtfonicphdejdlaaGreat
open Go.RowKit
set_option maxRecDepth 8000

/-- a counter -/
def Cn (w : World) (b : Nat) : Prop := ∃ l : Int, Box w b #[.int .i64 l] 128 ∧ -1000000000000000 ≤ l ∧ l ≤ 10000
def CPost (b : Nat) (w : World) (e : Ending) (w' : World) : Prop := e = .returned (.tuple #[]) ∧ Cn w' b ∧ But (fun k => k = b) w w'
theorem Cn.lt {w : World} {b : Nat} (h : Cn w b) : b < w.heap.size := by obtain ⟨l, h, _⟩ := h; exact h.lt
theorem Cn.below {w w' : World} {b : Nat} (h : Cn w b) (hb : Below w.heap.size w w') : Cn w' b := by obtain ⟨l, h, h2⟩ := h; exact ⟨l, h.below hb, h2⟩
theorem cOk (w : World) (b : Nat) (h : Cn w b) : ∃ x : Bool, Calls Tryz.prog 38 #[.pointer (some ⟨b, 0, none⟩)] w fun e w' => e = .returned (.bool x) ∧ w' = w := by
  obtain ⟨l, h, _⟩ := h
  exact ⟨_, szOk_any w b l h⟩
theorem cAdd (w : World) (b : Nat) (n : Int) (h : Cn w b) (hn : 0 ≤ n) (hn2 : n ≤ 281474976710656) : Calls Tryz.prog 66 #[.pointer (some ⟨b, 0, none⟩), .int .i64 n] w fun e w' => ∃ x, e = .returned (.bool x) ∧ Cn w' b ∧ But (fun k => k = b) w w' := by
  obtain ⟨l, h, h1, h2⟩ := h
  by_cases hl : 0 ≤ l
  · exact (szAdd_pos w b l n h hl h2 hn hn2).mono fun e w' hp => ⟨_, hp.1, ⟨l - n, hp.2.1, by omega, by omega⟩, hp.2.2⟩
  · refine (szAdd_neg w b l n h (by omega)).mono fun e w' hp => ?_
    obtain ⟨rfl, rfl⟩ := hp
    exact ⟨_, rfl, ⟨l, h, h1, h2⟩, But.refl _ _⟩
theorem cValues (t : VT) (w : World) (S : Nat → Prop) (b : Nat) (hin : VT.In w S t) (hS : ¬ S b) (h : Cn w b) : Calls Tryz.prog 67 #[.pointer (some ⟨b, 0, none⟩), .slice t.p t.n t.c] w fun e w' => CPost b w e w' := by
  obtain ⟨l, h, h1, h2⟩ := h
  refine (szValues_all t w S b l hin hS h h1 h2).mono fun e w' hp => ?_
  obtain ⟨rfl, m, hb, ht, hk⟩ := hp
  exact ⟨rfl, ⟨m, hb, ht.low, by have := ht.le; omega⟩, hk⟩
set_option maxHeartbeats 1000000 in
theorem cRecord (r : RT) (w : World) (S : Nat → Prop) (b : Nat) (hin : RT.In w S r) (hS : ¬ S b) (h : Cn w b) : Calls Tryz.prog 34 #[.pointer (some ⟨b, 0, none⟩), r.val] w fun e w' => CPost b w e w' := by
  have hnn := hin.l.nn
  have hbl := h.lt
  have HB := hid h
  have HI := hid hin
  unfold RT.val
  clear hin h
  have hal : Below w.heap.size w (w.alloc (.cells #[.string r.key, .int .i64 r.v.kind, .int .i64 r.v.int, .string r.v.text, .slice r.v.p r.v.n r.v.c, .slice r.p r.n r.c] 27)) := (Below.refl _ _).alloc (Nat.le_refl _) _
  have HL := hid hal
  clear hal
  go_enter Tryz.func34, Tryz.ntmps34
  go_wp2_with fail
  have hbx := Box.new w #[.string r.key, .int .i64 r.v.kind, .int .i64 r.v.int, .string r.v.text, .slice r.v.p r.v.n r.v.c, .slice r.p r.n r.c] 27
  refine (cAdd _ b (1 + (r.n : Int)) (HB.out.below HL.out) (by omega) (by omega)).mono ?_
  rintro e w1 ⟨x, rfl, hb1, hk1⟩
  have hbx1 := hbx.but hk1 (show w.heap.size ≠ b by omega)
  have x4 := hbx1.cell 4
  simp at x4
  have HX := hid (And.intro hb1 ((But.ofBelow HL.out).trans hk1))
  clear hb1 hk1 hbx hbx1
  go_wp2_with fail
  refine (cValues r.v w1 S b (HI.out.v.but HX.out.2 (fun x hx _ e => hS (e ▸ hx))) hS HX.out.1).mono ?_
  rintro e w2 ⟨rfl, hc2, hk2⟩
  go_wp2_with fail
  go_end0
  exact ⟨rfl, hc2, HX.out.2.trans hk2⟩
set_option maxHeartbeats 1000000 in
theorem cCells (l : LT VT) (w : World) (S : Nat → Prop) (b : Nat) (hin : LT.In elCell w S l) (hS : ¬ S b) (h : Cn w b) : Calls Tryz.prog 35 #[.pointer (some ⟨b, 0, none⟩), .slice l.p l.n l.c] w fun e w' => CPost b w e w' := by
  obtain ⟨p, n, c, f⟩ := l
  have hcc := hin.nn
  simp only at hcc ⊢
  have HA := cAdd w b (n : Int) h (by omega) (by omega)
  clear h
  go_enter Tryz.func35, Tryz.ntmps35
  go_wp2_with (go_at_call 66; refine HA.mono ?_; rintro e w1 ⟨x1, rfl, hb1, hk1⟩)
  have HI := hid hin
  clear hin HA
  go_loopw [4] (fun x wr => ∃ j : Nat, j ≤ n ∧ x = .int .i64 j ∧ Cn wr b ∧ But (fun k => k = b) w wr) (fun x _ => n - (intOf x).toNat)
  case atStart => exact ⟨0, Nat.zero_le _, rfl, hb1, hk1⟩
  case round =>
    obtain ⟨j, hj, rfl, hbm, hkm⟩ := hrel
    clear hb1 hk1
    obtain ⟨x2, HO⟩ := cOk wr b hbm
    by_cases hlt : j < n
    · have hlt' : (j : Int) < (n : Int) := by omega
      obtain ⟨bb, o, hp, hSb, hbl, hat⟩ := HI.out.at_ (show 0 < n by omega)
      simp only at hp
      subst hp
      have hne : bb ≠ b := fun e => hS (e ▸ hSb)
      have c3 : wr.cell? ⟨bb, o + j * 2 + 1, none⟩ = some (.slice (f j).p (f j).n (f j).c) := (World.cell?_of_block (a := ⟨bb, o + j * 2 + 1, none⟩) (hkm.block bb hbl hne)).trans (hat j hlt 1 _ rfl)
      have HC := hid (cValues (f j) wr S b ((HI.out.each j hlt).but hkm (fun x hx _ e => hS (e ▸ hx))) hS hbm)
      have HK := hid (And.intro hbm hkm)
      clear hat hbm hkm
      cases x2
      · go_wp2_with (go_at_call 38; refine HO.mono ?_; rintro e w2 ⟨rfl, rfl⟩)
        go_end0
        exact ⟨rfl, HK.out.1, HK.out.2⟩
      · go_wp2_with (first | (go_at_call 38; refine HO.mono ?_; rintro e w2 ⟨rfl, rfl⟩) | (go_at_call 67; refine HC.out.mono ?_; rintro e w3 ⟨rfl, hb3, hk3⟩))
        go_roundw
        case rel => exact ⟨j + 1, by omega, by go_num, hb3, HK.out.2.trans hk3⟩
        case measure => simp [intOf]; omega
    · obtain rfl : j = n := by omega
      go_wp2_with fail
      go_end0
      exact ⟨rfl, hbm, hkm⟩
set_option maxHeartbeats 1000000 in
theorem cRecords (l : LT RT) (w : World) (S : Nat → Prop) (b : Nat) (hin : LT.In elRec w S l) (hS : ¬ S b) (h : Cn w b) : Calls Tryz.prog 69 #[.pointer (some ⟨b, 0, none⟩), .slice l.p l.n l.c] w fun e w' => CPost b w e w' := by
  obtain ⟨p, n, c, f⟩ := l
  have hcc := hin.nn
  simp only at hcc ⊢
  have HI := hid hin
  have HB := hid h
  clear hin h
  go_enter Tryz.func69, Tryz.ntmps69
  go_wp2_with fail
  go_loopw [4] (fun x wr => ∃ j : Nat, j ≤ n ∧ x = .int .i64 j ∧ Cn wr b ∧ But (fun k => k = b) w wr) (fun x _ => n - (intOf x).toNat)
  case atStart => exact ⟨0, Nat.zero_le _, rfl, HB.out, But.refl _ _⟩
  case round =>
    obtain ⟨j, hj, rfl, hbm, hkm⟩ := hrel
    obtain ⟨x2, HO⟩ := cOk wr b hbm
    by_cases hlt : j < n
    · have hlt' : (j : Int) < (n : Int) := by omega
      obtain ⟨bb, o, hp, hSb, hbl, hat⟩ := HI.out.at_ (show 0 < n by omega)
      simp only at hp
      subst hp
      have hne : bb ≠ b := fun e => hS (e ▸ hSb)
      have hca : ∀ r u, (elRec.cells (f j))[r]? = some u → wr.cell? ⟨bb, o + j * 6 + r, none⟩ = some u := fun r u hu => (World.cell?_of_block (a := ⟨bb, o + j * 6 + r, none⟩) (hkm.block bb hbl hne)).trans (hat j hlt r u hu)
      have d0 := hca 0 _ rfl
      have d1 := hca 1 _ rfl
      have d2 := hca 2 _ rfl
      have d3 := hca 3 _ rfl
      have d4 := hca 4 _ rfl
      have d5 := hca 5 _ rfl
      simp only [Nat.add_zero] at d0
      have hi : RT.In w S (f j) := HI.out.each j hlt
      have HC := hid (cRecord (f j) wr S b (hi.but hkm (fun x hx _ e => hS (e ▸ hx))) hS hbm)
      unfold RT.val at HC
      have HK := hid (And.intro hbm hkm)
      clear hat hbm hkm hca hi
      cases x2
      · go_wp2_with (go_at_call 38; refine HO.mono ?_; rintro e w2 ⟨rfl, rfl⟩)
        go_end0
        exact ⟨rfl, HK.out.1, HK.out.2⟩
      · go_wp2_with (first | (go_at_call 38; refine HO.mono ?_; rintro e w2 ⟨rfl, rfl⟩) | (go_at_call 34; refine HC.out.mono ?_; rintro e w3 ⟨rfl, hb3, hk3⟩))
        go_roundw
        case rel => exact ⟨j + 1, by omega, by go_num, hb3, HK.out.2.trans hk3⟩
        case measure => simp [intOf]; omega
    · obtain rfl : j = n := by omega
      go_wp2_with fail
      go_end0
      exact ⟨rfl, hbm, hkm⟩
set_option maxHeartbeats 1000000 in
theorem cLists (l : LT (LT RT)) (w : World) (S : Nat → Prop) (b : Nat) (hin : LT.In elRecs w S l) (hS : ¬ S b) (h : Cn w b) : Calls Tryz.prog 68 #[.pointer (some ⟨b, 0, none⟩), .slice l.p l.n l.c] w fun e w' => CPost b w e w' := by
  obtain ⟨p, n, c, f⟩ := l
  have hcc := hin.nn
  simp only at hcc ⊢
  have HA := cAdd w b (n : Int) h (by omega) (by omega)
  clear h
  go_enter Tryz.func68, Tryz.ntmps68
  go_wp2_with (go_at_call 66; refine HA.mono ?_; rintro e w1 ⟨x1, rfl, hb1, hk1⟩)
  have HI := hid hin
  clear hin HA
  go_loopw [4] (fun x wr => ∃ j : Nat, j ≤ n ∧ x = .int .i64 j ∧ Cn wr b ∧ But (fun k => k = b) w wr) (fun x _ => n - (intOf x).toNat)
  case atStart => exact ⟨0, Nat.zero_le _, rfl, hb1, hk1⟩
  case round =>
    obtain ⟨j, hj, rfl, hbm, hkm⟩ := hrel
    clear hb1 hk1
    obtain ⟨x2, HO⟩ := cOk wr b hbm
    by_cases hlt : j < n
    · have hlt' : (j : Int) < (n : Int) := by omega
      obtain ⟨bb, o, hp, hSb, hbl, hat⟩ := HI.out.at_ (show 0 < n by omega)
      simp only at hp
      subst hp
      have hne : bb ≠ b := fun e => hS (e ▸ hSb)
      have c3 : wr.cell? ⟨bb, o + j, none⟩ = some (.slice (f j).p (f j).n (f j).c) := by
        have h1 := hat j hlt 0 _ rfl
        simp [elRecs] at h1
        exact (World.cell?_of_block (a := ⟨bb, o + j, none⟩) (hkm.block bb hbl hne)).trans h1
      have hi : LT.In elRec w S (f j) := HI.out.each j hlt
      have HC := hid (cRecords (f j) wr S b (hi.but hkm (fun x hx _ e => hS (e ▸ hx))) hS hbm)
      have HK := hid (And.intro hbm hkm)
      clear hat hbm hkm hi
      cases x2
      · go_wp2_with (go_at_call 38; refine HO.mono ?_; rintro e w2 ⟨rfl, rfl⟩)
        go_end0
        exact ⟨rfl, HK.out.1, HK.out.2⟩
      · go_wp2_with (first | (go_at_call 38; refine HO.mono ?_; rintro e w2 ⟨rfl, rfl⟩) | (go_at_call 69; refine HC.out.mono ?_; rintro e w3 ⟨rfl, hb3, hk3⟩))
        go_roundw
        case rel => exact ⟨j + 1, by omega, by go_num, hb3, HK.out.2.trans hk3⟩
        case measure => simp [intOf]; omega
    · obtain rfl : j = n := by omega
      go_wp2_with fail
      go_end0
      exact ⟨rfl, hbm, hkm⟩
end Go.Proofs.YtfonicphdejdlaaGreat

namespace Go.Proofs.YtfonicphdejdlaaGreat
open Go.RowKit
set_option maxRecDepth 8000

set_option maxHeartbeats 4000000 in
theorem ckSeg_other (g : GI) (w : World) (hb : bnd g) (ho : other g = true) : Calls Tryz.prog 43 #[g.val] w fun x w' => errPost 41 w x w' := by
  have hbx := Box.new w #[.int .i64 g.id, .int .i64 g.task, .int .i64 g.base, .int .u32 (g.sum : Int), .int .i64 g.st.num, .slice g.st.p g.st.n g.st.c, .int .i64 g.dnum, .slice g.set.p g.set.n g.set.c, .slice g.gone.p g.gone.n g.gone.c, .slice g.logs.p g.logs.n g.logs.c, .slice g.pend.p g.pend.n g.pend.c] 38
  have c0 := hbx.cell 0
  have c1 := hbx.cell 1
  have c2 := hbx.cell 2
  have c3 := hbx.cell 3
  have c4 := hbx.cell 4
  have c5 := hbx.cell 5
  have c6 := hbx.cell 6
  have c7 := hbx.cell 7
  have c8 := hbx.cell 8
  have c9 := hbx.cell 9
  have c10 := hbx.cell 10
  simp only [List.getElem?_toArray, List.getElem?_cons_zero, List.getElem?_cons_succ] at c0 c1 c2 c3 c4 c5 c6 c7 c8 c9 c10
  have ha : Below w.heap.size w (w.alloc (.cells #[.int .i64 g.id, .int .i64 g.task, .int .i64 g.base, .int .u32 (g.sum : Int), .int .i64 g.st.num, .slice g.st.p g.st.n g.st.c, .int .i64 g.dnum, .slice g.set.p g.set.n g.set.c, .slice g.gone.p g.gone.n g.gone.c, .slice g.logs.p g.logs.n g.logs.c, .slice g.pend.p g.pend.n g.pend.c] 38)) := (Below.refl _ _).alloc (Nat.le_refl _) _
  have HA := hid ha
  have HBx := hid hbx
  have HW1 := fun W => within_yes g.id 9999 hb.1.1 hb.1.2 W
  have HW2 := fun W => within_yes g.task 11 hb.2.1.1 hb.2.1.2 W
  have HW3 := fun W => within_yes g.base 9999 hb.2.2.1 hb.2.2.2 W
  have HO := hid (hoks_gen g (w.alloc (.cells #[.int .i64 g.id, .int .i64 g.task, .int .i64 g.base, .int .u32 (g.sum : Int), .int .i64 g.st.num, .slice g.st.p g.st.n g.st.c, .int .i64 g.dnum, .slice g.set.p g.set.n g.set.c, .slice g.gone.p g.gone.n g.gone.c, .slice g.logs.p g.logs.n g.logs.c, .slice g.pend.p g.pend.n g.pend.c] 38)))
  unfold GI.val at HO ⊢
  clear hb
  rw [ho] at HO
  clear hbx ha
  go_enter Tryz.func43, Tryz.ntmps43
  go_wp2_with fail
  refine (HW1 _).mono ?_
  rintro x w1 ⟨rfl, hw1⟩
  subst w1
  go_wp2_with fail
  refine (HW2 _).mono ?_
  rintro x w1 ⟨rfl, hw1⟩
  subst w1
  go_wp2_with fail
  refine (HW3 _).mono ?_
  rintro x w1 ⟨rfl, hw1⟩
  subst w1
  go_wp2_with fail
  refine HO.out.mono ?_
  rintro x w1 ⟨rfl, hb1⟩
  have HB1 := hid (HA.out.trans (hb1.mono HA.out.size))
  clear hb1
  go_wp2
  go_ret
  exact ⟨rfl, HB1.out⟩
set_option maxHeartbeats 4000000 in
theorem ckSeg_kept (g : GI) (w : World) (S : Nat → Prop) (hin : GI.In w S g) (hS : ∀ b, S b → b < w.heap.size) (hb : bnd g) (ho : other g = false) (hkz : ((chkKept g : Int) != 0) = true) : Calls Tryz.prog 43 #[g.val] w fun x w' => errPost (chkKept g) w x w' := by
  obtain ⟨res, hres⟩ : ∃ res, res = chkKept g := ⟨_, rfl⟩
  rw [← hres]
  have HR0 := hid hres
  clear hres
  have hbx := Box.new w #[.int .i64 g.id, .int .i64 g.task, .int .i64 g.base, .int .u32 (g.sum : Int), .int .i64 g.st.num, .slice g.st.p g.st.n g.st.c, .int .i64 g.dnum, .slice g.set.p g.set.n g.set.c, .slice g.gone.p g.gone.n g.gone.c, .slice g.logs.p g.logs.n g.logs.c, .slice g.pend.p g.pend.n g.pend.c] 38
  have c0 := hbx.cell 0
  have c1 := hbx.cell 1
  have c2 := hbx.cell 2
  have c3 := hbx.cell 3
  have c4 := hbx.cell 4
  have c5 := hbx.cell 5
  have c6 := hbx.cell 6
  have c7 := hbx.cell 7
  have c8 := hbx.cell 8
  have c9 := hbx.cell 9
  have c10 := hbx.cell 10
  simp only [List.getElem?_toArray, List.getElem?_cons_zero, List.getElem?_cons_succ] at c0 c1 c2 c3 c4 c5 c6 c7 c8 c9 c10
  have ha : Below w.heap.size w (w.alloc (.cells #[.int .i64 g.id, .int .i64 g.task, .int .i64 g.base, .int .u32 (g.sum : Int), .int .i64 g.st.num, .slice g.st.p g.st.n g.st.c, .int .i64 g.dnum, .slice g.set.p g.set.n g.set.c, .slice g.gone.p g.gone.n g.gone.c, .slice g.logs.p g.logs.n g.logs.c, .slice g.pend.p g.pend.n g.pend.c] 38)) := (Below.refl _ _).alloc (Nat.le_refl _) _
  have HA := hid ha
  have HBx := hid hbx
  have HW1 := fun W => within_yes g.id 9999 hb.1.1 hb.1.2 W
  have HW2 := fun W => within_yes g.task 11 hb.2.1.1 hb.2.1.2 W
  have HW3 := fun W => within_yes g.base 9999 hb.2.2.1 hb.2.2.2 W
  have HO := hid (hoks_gen g (w.alloc (.cells #[.int .i64 g.id, .int .i64 g.task, .int .i64 g.base, .int .u32 (g.sum : Int), .int .i64 g.st.num, .slice g.st.p g.st.n g.st.c, .int .i64 g.dnum, .slice g.set.p g.set.n g.set.c, .slice g.gone.p g.gone.n g.gone.c, .slice g.logs.p g.logs.n g.logs.c, .slice g.pend.p g.pend.n g.pend.c] 38)))
  unfold GI.val at HO ⊢
  clear hb
  rw [ho] at HO
  have HIn := hid (hin.below ha)
  have HS2 : Hid (∀ b, S b → b < (w.alloc (.cells #[.int .i64 g.id, .int .i64 g.task, .int .i64 g.base, .int .u32 (g.sum : Int), .int .i64 g.st.num, .slice g.st.p g.st.n g.st.c, .int .i64 g.dnum, .slice g.set.p g.set.n g.set.c, .slice g.gone.p g.gone.n g.gone.c, .slice g.logs.p g.logs.n g.logs.c, .slice g.pend.p g.pend.n g.pend.c] 38)).heap.size) := fun b hb => by have := hS b hb; have := ha.size; omega
  clear hin hS ha hbx
  go_enter Tryz.func43, Tryz.ntmps43
  go_wp2_with fail
  refine (HW1 _).mono ?_
  rintro x w1 ⟨rfl, hw1⟩
  subst w1
  go_wp2_with fail
  refine (HW2 _).mono ?_
  rintro x w1 ⟨rfl, hw1⟩
  subst w1
  go_wp2_with fail
  refine (HW3 _).mono ?_
  rintro x w1 ⟨rfl, hw1⟩
  subst w1
  go_wp2_with fail
  refine HO.out.mono ?_
  rintro x w1 ⟨rfl, hb1⟩
  have hx1 := HBx.out.below hb1
  have y0 := hx1.cell 0
  have y1 := hx1.cell 1
  have y2 := hx1.cell 2
  have y3 := hx1.cell 3
  have y4 := hx1.cell 4
  have y5 := hx1.cell 5
  have y6 := hx1.cell 6
  have y7 := hx1.cell 7
  have y8 := hx1.cell 8
  have y9 := hx1.cell 9
  have y10 := hx1.cell 10
  simp only [List.getElem?_toArray, List.getElem?_cons_zero, List.getElem?_cons_succ] at y0 y1 y2 y3 y4 y5 y6 y7 y8 y9 y10
  have hi1 := HIn.out.below hb1
  have HK := hid (ckKept_gen g w1 S hi1 (fun b hb => by have := HS2.out b hb; have := hb1.size; omega))
  have HX1 := hid hx1
  have HI1 := hid hi1
  have HB1 := hid hb1
  obtain ⟨k, hk⟩ : ∃ k, k = chkKept g := ⟨_, rfl⟩
  rw [← hk] at HK hkz
  have HKk : Hid (res = k) := by show res = k; rw [HR0.out, hk]
  unfold GI.val at HK
  clear hx1 hi1 hb1 HO HW1 HW2 HW3 c0 c1 c2 c3 c4 c5 c6 c7 c8 c9 c10 hk
  go_wp2_with fail
  refine HK.out.mono ?_
  rintro x w2 ⟨rfl, hb2⟩
  have HB2 := hid ((HA.out.trans (HB1.out.mono HA.out.size)).trans (hb2.mono (by have := HB1.out.size; have := HA.out.size; omega)))
  clear hb2 HK
  go_wp2
  go_ret
  exact ⟨by rw [HKk.out]; rfl, HB2.out⟩
set_option maxHeartbeats 8000000 in
theorem ckSeg_rest (g : GI) (w : World) (S : Nat → Prop) (hin : GI.In w S g) (hS : ∀ b, S b → b < w.heap.size) (hb : bnd g) (ho : other g = false) (hkz : ((chkKept g : Int) != 0) = false) : Calls Tryz.prog 43 #[g.val] w fun x w' => errPost (if chkLogs g = 0 then chkRecs g.pend else chkLogs g) w x w' := by
  have E : Hid (chkLogs g = if 4 < g.logs.n then 43 else firstC (fun j => chkRecs (g.logs.item j)) g.logs.n) := rfl
  generalize chkLogs g = lg at *
  obtain ⟨res, hres⟩ : ∃ res, res = (if lg = 0 then chkRecs g.pend else lg) := ⟨_, rfl⟩
  rw [← hres]
  have HRes := hid hres
  clear hres
  have hbx := Box.new w #[.int .i64 g.id, .int .i64 g.task, .int .i64 g.base, .int .u32 (g.sum : Int), .int .i64 g.st.num, .slice g.st.p g.st.n g.st.c, .int .i64 g.dnum, .slice g.set.p g.set.n g.set.c, .slice g.gone.p g.gone.n g.gone.c, .slice g.logs.p g.logs.n g.logs.c, .slice g.pend.p g.pend.n g.pend.c] 38
  have c0 := hbx.cell 0
  have c1 := hbx.cell 1
  have c2 := hbx.cell 2
  have c3 := hbx.cell 3
  have c4 := hbx.cell 4
  have c5 := hbx.cell 5
  have c6 := hbx.cell 6
  have c7 := hbx.cell 7
  have c8 := hbx.cell 8
  have c9 := hbx.cell 9
  have c10 := hbx.cell 10
  simp only [List.getElem?_toArray, List.getElem?_cons_zero, List.getElem?_cons_succ] at c0 c1 c2 c3 c4 c5 c6 c7 c8 c9 c10
  have ha : Below w.heap.size w (w.alloc (.cells #[.int .i64 g.id, .int .i64 g.task, .int .i64 g.base, .int .u32 (g.sum : Int), .int .i64 g.st.num, .slice g.st.p g.st.n g.st.c, .int .i64 g.dnum, .slice g.set.p g.set.n g.set.c, .slice g.gone.p g.gone.n g.gone.c, .slice g.logs.p g.logs.n g.logs.c, .slice g.pend.p g.pend.n g.pend.c] 38)) := (Below.refl _ _).alloc (Nat.le_refl _) _
  have HA := hid ha
  have HBx := hid hbx
  have HW1 := fun W => within_yes g.id 9999 hb.1.1 hb.1.2 W
  have HW2 := fun W => within_yes g.task 11 hb.2.1.1 hb.2.1.2 W
  have HW3 := fun W => within_yes g.base 9999 hb.2.2.1 hb.2.2.2 W
  have HO := hid (hoks_gen g (w.alloc (.cells #[.int .i64 g.id, .int .i64 g.task, .int .i64 g.base, .int .u32 (g.sum : Int), .int .i64 g.st.num, .slice g.st.p g.st.n g.st.c, .int .i64 g.dnum, .slice g.set.p g.set.n g.set.c, .slice g.gone.p g.gone.n g.gone.c, .slice g.logs.p g.logs.n g.logs.c, .slice g.pend.p g.pend.n g.pend.c] 38)))
  unfold GI.val at HO ⊢
  clear hb
  rw [ho] at HO
  have HIn := hid (hin.below ha)
  have HS2 : Hid (∀ b, S b → b < (w.alloc (.cells #[.int .i64 g.id, .int .i64 g.task, .int .i64 g.base, .int .u32 (g.sum : Int), .int .i64 g.st.num, .slice g.st.p g.st.n g.st.c, .int .i64 g.dnum, .slice g.set.p g.set.n g.set.c, .slice g.gone.p g.gone.n g.gone.c, .slice g.logs.p g.logs.n g.logs.c, .slice g.pend.p g.pend.n g.pend.c] 38)).heap.size) := fun b hb => by have := hS b hb; have := ha.size; omega
  clear hin hS ha hbx
  go_enter Tryz.func43, Tryz.ntmps43
  go_wp2_with fail
  refine (HW1 _).mono ?_
  rintro x w1 ⟨rfl, hw1⟩
  subst w1
  go_wp2_with fail
  refine (HW2 _).mono ?_
  rintro x w1 ⟨rfl, hw1⟩
  subst w1
  go_wp2_with fail
  refine (HW3 _).mono ?_
  rintro x w1 ⟨rfl, hw1⟩
  subst w1
  go_wp2_with fail
  refine HO.out.mono ?_
  rintro x w1 ⟨rfl, hb1⟩
  have hx1 := HBx.out.below hb1
  have y0 := hx1.cell 0
  have y1 := hx1.cell 1
  have y2 := hx1.cell 2
  have y3 := hx1.cell 3
  have y4 := hx1.cell 4
  have y5 := hx1.cell 5
  have y6 := hx1.cell 6
  have y7 := hx1.cell 7
  have y8 := hx1.cell 8
  have y9 := hx1.cell 9
  have y10 := hx1.cell 10
  simp only [List.getElem?_toArray, List.getElem?_cons_zero, List.getElem?_cons_succ] at y0 y1 y2 y3 y4 y5 y6 y7 y8 y9 y10
  have hi1 := HIn.out.below hb1
  have HK := hid (ckKept_gen g w1 S hi1 (fun b hb => by have := HS2.out b hb; have := hb1.size; omega))
  have HX1 := hid hx1
  have HI1 := hid hi1
  have HB1 := hid hb1
  obtain ⟨k, hk⟩ : ∃ k, k = chkKept g := ⟨_, rfl⟩
  rw [← hk] at HK hkz
  unfold GI.val at HK
  clear hx1 hi1 hb1 HO HW1 HW2 HW3 c0 c1 c2 c3 c4 c5 c6 c7 c8 c9 c10 hk
  go_wp2_with fail
  refine HK.out.mono ?_
  rintro x w2 ⟨rfl, hb2⟩
  have hx2 := HX1.out.below hb2
  have z0 := hx2.cell 0
  have z1 := hx2.cell 1
  have z2 := hx2.cell 2
  have z3 := hx2.cell 3
  have z4 := hx2.cell 4
  have z5 := hx2.cell 5
  have z6 := hx2.cell 6
  have z7 := hx2.cell 7
  have z8 := hx2.cell 8
  have z9 := hx2.cell 9
  have z10 := hx2.cell 10
  simp only [List.getElem?_toArray, List.getElem?_cons_zero, List.getElem?_cons_succ] at z0 z1 z2 z3 z4 z5 z6 z7 z8 z9 z10
  have HI2 := hid (HI1.out.below hb2)
  have HX2 := hid hx2
  have hsA := HA.out.size
  have hs1 := HB1.out.size
  have HB2 := hid ((HA.out.trans (HB1.out.mono hsA)).trans (hb2.mono (by omega)))
  have HS3 : Hid (∀ b, S b → b < w2.heap.size) := fun b hb => by have := HS2.out b hb; have := hb2.size; omega
  clear hx2 hb2 HK HX1 HI1 HB1 y0 y1 y2 y3 y4 y5 y6 y7 y8 y9 y10 hsA hs1 HS2 HIn HA HBx
  by_cases hln : 4 < g.logs.n
  · have hln' : (4 : Int) < (g.logs.n : Int) := by omega
    have HR : Hid (res = 43) := by
      have e := E.out
      have r := HRes.out
      rw [if_pos hln] at e
      rw [e, if_neg (by decide)] at r
      exact r
    clear E HRes
    go_wp2
    go_ret
    exact ⟨by rw [HR.out]; rfl, HB2.out⟩
  have hln' : ¬ (4 : Int) < (g.logs.n : Int) := by omega
  have E2 : Hid (lg = firstC (fun j => chkRecs (g.logs.item j)) g.logs.n) := by have e := E.out; rw [if_neg hln] at e; exact e
  clear E
  go_wp2_with fail
  go_loopw [37] (fun x wr => ∃ j : Nat, j ≤ g.logs.n ∧ x = .int .i64 j ∧ Below w2.heap.size w2 wr ∧ firstC (fun j => chkRecs (g.logs.item j)) j = 0) (fun x _ => g.logs.n - (intOf x).toNat)
  case atStart => exact ⟨0, Nat.zero_le _, rfl, Below.refl _ _, rfl⟩
  case round =>
    obtain ⟨j, hj, rfl, hbel, hzz⟩ := hrel
    have HZ := hid hzz
    clear hzz
    have hsr := hbel.size
    by_cases hlt : j < g.logs.n
    · have hlt' : (j : Int) < (g.logs.n : Int) := by omega
      obtain ⟨bb, o, hp, hSb, hbl, hat⟩ := HI2.out.logs.at_ (by omega)
      have d0 : wr.cell? ⟨bb, o + j, none⟩ = some (.slice (g.logs.item j).p (g.logs.item j).n (g.logs.item j).c) := by
        have h1 := hat j hlt 0 _ rfl
        simp [elRecs] at h1
        exact (World.cell?_of_block (a := ⟨bb, o + j, none⟩) (hbel.block bb hbl)).trans h1
      rw [hp]
      have hi : LT.In elRec w2 S (g.logs.item j) := HI2.out.logs.each j hlt
      have HC := hid (ckRecords_gen (g.logs.item j) wr S (hi.below hbel) (fun b hb => by have := HS3.out b hb; omega))
      have HB := hid hbel
      have HP := hid hp
      obtain ⟨u, hu⟩ : ∃ u, u = chkRecs (g.logs.item j) := ⟨_, rfl⟩
      rw [← hu] at HC
      have HU := hid hu
      clear hat hi hbel hp hu
      go_wp2_with fail
      refine HC.out.mono ?_
      rintro e w3 ⟨rfl, hb3⟩
      have HB3 := hid (HB.out.trans (hb3.mono HB.out.size))
      clear hb3 HC d0
      cases hu0 : ((u : Int) != 0)
      · have HZ2 : Hid (firstC (fun j => chkRecs (g.logs.item j)) (j + 1) = 0) := by
          show firstC (fun j => chkRecs (g.logs.item j)) (j + 1) = 0
          rw [firstC_succ HZ.out, ← HU.out]
          simpa using hu0
        go_wp2
        go_roundw
        case rel => exact ⟨j + 1, by omega, by go_num, HB3.out, HZ2.out⟩
        case measure => simp [intOf]; omega
      · have HR : Hid (res = u) := by
          have hne : u ≠ 0 := by simpa using hu0
          show res = u
          have e : lg = u := by rw [E2.out, firstC_hit HZ.out hlt (by show chkRecs (g.logs.item j) ≠ 0; rw [← HU.out]; exact hne), HU.out]
          rw [HRes.out, e, if_neg hne]
        have HB4 := hid (HB2.out.trans (HB3.out.mono HB2.out.size))
        go_wp2
        go_ret
        exact ⟨by rw [HR.out]; rfl, HB4.out⟩
    · obtain rfl : j = g.logs.n := by omega
      have hlt' : ¬ (g.logs.n : Int) < (g.logs.n : Int) := by omega
      have hx3 := HX2.out.below hbel
      have q10 := hx3.cell 10
      simp only [List.getElem?_toArray, List.getElem?_cons_zero, List.getElem?_cons_succ] at q10
      have HC := hid (ckRecords_gen g.pend wr S (HI2.out.pend.below hbel) (fun b hb => by have := HS3.out b hb; omega))
      have HB := hid (HB2.out.trans (hbel.mono HB2.out.size))
      have HR : Hid (res = chkRecs g.pend) := by
        show res = chkRecs g.pend
        rw [HRes.out, if_pos (by rw [E2.out, HZ.out])]
      clear hbel hx3
      go_wp2_with fail
      refine HC.out.mono ?_
      rintro e w3 ⟨rfl, hb3⟩
      have HB3 := hid (HB.out.trans (hb3.mono HB.out.size))
      clear hb3 HC
      go_wp2
      go_ret
      exact ⟨by rw [HR.out]; rfl, HB3.out⟩
theorem ckSeg_gen (g : GI) (w : World) (S : Nat → Prop) (hin : GI.In w S g) (hS : ∀ b, S b → b < w.heap.size) : Calls Tryz.prog 43 #[g.val] w fun x w' => errPost (chkSeg g) w x w' := by
  unfold chkSeg
  by_cases hb : bnd g
  · rw [if_pos hb]
    cases ho : other g
    · rw [if_neg (by decide)]
      by_cases hk : chkKept g = 0
      · rw [if_pos hk]
        exact ckSeg_rest g w S hin hS hb ho (by rw [hk]; rfl)
      · rw [if_neg hk]
        exact ckSeg_kept g w S hin hS hb ho (by simpa using hk)
    · rw [if_pos rfl]
      exact ckSeg_other g w hb ho
  · rw [if_neg hb]
    exact ckSeg_bound g w hb
end Go.Proofs.YtfonicphdejdlaaGreat
