import Derived.Test.YtldkepokcbjlpaaPack22
import Derived.Test.YtldkepokcbjlpaaPack1
namespace Go.Proofs.Ytldkepokcbjlpaa
open Go.RowKit
set_option maxRecDepth 8000

set_option maxHeartbeats 400000 in
theorem szValues_neg (w : World) (b : Nat) (l : Int) (p : Option Addr) (n c : Nat) (hn : n ≤ 140737488355328) (hb : Box w b #[.int .i64 l] 113) (hl : l < 0) :
    Calls Try.prog 64 #[.pointer (some ⟨b, 0, none⟩), .slice p n c] w fun e w' => e = .returned (.tuple #[]) ∧ w' = w := by
  have HA := szAdd_neg w b l (n : Int) hb hl
  have HO := szOk_any w b l hb
  have hd : decide (0 ≤ l) = false := decide_eq_false (by omega)
  rw [hd] at HO
  clear hb
  by_cases h0 : 0 < n
  · have h0' : (0 : Int) < (n : Int) := by omega
    go_enter Try.func64, Try.ntmps64
    go_wp2_with (go_at_call 63; refine HA.mono ?_; rintro e w1 ⟨rfl, rfl⟩)
    refine wp_loop_rounds 1 ?_
    rw [rounds_succ]
    go_wp2_with (go_at_call 26; refine HO.mono ?_; rintro e w2 ⟨rfl, rfl⟩)
    go_end0
    exact ⟨rfl, rfl⟩
  · obtain rfl : n = 0 := by omega
    go_enter Try.func64, Try.ntmps64
    go_wp2_with (go_at_call 63; refine HA.mono ?_; rintro e w1 ⟨rfl, rfl⟩)
    refine wp_loop_rounds 1 ?_
    rw [rounds_succ]
    go_wp2_with fail
    go_end0
    exact ⟨rfl, rfl⟩

def SzPost (b : Nat) (l : Int) (k : Nat) (w : World) (e : Ending) (w' : World) : Prop := e = .returned (.tuple #[]) ∧ ∃ m, Box w' b #[.int .i64 m] 113 ∧ Told l m k ∧ But (fun k => k = b) w w'

theorem szValues_all (t : VT) (w : World) (S : Nat → Prop) (b : Nat) (l : Int) (hin : VT.In w S t) (hS : ¬ S b) (hb : Box w b #[.int .i64 l] 113) (hl : -1000000000000000 ≤ l) (hl2 : l ≤ 10000) :
    Calls Try.prog 64 #[.pointer (some ⟨b, 0, none⟩), t.row] w fun e w' => SzPost b l t.total w e w' := by
  by_cases h : 0 ≤ l
  · exact szValues_any t w S b l hin hS hb h hl2
  · refine (szValues_neg w b l t.p t.n t.c hin.fit.nn hb (by omega)).mono fun e w' hp => ?_
    obtain ⟨rfl, rfl⟩ := hp
    exact ⟨rfl, l, hb, ⟨fun h2 => absurd h2 h, Int.le_refl _, hl⟩, But.refl _ _⟩

theorem Told.add {l l1 m : Int} {j k : Nat} (h : l1 = l - j) (hl : 0 ≤ l) (t : Told l1 m k) : Told l m (j + k) :=
  ⟨fun h0 => ⟨hl, by have := t.ok h0; omega⟩, by have := t.le; omega, t.low⟩

set_option maxHeartbeats 1000000 in
theorem szRecord_any (r : RT) (w : World) (S : Nat → Prop) (b : Nat) (l : Int) (hin : RT.In w S r) (hS : ¬ S b) (hb : Box w b #[.int .i64 l] 113) (hl : 0 ≤ l) (hl2 : l ≤ 10000) :
    Calls Try.prog 65 #[.pointer (some ⟨b, 0, none⟩), r.val] w fun e w' => SzPost b l (1 + r.n + r.v.total) w e w' := by
  have hnn := hin.l.nn
  have hbl := hb.lt
  have HB : Hid (Box w b #[.int .i64 l] 113) := hb
  have HI : Hid (RT.In w S r) := hin
  unfold RT.val
  clear hin hb
  go_enter Try.func65, Try.ntmps65
  go_wp2_with fail
  have hal : Below w.heap.size w (w.alloc (.cells #[.string r.key, .int .i64 r.v.kind, .int .i64 r.v.int, .string r.v.text, .slice r.v.p r.v.n r.v.c, .slice r.p r.n r.c] 99)) := (Below.refl _ _).alloc (Nat.le_refl _) _
  have hbx := Box.new w #[.string r.key, .int .i64 r.v.kind, .int .i64 r.v.int, .string r.v.text, .slice r.v.p r.v.n r.v.c, .slice r.p r.n r.c] 99
  refine (szAdd_pos _ b l (1 + (r.n : Int)) (HB.out.below hal) hl hl2 (by omega) (by omega)).mono ?_
  rintro e w1 ⟨rfl, hb1, hk1⟩
  have hbx1 := hbx.but hk1 (show w.heap.size ≠ b by omega)
  have x4 := hbx1.cell 4
  simp at x4
  have HX : Hid (Box w1 b #[.int .i64 (l - (1 + (r.n : Int)))] 113 ∧ But (fun k => k = b) w w1) := ⟨hb1, (But.ofBelow hal).trans hk1⟩
  clear hb1 hk1 hbx hbx1 hal
  go_wp2_with fail
  have h := szValues_all r.v w1 S b (l - (1 + (r.n : Int))) ?_ hS HX.out.1 (by omega) (by omega)
  · refine h.mono ?_
    clear h
    rintro e w2 ⟨rfl, m, hb2, ht2, hk2⟩
    go_wp2_with fail
    go_end0
    refine ⟨rfl, m, hb2, ?_, HX.out.2.trans hk2⟩
    exact ht2.add (by omega) hl
  · exact HI.out.v.but HX.out.2 (fun x hx _ e => hS (e ▸ hx))

set_option maxHeartbeats 1000000 in
theorem szCells_any (s : ST) (w : World) (S : Nat → Prop) (b : Nat) (l : Int) (hin : ST.In w S s) (hS : ¬ S b) (hb : Box w b #[.int .i64 l] 113) (hl : 0 ≤ l) (hl2 : l ≤ 10000) :
    Calls Try.prog 51 #[.pointer (some ⟨b, 0, none⟩), .slice s.p s.n s.c] w fun e w' => SzPost b l s.total w e w' := by
  obtain ⟨num, p, n, c, f⟩ := s
  have hcc := hin.nn
  simp only at hcc ⊢
  have HT : Hid (∀ j, ST.upto ⟨num, p, n, c, f⟩ (j + 1) = ST.upto ⟨num, p, n, c, f⟩ j + (f j).total) := fun j => ST.upto_succ _ j
  have HE : Hid ((ST.mk num p n c f).total = n + ST.upto ⟨num, p, n, c, f⟩ n) := rfl
  have HA := szAdd_pos w b l (n : Int) hb hl hl2 (by omega) (by omega)
  clear hb
  go_enter Try.func51, Try.ntmps51
  go_wp2_with (go_at_call 63; refine HA.mono ?_; rintro e w1 ⟨rfl, hb1, hk1⟩)
  have HI : Hid (ST.In w S ⟨num, p, n, c, f⟩) := hin
  clear hin HA
  go_loopw [4] (fun x wr => ∃ j : Nat, j ≤ n ∧ x = .int .i64 j ∧ ∃ m : Int, Box wr b #[.int .i64 m] 113 ∧ Told l m (n + ST.upto ⟨num, p, n, c, f⟩ j) ∧ But (fun k => k = b) w wr) (fun x _ => n - (intOf x).toNat)
  case atStart => exact ⟨0, Nat.zero_le _, rfl, l - n, hb1, ⟨fun h => ⟨hl, by simp [ST.upto]⟩, by omega, by omega⟩, hk1⟩
  case round =>
    obtain ⟨j, hj, rfl, m, hbm, htold, hkm⟩ := hrel
    clear hb1 hk1
    have HO := szOk_any wr b m hbm
    by_cases hlt : j < n
    · have hlt' : (j : Int) < (n : Int) := by omega
      by_cases hm : 0 ≤ m
      · have hd : decide (0 ≤ m) = true := decide_eq_true hm
        rw [hd] at HO
        obtain ⟨bb, o, hp, hSb, hbl, hat⟩ := HI.out.at_ (show 0 < n by omega)
        simp only at hp
        subst hp
        have hne : bb ≠ b := fun e => hS (e ▸ hSb)
        have c3 := ((hat j hlt).kept (hkm.block bb hbl hne)).c1
        simp only at c3
        have HC : Hid (Calls Try.prog 64 #[.pointer (some ⟨b, 0, none⟩), (f j).row] wr fun e w' => SzPost b m (f j).total wr e w') :=
          szValues_all (f j) wr S b m ((HI.out.each j hlt).but hkm (fun x hx _ e => hS (e ▸ hx))) hS hbm (by omega) (by have := htold.le; omega)
        unfold VT.row at HC
        clear hat
        go_wp2_with (first | (go_at_call 26; refine HO.mono ?_; rintro e w2 ⟨rfl, rfl⟩) | (go_at_call 64; refine HC.out.mono ?_; rintro e w3 ⟨rfl, m', hb3, ht3, hk3⟩))
        go_roundw
        case rel =>
          have hu := HT.out j
          refine ⟨j + 1, by omega, by go_num, m', hb3, ⟨fun h => ?_, ?_, ?_⟩, hkm.trans hk3⟩
          · have a1 := ht3.ok h
            have a2 := htold.ok hm
            refine ⟨a2.1, ?_⟩
            rw [hu]; omega
          · have a1 := ht3.le
            have a2 := htold.le
            omega
          · exact ht3.low
        case measure => simp [intOf]; omega
      · have hd : decide (0 ≤ m) = false := decide_eq_false hm
        rw [hd] at HO
        go_wp2_with (go_at_call 26; refine HO.mono ?_; rintro e w2 ⟨rfl, rfl⟩)
        go_end0
        exact ⟨rfl, m, hbm, ⟨fun h => absurd h (by omega), htold.le, htold.low⟩, hkm⟩
    · obtain rfl : j = n := by omega
      go_wp2_with fail
      go_end0
      refine ⟨rfl, m, hbm, ?_, hkm⟩
      rw [HE.out]
      exact htold

theorem szNew_any (w' : World) : Calls Try.prog 25 #[] w' fun e w1 => e = .returned (.pointer (some ⟨w'.heap.size, 0, none⟩)) ∧ w1 = w'.alloc (.cells #[.int .i64 10000] 113) := by
  go_enter Try.func25, Try.ntmps25
  go_wp2
  go_ret
  exact ⟨rfl, rfl⟩

set_option maxHeartbeats 1000000 in
theorem szRecords_one (r : RT) (w : World) (S : Nat → Prop) (b : Nat) (l : Int) (hin : RT.In w S r) (hS : ¬ S b) (hb : Box w b #[.int .i64 l] 113) (hl : 0 ≤ l) (hl2 : l ≤ 10000) (ab : Nat) (hab : Box w ab #[.string r.key, .int .i64 r.v.kind, .int .i64 r.v.int, .string r.v.text, .slice r.v.p r.v.n r.v.c, .slice r.p r.n r.c] 99) :
    Calls Try.prog 53 #[.pointer (some ⟨b, 0, none⟩), .slice (some ⟨ab, 0, none⟩) 1 1] w fun e w' => SzPost b l (1 + r.n + r.v.total) w e w' := by
  have HO := szOk_any w b l hb
  rw [decide_eq_true hl] at HO
  have HC : Hid (Calls Try.prog 65 #[.pointer (some ⟨b, 0, none⟩), r.val] w fun e w' => SzPost b l (1 + r.n + r.v.total) w e w') := szRecord_any r w S b l hin hS hb hl hl2
  unfold RT.val at HC
  have x0 := hab.cell 0
  have x1 := hab.cell 1
  have x2 := hab.cell 2
  have x3 := hab.cell 3
  have x4 := hab.cell 4
  have x5 := hab.cell 5
  simp at x0 x1 x2 x3 x4 x5
  clear hab hin hb hS
  go_enter Try.func53, Try.ntmps53
  go_wp2_with fail
  refine wp_loop_rounds 2 ?_
  rw [rounds_succ]
  go_wp2_with (go_at_call 26; refine HO.mono ?_; rintro e w2 ⟨rfl, rfl⟩)
  refine HC.out.mono ?_
  rintro e w3 ⟨rfl, hp⟩
  go_wp2_with fail
  rw [rounds_succ]
  go_wp2_with fail
  go_end0
  exact ⟨rfl, hp⟩

end Go.Proofs.Ytldkepokcbjlpaa

namespace Go.Proofs.Ytldkepokcbjlpaa
open Go.RowKit
set_option maxRecDepth 8000
structure SzR (l : LT RT) : Prop where
  n : l.n ≤ 10000
  item : ∀ j, j < l.n → (l.item j).size ≤ 10000
structure SzC (l : LT VT) : Prop where
  n : l.n ≤ 10000
  item : ∀ j, j < l.n → (l.item j).total ≤ 10000
theorem ST.ofLT0 {w : World} {S : Nat → Prop} {l : LT VT} (h : LT.In elCell w S l) : ST.In w S ⟨0, l.p, l.n, l.c, l.item⟩ := by
  refine ⟨fun hn => ?_, h.each, h.nc, h.nn, h.cc, (by show (-9223372036854775808 : Int) ≤ 0; omega), (by show (0 : Int) ≤ 9223372036854775807; omega)⟩
  obtain ⟨b, o, e, hS, hl, ha⟩ := h.at_ hn
  exact ⟨b, o, e, hS, hl, fun j hj => ⟨ha j hj 0 _ rfl, ha j hj 1 _ rfl⟩⟩
def LT.totC (l : LT VT) : Nat := ST.total ⟨0, l.p, l.n, l.c, l.item⟩
theorem LT.totC_sz {l : LT VT} (h : l.totC ≤ 10000) : SzC l := by
  have h0 : l.n + ST.upto ⟨0, l.p, l.n, l.c, l.item⟩ l.n ≤ 10000 := h
  exact ⟨by omega, fun j hj => Nat.le_trans (ST.cell_total ⟨0, l.p, l.n, l.c, l.item⟩ hj) h⟩
def LT.sumR (l : LT RT) (i : Nat) : Nat := ((List.range i).map fun j => 1 + (l.item j).n + (l.item j).v.total).sum
theorem LT.sumR_succ (l : LT RT) (i : Nat) : l.sumR (i + 1) = l.sumR i + (1 + (l.item i).n + (l.item i).v.total) := by simp [LT.sumR, List.range_succ]
theorem LT.sumR_mono (l : LT RT) {i j : Nat} (h : i ≤ j) : l.sumR i ≤ l.sumR j := by
  induction h with
  | refl => exact Nat.le_refl _
  | step _ ih => rw [LT.sumR_succ]; omega
theorem LT.sumR_le (l : LT RT) : ∀ i, i ≤ l.sumR i := by
  intro i
  induction i with
  | zero => exact Nat.zero_le _
  | succ i ih => rw [LT.sumR_succ]; omega
theorem LT.sumR_sz {l : LT RT} (h : l.sumR l.n ≤ 10000) : SzR l := by
  refine ⟨Nat.le_trans (l.sumR_le l.n) h, fun j hj => ?_⟩
  have h1 := l.sumR_mono (show j + 1 ≤ l.n from hj)
  rw [LT.sumR_succ] at h1
  unfold RT.size; omega
theorem Told.neg {l : Int} (k : Nat) (h : l < 0) (h1 : -1000000000000000 ≤ l) : Told l l k := ⟨fun h0 => absurd h0 (by omega), Int.le_refl _, h1⟩
theorem Told.two {l m q : Int} {j k : Nat} (h : Told l m j) (g : Told m q k) : Told l q (j + k) :=
  ⟨fun h0 => by have a := g.ok h0; have b := h.ok a.1; exact ⟨b.1, by omega⟩, by have := h.le; have := g.le; omega, g.low⟩
set_option maxHeartbeats 1000000 in
theorem szRecord_neg (r : RT) (w : World) (S : Nat → Prop) (b : Nat) (l : Int) (hin : RT.In w S r) (hb : Box w b #[.int .i64 l] 113) (hl : l < 0) (hl1 : -1000000000000000 ≤ l) :
    Calls Try.prog 65 #[.pointer (some ⟨b, 0, none⟩), r.val] w fun e w' => SzPost b l (1 + r.n + r.v.total) w e w' := by
  have hnn := hin.l.nn
  have hvn := hin.v.fit.nn
  have hal : Below w.heap.size w (w.alloc (.cells #[.string r.key, .int .i64 r.v.kind, .int .i64 r.v.int, .string r.v.text, .slice r.v.p r.v.n r.v.c, .slice r.p r.n r.c] 99)) := (Below.refl _ _).alloc (Nat.le_refl _) _
  have HA := hid (szAdd_neg _ b l (1 + (r.n : Int)) (hb.below hal) hl)
  have HV := hid (szValues_neg _ b l r.v.p r.v.n r.v.c hvn (hb.below hal) hl)
  have HB := hid (And.intro (hb.below hal) hal)
  have hbl := hb.lt
  unfold RT.val
  clear hin hb hal
  go_enter Try.func65, Try.ntmps65
  go_wp2_with fail
  refine HA.out.mono ?_
  rintro e w1 ⟨rfl, rfl⟩
  go_wp2_with fail
  refine HV.out.mono ?_
  rintro e w1 ⟨rfl, rfl⟩
  go_wp2_with fail
  go_end0
  exact ⟨rfl, l, HB.out.1, Told.neg _ hl hl1, But.ofBelow HB.out.2⟩
theorem szRecord_all (r : RT) (w : World) (S : Nat → Prop) (b : Nat) (l : Int) (hin : RT.In w S r) (hS : ¬ S b) (hb : Box w b #[.int .i64 l] 113) (hl : -1000000000000000 ≤ l) (hl2 : l ≤ 10000) :
    Calls Try.prog 65 #[.pointer (some ⟨b, 0, none⟩), .agg #[.string r.key, .int .i64 r.v.kind, .int .i64 r.v.int, .string r.v.text, .slice r.v.p r.v.n r.v.c, .slice r.p r.n r.c]] w fun e w' => SzPost b l (1 + r.n + r.v.total) w e w' := by
  by_cases h : 0 ≤ l
  · exact szRecord_any r w S b l hin hS hb h hl2
  · exact szRecord_neg r w S b l hin hb (by omega) hl
set_option maxHeartbeats 1000000 in
theorem szCells_neg (q : LT VT) (w : World) (b : Nat) (l : Int) (hn : q.n ≤ 140737488355328) (hb : Box w b #[.int .i64 l] 113) (hl : l < 0) :
    Calls Try.prog 51 #[.pointer (some ⟨b, 0, none⟩), .slice q.p q.n q.c] w fun e w' => e = .returned (.tuple #[]) ∧ w' = w := by
  have HA := hid (szAdd_neg w b l (q.n : Int) hb hl)
  have HO := hid (szOk_any w b l hb)
  have hd : decide (0 ≤ l) = false := decide_eq_false (by omega)
  rw [hd] at HO
  clear hb hd
  go_enter Try.func51, Try.ntmps51
  go_wp2_with fail
  refine HA.out.mono ?_
  rintro e w1 ⟨rfl, rfl⟩
  go_wp2_with fail
  go_loopw [4] (fun x wr => wr = w1 ∧ x = .int .i64 0) (fun _ _ => 0)
  case atStart => exact ⟨rfl, rfl⟩
  case round =>
    obtain ⟨rfl, rfl⟩ := hrel
    by_cases h0 : q.n = 0
    · have h0' : ¬ (0 : Int) < (q.n : Int) := by omega
      go_wp2_with fail
      go_end0
      exact ⟨rfl, rfl⟩
    · have h0' : (0 : Int) < (q.n : Int) := by omega
      go_wp2_with (go_at_call 26; refine HO.out.mono ?_; rintro e w2 ⟨rfl, rfl⟩)
      go_end0
      exact ⟨rfl, rfl⟩
theorem szCells_all (q : LT VT) (w : World) (S : Nat → Prop) (b : Nat) (l : Int) (hin : LT.In elCell w S q) (hS : ¬ S b) (hb : Box w b #[.int .i64 l] 113) (hl : -1000000000000000 ≤ l) (hl2 : l ≤ 10000) :
    Calls Try.prog 51 #[.pointer (some ⟨b, 0, none⟩), .slice q.p q.n q.c] w fun e w' => SzPost b l q.totC w e w' := by
  by_cases h : 0 ≤ l
  · exact szCells_any ⟨0, q.p, q.n, q.c, q.item⟩ w S b l (ST.ofLT0 hin) hS hb h hl2
  · refine (szCells_neg q w b l hin.nn hb (by omega)).mono fun e w' hp => ?_
    obtain ⟨rfl, rfl⟩ := hp
    exact ⟨rfl, l, hb, Told.neg _ (by omega) hl, But.refl _ _⟩
set_option maxHeartbeats 2000000 in
theorem szRecords_all (q : LT RT) (w : World) (S : Nat → Prop) (b : Nat) (l : Int) (hin : LT.In elRec w S q) (hS : ¬ S b) (hb : Box w b #[.int .i64 l] 113) (hl : -1000000000000000 ≤ l) (hl2 : l ≤ 10000) :
    Calls Try.prog 53 #[.pointer (some ⟨b, 0, none⟩), .slice q.p q.n q.c] w fun e w' => SzPost b l (q.sumR q.n) w e w' := by
  have HI := hid hin
  have HB := hid hb
  have hnn := hin.nn
  clear hin hb
  go_enter Try.func53, Try.ntmps53
  go_wp2_with fail
  go_loopw [4] (fun x wr => ∃ (k : Nat) (m : Int), k ≤ q.n ∧ x = .int .i64 (k : Int) ∧ Box wr b #[.int .i64 m] 113 ∧ Told l m (q.sumR k) ∧ But (fun k => k = b) w wr) (fun x _ => q.n - (intOf x).toNat)
  case atStart => exact ⟨0, l, Nat.zero_le _, rfl, HB.out, ⟨fun h => ⟨h, by simp [LT.sumR]⟩, Int.le_refl _, hl⟩, But.refl _ _⟩
  case round =>
    obtain ⟨k, m, hk, rfl, hbm, ht, hkm⟩ := hrel
    have HO := hid (szOk_any wr b m hbm)
    have HM := hid (And.intro hbm (And.intro ht hkm))
    have hml := ht.le
    have hmo := ht.low
    have hbl := hbm.lt
    clear hbm ht hkm
    by_cases hlt : k < q.n
    · have hlt' : (k : Int) < (q.n : Int) := by omega
      by_cases hm : 0 ≤ m
      · have hd : decide (0 ≤ m) = true := decide_eq_true hm
        rw [hd] at HO
        obtain ⟨bb, o, hp, hSb, hbb, hat⟩ := HI.out.at_ (by omega)
        rw [hp]
        have hne : bb ≠ b := fun e => hS (e ▸ hSb)
        have hcell : ∀ r u, (elRec.cells (q.item k))[r]? = some u → wr.cell? ⟨bb, o + k * 6 + r, none⟩ = some u := fun r u hu => (World.cell?_of_block (a := ⟨bb, o + k * 6 + r, none⟩) (HM.out.2.2.block bb hbb hne)).trans (hat k hlt r u hu)
        have c0 : wr.cell? ⟨bb, o + k * 6, none⟩ = some (.string (q.item k).key) := hcell 0 _ rfl
        have c1 := hcell 1 _ rfl
        have c2 := hcell 2 _ rfl
        have c3 := hcell 3 _ rfl
        have c4 := hcell 4 _ rfl
        have c5 := hcell 5 _ rfl
        have HC := hid (szRecord_all (q.item k) wr S b m (RT.In.but (HI.out.each k hlt) HM.out.2.2 (fun x hx _ e => hS (e ▸ hx))) hS HM.out.1 hmo (by omega))
        clear hcell hat
        go_wp2_with (first | (go_at_call 26; refine HO.out.mono ?_; rintro e w2 ⟨rfl, rfl⟩) | (go_at_call 65; refine HC.out.mono ?_; rintro e w3 ⟨rfl, m', hb3, ht3, hk3⟩))
        go_roundw
        case rel =>
          refine ⟨k + 1, m', by omega, by go_num, hb3, ?_, HM.out.2.2.trans hk3⟩
          rw [LT.sumR_succ]
          exact HM.out.2.1.two ht3
        case measure => simp [intOf]; omega
      · have hd : decide (0 ≤ m) = false := decide_eq_false hm
        rw [hd] at HO
        go_wp2_with (go_at_call 26; refine HO.out.mono ?_; rintro e w2 ⟨rfl, rfl⟩)
        go_end0
        exact ⟨rfl, m, HM.out.1, ⟨fun h => absurd h (by omega), HM.out.2.1.le, HM.out.2.1.low⟩, HM.out.2.2⟩
    · obtain rfl : k = q.n := by omega
      go_wp2_with fail
      go_end0
      exact ⟨rfl, m, HM.out.1, HM.out.2.1, HM.out.2.2⟩
end Go.Proofs.Ytldkepokcbjlpaa
