import Derived.Test.YtpldokahoamdpaaPack16
import Derived.Test.YtpldokahoamdpaaPack1
namespace Go.Proofs.Ytpldokahoamdpaa
open Go.RowKit
set_option maxRecDepth 8000

set_option maxHeartbeats 400000 in
theorem szValues_neg (w : World) (b : Nat) (l : Int) (p : Option Addr) (n c : Nat) (hn : n ≤ 140737488355328) (hb : Box w b #[.int .i64 l] 104) (hl : l < 0) :
    Calls Try.prog 73 #[.pointer (some ⟨b, 0, none⟩), .slice p n c] w fun e w' => e = .returned (.tuple #[]) ∧ w' = w := by
  have HA := szAdd_neg w b l (n : Int) hb hl
  have HO := szOk_any w b l hb
  have hd : decide (0 ≤ l) = false := decide_eq_false (by omega)
  rw [hd] at HO
  clear hb
  by_cases h0 : 0 < n
  · have h0' : (0 : Int) < (n : Int) := by omega
    go_enter Try.func73, Try.ntmps73
    go_wp2_with (go_at_call 72; refine HA.mono ?_; rintro e w1 ⟨rfl, rfl⟩)
    refine wp_loop_rounds 1 ?_
    rw [rounds_succ]
    go_wp2_with (go_at_call 28; refine HO.mono ?_; rintro e w2 ⟨rfl, rfl⟩)
    go_end0
    exact ⟨rfl, rfl⟩
  · obtain rfl : n = 0 := by omega
    go_enter Try.func73, Try.ntmps73
    go_wp2_with (go_at_call 72; refine HA.mono ?_; rintro e w1 ⟨rfl, rfl⟩)
    refine wp_loop_rounds 1 ?_
    rw [rounds_succ]
    go_wp2_with fail
    go_end0
    exact ⟨rfl, rfl⟩

def SzPost (b : Nat) (l : Int) (k : Nat) (w : World) (e : Ending) (w' : World) : Prop := e = .returned (.tuple #[]) ∧ ∃ m, Box w' b #[.int .i64 m] 104 ∧ Told l m k ∧ But (fun k => k = b) w w'

theorem szValues_all (t : VT) (w : World) (S : Nat → Prop) (b : Nat) (l : Int) (hin : VT.In w S t) (hS : ¬ S b) (hb : Box w b #[.int .i64 l] 104) (hl : -1000000000000000 ≤ l) (hl2 : l ≤ 10000) :
    Calls Try.prog 73 #[.pointer (some ⟨b, 0, none⟩), t.row] w fun e w' => SzPost b l t.total w e w' := by
  by_cases h : 0 ≤ l
  · exact szValues_any t w S b l hin hS hb h hl2
  · refine (szValues_neg w b l t.p t.n t.c hin.fit.nn hb (by omega)).mono fun e w' hp => ?_
    obtain ⟨rfl, rfl⟩ := hp
    exact ⟨rfl, l, hb, ⟨fun h2 => absurd h2 h, Int.le_refl _, hl⟩, But.refl _ _⟩

theorem Told.add {l l1 m : Int} {j k : Nat} (h : l1 = l - j) (hl : 0 ≤ l) (t : Told l1 m k) : Told l m (j + k) :=
  ⟨fun h0 => ⟨hl, by have := t.ok h0; omega⟩, by have := t.le; omega, t.low⟩

set_option maxHeartbeats 1000000 in
theorem szRecord_any (r : RT) (w : World) (S : Nat → Prop) (b : Nat) (l : Int) (hin : RT.In w S r) (hS : ¬ S b) (hb : Box w b #[.int .i64 l] 104) (hl : 0 ≤ l) (hl2 : l ≤ 10000) :
    Calls Try.prog 56 #[.pointer (some ⟨b, 0, none⟩), r.val] w fun e w' => SzPost b l (1 + r.n + r.v.total) w e w' := by
  have hnn := hin.l.nn
  have hbl := hb.lt
  have HB : Hid (Box w b #[.int .i64 l] 104) := hb
  have HI : Hid (RT.In w S r) := hin
  unfold RT.val
  clear hin hb
  go_enter Try.func56, Try.ntmps56
  go_wp2_with fail
  have hal : Below w.heap.size w (w.alloc (.cells #[.string r.key, .int .i64 r.v.kind, .int .i64 r.v.int, .string r.v.text, .slice r.v.p r.v.n r.v.c, .slice r.p r.n r.c] 33)) := (Below.refl _ _).alloc (Nat.le_refl _) _
  have hbx := Box.new w #[.string r.key, .int .i64 r.v.kind, .int .i64 r.v.int, .string r.v.text, .slice r.v.p r.v.n r.v.c, .slice r.p r.n r.c] 33
  refine (szAdd_pos _ b l (1 + (r.n : Int)) (HB.out.below hal) hl hl2 (by omega) (by omega)).mono ?_
  rintro e w1 ⟨rfl, hb1, hk1⟩
  have hbx1 := hbx.but hk1 (show w.heap.size ≠ b by omega)
  have x4 := hbx1.cell 4
  simp at x4
  have HX : Hid (Box w1 b #[.int .i64 (l - (1 + (r.n : Int)))] 104 ∧ But (fun k => k = b) w w1) := ⟨hb1, (But.ofBelow hal).trans hk1⟩
  clear hb1 hk1 hbx hbx1 hal
  go_wp2_with fail
  have h := szValues_all r.v w1 S b (l - (1 + (r.n : Int))) ?_ hS HX.out.1 (by omega) (by omega)
  · refine h.mono ?_
    clear h
    rintro e w2 ⟨rfl, m, hb2, ht2, hk2⟩
    go_wp2_with fail
    go_end0
    refine ⟨rfl, m, hb2, ?_, HX.out.2.trans hk2⟩
    exact ht2.add (by omega) hl
  · exact HI.out.v.but HX.out.2 (fun x hx _ e => hS (e ▸ hx))

theorem szNew_any (w' : World) : Calls Try.prog 26 #[] w' fun e w1 => e = .returned (.pointer (some ⟨w'.heap.size, 0, none⟩)) ∧ w1 = w'.alloc (.cells #[.int .i64 10000] 104) := by
  go_enter Try.func26, Try.ntmps26
  go_wp2
  go_ret
  exact ⟨rfl, rfl⟩

set_option maxHeartbeats 1000000 in
theorem szRecords_one (r : RT) (w : World) (S : Nat → Prop) (b : Nat) (l : Int) (hin : RT.In w S r) (hS : ¬ S b) (hb : Box w b #[.int .i64 l] 104) (hl : 0 ≤ l) (hl2 : l ≤ 10000) (ab : Nat) (hab : Box w ab #[.string r.key, .int .i64 r.v.kind, .int .i64 r.v.int, .string r.v.text, .slice r.v.p r.v.n r.v.c, .slice r.p r.n r.c] 33) :
    Calls Try.prog 37 #[.pointer (some ⟨b, 0, none⟩), .slice (some ⟨ab, 0, none⟩) 1 1] w fun e w' => SzPost b l (1 + r.n + r.v.total) w e w' := by
  have HO := szOk_any w b l hb
  rw [decide_eq_true hl] at HO
  have HC : Hid (Calls Try.prog 56 #[.pointer (some ⟨b, 0, none⟩), r.val] w fun e w' => SzPost b l (1 + r.n + r.v.total) w e w') := szRecord_any r w S b l hin hS hb hl hl2
  unfold RT.val at HC
  have x0 := hab.cell 0
  have x1 := hab.cell 1
  have x2 := hab.cell 2
  have x3 := hab.cell 3
  have x4 := hab.cell 4
  have x5 := hab.cell 5
  simp at x0 x1 x2 x3 x4 x5
  clear hab hin hb hS
  go_enter Try.func37, Try.ntmps37
  go_wp2_with fail
  refine wp_loop_rounds 2 ?_
  rw [rounds_succ]
  go_wp2_with (go_at_call 28; refine HO.mono ?_; rintro e w2 ⟨rfl, rfl⟩)
  refine HC.out.mono ?_
  rintro e w3 ⟨rfl, hp⟩
  go_wp2_with fail
  rw [rounds_succ]
  go_wp2_with fail
  go_end0
  exact ⟨rfl, hp⟩

set_option maxHeartbeats 1000000 in
theorem sizesR_any (r : RT) (w : World) (S : Nat → Prop) (hin : RT.In w S r) (hS : ∀ b, S b → b < w.heap.size) (ab : Nat) (hab : Box w ab #[.string r.key, .int .i64 r.v.kind, .int .i64 r.v.int, .string r.v.text, .slice r.v.p r.v.n r.v.c, .slice r.p r.n r.c] 33) :
    Calls Try.prog 15 #[.slice (some ⟨ab, 0, none⟩) 1 1] w fun e w' => ∃ q, e = .returned (.bool q) ∧ (q = true → r.n + r.v.total ≤ 10000) ∧ Below w.heap.size w w' := by
  have hb0 : Below w.heap.size w (w.alloc (.cells #[.int .i64 10000] 104)) := (Below.refl _ _).alloc (Nat.le_refl _) _
  have HB0 : Hid (Below w.heap.size w (w.alloc (.cells #[.int .i64 10000] 104))) := hb0
  have HC := szRecords_one r (w.alloc (.cells #[.int .i64 10000] 104)) S w.heap.size 10000 (hin.below hb0) (fun h => absurd (hS _ h) (by omega)) (Box.new _ _ _) (by omega) (by omega) ab (hab.below hb0)
  clear hin hab hS hb0
  go_enter Try.func15, Try.ntmps15
  go_wp2_with (go_at_call 26; refine (szNew_any _).mono ?_; rintro e w1 ⟨rfl, rfl⟩)
  refine HC.mono ?_
  rintro e w2 ⟨rfl, m, hb2, ht2, hk2⟩
  have HO := szOk_any w2 _ m hb2
  go_wp2_with (go_at_call 28; refine HO.mono ?_; rintro e w3 ⟨rfl, rfl⟩)
  go_ret
  refine ⟨_, rfl, fun h => ?_, HB0.out.trans (hk2.below HB0.out.size fun k hk => by omega)⟩
  have h0 : 0 ≤ m := of_decide_eq_true h
  have := ht2.ok h0
  omega

end Go.Proofs.Ytpldokahoamdpaa

namespace Go.Proofs.Ytpldokahoamdpaa
open Go.RowKit Go.Conc
set_option maxRecDepth 8000
def LT.sumR (l : LT RT) (i : Nat) : Nat := ((List.range i).map fun j => 1 + (l.item j).n + (l.item j).v.total).sum
theorem LT.sumR_succ (l : LT RT) (i : Nat) : l.sumR (i + 1) = l.sumR i + (1 + (l.item i).n + (l.item i).v.total) := by simp [LT.sumR, List.range_succ]
theorem LT.sumR_mono (l : LT RT) {i j : Nat} (h : i ≤ j) : l.sumR i ≤ l.sumR j := by
  induction h with
  | refl => exact Nat.le_refl _
  | step _ ih => rw [LT.sumR_succ]; omega
theorem LT.sumR_le (l : LT RT) : ∀ i, i ≤ l.sumR i := by
  intro i
  induction i with
  | zero => exact Nat.zero_le _
  | succ i ih => rw [LT.sumR_succ]; omega
def LT.sumI (l : LT IT) (i : Nat) : Nat := ((List.range i).map fun j => 1 + (l.item j).r.n + (l.item j).r.v.total).sum
theorem LT.sumI_succ (l : LT IT) (i : Nat) : l.sumI (i + 1) = l.sumI i + (1 + (l.item i).r.n + (l.item i).r.v.total) := by simp [LT.sumI, List.range_succ]
theorem LT.sumI_mono (l : LT IT) {i j : Nat} (h : i ≤ j) : l.sumI i ≤ l.sumI j := by
  induction h with
  | refl => exact Nat.le_refl _
  | step _ ih => rw [LT.sumI_succ]; omega
theorem LT.sumI_le (l : LT IT) : ∀ i, i ≤ l.sumI i := by
  intro i
  induction i with
  | zero => exact Nat.zero_le _
  | succ i ih => rw [LT.sumI_succ]; omega
theorem LT.sumI_each (l : LT IT) {j : Nat} (h : j < l.n) : (l.item j).r.n + (l.item j).r.v.total ≤ l.sumI l.n := by
  have h1 := l.sumI_mono (show j + 1 ≤ l.n from h)
  rw [LT.sumI_succ] at h1
  omega
theorem LT.sumR_each (l : LT RT) {j : Nat} (h : j < l.n) : (l.item j).n + (l.item j).v.total ≤ l.sumR l.n := by
  have h1 := l.sumR_mono (show j + 1 ≤ l.n from h)
  rw [LT.sumR_succ] at h1
  omega
theorem Told.neg {l : Int} (k : Nat) (h : l < 0) (h1 : -1000000000000000 ≤ l) : Told l l k := ⟨fun h0 => absurd h0 (by omega), Int.le_refl _, h1⟩
theorem Told.two {l m q : Int} {j k : Nat} (h : Told l m j) (g : Told m q k) : Told l q (j + k) :=
  ⟨fun h0 => by have a := g.ok h0; have b := h.ok a.1; exact ⟨b.1, by omega⟩, by have := h.le; have := g.le; omega, g.low⟩
set_option maxHeartbeats 1000000 in
theorem szRecord_neg (r : RT) (w : World) (S : Nat → Prop) (b : Nat) (l : Int) (hin : RT.In w S r) (hb : Box w b #[.int .i64 l] 104) (hl : l < 0) (hl1 : -1000000000000000 ≤ l) :
    Calls Try.prog 56 #[.pointer (some ⟨b, 0, none⟩), r.val] w fun e w' => SzPost b l (1 + r.n + r.v.total) w e w' := by
  have hnn := hin.l.nn
  have hvn := hin.v.fit.nn
  have hal : Below w.heap.size w (w.alloc (.cells #[.string r.key, .int .i64 r.v.kind, .int .i64 r.v.int, .string r.v.text, .slice r.v.p r.v.n r.v.c, .slice r.p r.n r.c] 33)) := (Below.refl _ _).alloc (Nat.le_refl _) _
  have HA := hid (szAdd_neg _ b l (1 + (r.n : Int)) (hb.below hal) hl)
  have HV := hid (szValues_neg _ b l r.v.p r.v.n r.v.c hvn (hb.below hal) hl)
  have HB := hid (And.intro (hb.below hal) hal)
  have hbl := hb.lt
  unfold RT.val
  clear hin hb hal
  go_enter Try.func56, Try.ntmps56
  go_wp2_with fail
  refine HA.out.mono ?_
  rintro e w1 ⟨rfl, rfl⟩
  go_wp2_with fail
  refine HV.out.mono ?_
  rintro e w1 ⟨rfl, rfl⟩
  go_wp2_with fail
  go_end0
  exact ⟨rfl, l, HB.out.1, Told.neg _ hl hl1, But.ofBelow HB.out.2⟩
theorem szRecord_all (r : RT) (w : World) (S : Nat → Prop) (b : Nat) (l : Int) (hin : RT.In w S r) (hS : ¬ S b) (hb : Box w b #[.int .i64 l] 104) (hl : -1000000000000000 ≤ l) (hl2 : l ≤ 10000) :
    Calls Try.prog 56 #[.pointer (some ⟨b, 0, none⟩), .agg #[.string r.key, .int .i64 r.v.kind, .int .i64 r.v.int, .string r.v.text, .slice r.v.p r.v.n r.v.c, .slice r.p r.n r.c]] w fun e w' => SzPost b l (1 + r.n + r.v.total) w e w' := by
  by_cases h : 0 ≤ l
  · exact szRecord_any r w S b l hin hS hb h hl2
  · exact szRecord_neg r w S b l hin hb (by omega) hl
set_option maxHeartbeats 2000000 in
theorem szRecords_all (q : LT RT) (w : World) (S : Nat → Prop) (b : Nat) (l : Int) (hin : LT.In elRec w S q) (hS : ¬ S b) (hb : Box w b #[.int .i64 l] 104) (hl : -1000000000000000 ≤ l) (hl2 : l ≤ 10000) :
    Calls Try.prog 37 #[.pointer (some ⟨b, 0, none⟩), .slice q.p q.n q.c] w fun e w' => SzPost b l (q.sumR q.n) w e w' := by
  have HI := hid hin
  have HB := hid hb
  have hnn := hin.nn
  clear hin hb
  go_enter Try.func37, Try.ntmps37
  go_wp2_with fail
  go_loopw [4] (fun x wr => ∃ (k : Nat) (m : Int), k ≤ q.n ∧ x = .int .i64 (k : Int) ∧ Box wr b #[.int .i64 m] 104 ∧ Told l m (q.sumR k) ∧ But (fun k => k = b) w wr) (fun x _ => q.n - (intOf x).toNat)
  case atStart => exact ⟨0, l, Nat.zero_le _, rfl, HB.out, ⟨fun h => ⟨h, by simp [LT.sumR]⟩, Int.le_refl _, hl⟩, But.refl _ _⟩
  case round =>
    obtain ⟨k, m, hk, rfl, hbm, ht, hkm⟩ := hrel
    have HO := hid (szOk_any wr b m hbm)
    have HM := hid (And.intro hbm (And.intro ht hkm))
    have hml := ht.le
    have hmo := ht.low
    have hbl := hbm.lt
    clear hbm ht hkm
    by_cases hlt : k < q.n
    · have hlt' : (k : Int) < (q.n : Int) := by omega
      by_cases hm : 0 ≤ m
      · have hd : decide (0 ≤ m) = true := decide_eq_true hm
        rw [hd] at HO
        obtain ⟨bb, o, hp, hSb, hbb, hat⟩ := HI.out.at_ (by omega)
        rw [hp]
        have hne : bb ≠ b := fun e => hS (e ▸ hSb)
        have hcell : ∀ r u, (elRec.cells (q.item k))[r]? = some u → wr.cell? ⟨bb, o + k * 6 + r, none⟩ = some u := fun r u hu => (World.cell?_of_block (a := ⟨bb, o + k * 6 + r, none⟩) (HM.out.2.2.block bb hbb hne)).trans (hat k hlt r u hu)
        have c0 : wr.cell? ⟨bb, o + k * 6, none⟩ = some (.string (q.item k).key) := hcell 0 _ rfl
        have c1 := hcell 1 _ rfl
        have c2 := hcell 2 _ rfl
        have c3 := hcell 3 _ rfl
        have c4 := hcell 4 _ rfl
        have c5 := hcell 5 _ rfl
        have HC := hid (szRecord_all (q.item k) wr S b m (RT.In.but (HI.out.each k hlt) HM.out.2.2 (fun x hx _ e => hS (e ▸ hx))) hS HM.out.1 hmo (by omega))
        clear hcell hat
        go_wp2_with (first | (go_at_call 28; refine HO.out.mono ?_; rintro e w2 ⟨rfl, rfl⟩) | (go_at_call 56; refine HC.out.mono ?_; rintro e w3 ⟨rfl, m', hb3, ht3, hk3⟩))
        go_roundw
        case rel =>
          refine ⟨k + 1, m', by omega, by go_num, hb3, ?_, HM.out.2.2.trans hk3⟩
          rw [LT.sumR_succ]
          exact HM.out.2.1.two ht3
        case measure => simp [intOf]; omega
      · have hd : decide (0 ≤ m) = false := decide_eq_false hm
        rw [hd] at HO
        go_wp2_with (go_at_call 28; refine HO.out.mono ?_; rintro e w2 ⟨rfl, rfl⟩)
        go_end0
        exact ⟨rfl, m, HM.out.1, ⟨fun h => absurd h (by omega), HM.out.2.1.le, HM.out.2.1.low⟩, HM.out.2.2⟩
    · obtain rfl : k = q.n := by omega
      go_wp2_with fail
      go_end0
      exact ⟨rfl, m, HM.out.1, HM.out.2.1, HM.out.2.2⟩
set_option maxHeartbeats 2000000 in
theorem szItems_all (q : LT IT) (w : World) (S : Nat → Prop) (b : Nat) (l : Int) (hin : LT.In elItem w S q) (hS : ¬ S b) (hb : Box w b #[.int .i64 l] 104) (hl : -1000000000000000 ≤ l) (hl2 : l ≤ 10000) :
    Calls Try.prog 27 #[.pointer (some ⟨b, 0, none⟩), .slice q.p q.n q.c] w fun e w' => SzPost b l (q.sumI q.n) w e w' := by
  have HI := hid hin
  have HB := hid hb
  have hnn := hin.nn
  clear hin hb
  go_enter Try.func27, Try.ntmps27
  go_wp2_with fail
  go_loopw [4] (fun x wr => ∃ (k : Nat) (m : Int), k ≤ q.n ∧ x = .int .i64 (k : Int) ∧ Box wr b #[.int .i64 m] 104 ∧ Told l m (q.sumI k) ∧ But (fun k => k = b) w wr) (fun x _ => q.n - (intOf x).toNat)
  case atStart => exact ⟨0, l, Nat.zero_le _, rfl, HB.out, ⟨fun h => ⟨h, by simp [LT.sumI]⟩, Int.le_refl _, hl⟩, But.refl _ _⟩
  case round =>
    obtain ⟨k, m, hk, rfl, hbm, ht, hkm⟩ := hrel
    have HO := hid (szOk_any wr b m hbm)
    have HM := hid (And.intro hbm (And.intro ht hkm))
    have hml := ht.le
    have hmo := ht.low
    have hbl := hbm.lt
    clear hbm ht hkm
    by_cases hlt : k < q.n
    · have hlt' : (k : Int) < (q.n : Int) := by omega
      by_cases hm : 0 ≤ m
      · have hd : decide (0 ≤ m) = true := decide_eq_true hm
        rw [hd] at HO
        obtain ⟨bb, o, hp, hSb, hbb, hat⟩ := HI.out.at_ (by omega)
        rw [hp]
        have hne : bb ≠ b := fun e => hS (e ▸ hSb)
        have hcell : ∀ r u, (elItem.cells (q.item k))[r]? = some u → wr.cell? ⟨bb, o + k * 7 + r, none⟩ = some u := fun r u hu => (World.cell?_of_block (a := ⟨bb, o + k * 7 + r, none⟩) (HM.out.2.2.block bb hbb hne)).trans (hat k hlt r u hu)
        have c0 := hcell 1 _ rfl
        have c1 := hcell 2 _ rfl
        have c2 := hcell 3 _ rfl
        have c3 := hcell 4 _ rfl
        have c4 := hcell 5 _ rfl
        have c5 := hcell 6 _ rfl
        have HC := hid (szRecord_all (q.item k).r wr S b m (RT.In.but (HI.out.each k hlt).r HM.out.2.2 (fun x hx _ e => hS (e ▸ hx))) hS HM.out.1 hmo (by omega))
        clear hcell hat
        go_wp2_with (first | (go_at_call 28; refine HO.out.mono ?_; rintro e w2 ⟨rfl, rfl⟩) | (go_at_call 56; refine HC.out.mono ?_; rintro e w3 ⟨rfl, m', hb3, ht3, hk3⟩))
        go_roundw
        case rel =>
          refine ⟨k + 1, m', by omega, by go_num, hb3, ?_, HM.out.2.2.trans hk3⟩
          rw [LT.sumI_succ]
          exact HM.out.2.1.two ht3
        case measure => simp [intOf]; omega
      · have hd : decide (0 ≤ m) = false := decide_eq_false hm
        rw [hd] at HO
        go_wp2_with (go_at_call 28; refine HO.out.mono ?_; rintro e w2 ⟨rfl, rfl⟩)
        go_end0
        exact ⟨rfl, m, HM.out.1, ⟨fun h => absurd h (by omega), HM.out.2.1.le, HM.out.2.1.low⟩, HM.out.2.2⟩
    · obtain rfl : k = q.n := by omega
      go_wp2_with fail
      go_end0
      exact ⟨rfl, m, HM.out.1, HM.out.2.1, HM.out.2.2⟩
set_option maxHeartbeats 2000000 in
theorem szItems_few (q : LT IT) (w : World) (hin : LT.In elItem w (fun b => b < w.heap.size) q) : Calls Try.prog 7 #[.slice q.p q.n q.c] w fun e w' => ∃ r : Bool, e = .returned (.bool r) ∧ (r = true → q.sumI q.n ≤ 10000) ∧ Below w.heap.size w w' := by
  have HNw := hid (szNew_any w)
  have HAl : Below w.heap.size w (w.alloc (.cells #[.int .i64 10000] 104)) := (Below.refl _ _).alloc (Nat.le_refl _) _
  have HC := hid (szItems_all q (w.alloc (.cells #[.int .i64 10000] 104)) (fun b => b < w.heap.size) w.heap.size 10000 (hin.below HAl) (Nat.lt_irrefl _) (Box.new w _ _) (by omega) (by omega))
  have HB := hid HAl
  clear hin HAl
  go_enter Try.func7, Try.ntmps7
  go_wp2_with fail
  refine HNw.out.mono ?_
  rintro e w1 ⟨rfl, rfl⟩
  go_wp2_with fail
  refine HC.out.mono ?_
  rintro e w2 ⟨rfl, m, hb, ht, hk⟩
  have HO := hid (szOk_any w2 w.heap.size m hb)
  have HT := hid ht
  have HB2 := hid (HB.out.trans (hk.below HB.out.size (fun j hj e => by omega)))
  clear hb ht hk HC HNw
  go_wp2_with fail
  refine HO.out.mono ?_
  rintro e w3 ⟨rfl, rfl⟩
  go_wp2
  refine bodyPost_ret (v := .bool (decide (0 ≤ m))) (by simp [results, Try.results7, go_sem]) rfl ⟨_, rfl, fun h => ?_, HB2.out⟩
  have h1 : 0 ≤ m := of_decide_eq_true h
  have h2 := (HT.out.ok h1).2
  omega
set_option maxHeartbeats 2000000 in
theorem szRecords_few (q : LT RT) (w : World) (hin : LT.In elRec w (fun b => b < w.heap.size) q) : Calls Try.prog 15 #[.slice q.p q.n q.c] w fun e w' => ∃ r : Bool, e = .returned (.bool r) ∧ (r = true → q.sumR q.n ≤ 10000) ∧ Below w.heap.size w w' := by
  have HNw := hid (szNew_any w)
  have HAl : Below w.heap.size w (w.alloc (.cells #[.int .i64 10000] 104)) := (Below.refl _ _).alloc (Nat.le_refl _) _
  have HC := hid (szRecords_all q (w.alloc (.cells #[.int .i64 10000] 104)) (fun b => b < w.heap.size) w.heap.size 10000 (hin.below HAl) (Nat.lt_irrefl _) (Box.new w _ _) (by omega) (by omega))
  have HB := hid HAl
  clear hin HAl
  go_enter Try.func15, Try.ntmps15
  go_wp2_with fail
  refine HNw.out.mono ?_
  rintro e w1 ⟨rfl, rfl⟩
  go_wp2_with fail
  refine HC.out.mono ?_
  rintro e w2 ⟨rfl, m, hb, ht, hk⟩
  have HO := hid (szOk_any w2 w.heap.size m hb)
  have HT := hid ht
  have HB2 := hid (HB.out.trans (hk.below HB.out.size (fun j hj e => by omega)))
  clear hb ht hk HC HNw
  go_wp2_with fail
  refine HO.out.mono ?_
  rintro e w3 ⟨rfl, rfl⟩
  go_wp2
  refine bodyPost_ret (v := .bool (decide (0 ≤ m))) (by simp [results, Try.results15, go_sem]) rfl ⟨_, rfl, fun h => ?_, HB2.out⟩
  have h1 : 0 ≤ m := of_decide_eq_true h
  have h2 := (HT.out.ok h1).2
  omega
/-- a call of a script -/
structure OpL where
  kind : Int
  sec : Bool
  its : LT IT
  rcs : LT RT
structure OpL.In (w : World) (S : Nat → Prop) (o : OpL) : Prop where
  its : LT.In elItem w S o.its
  rcs : LT.In elRec w S o.rcs
  k0 : -9223372036854775808 ≤ o.kind
  k1 : o.kind ≤ 9223372036854775807
def elOpL : El OpL where
  ty := 60
  size := 4
  cells := fun o => [.int .i64 o.kind, .bool o.sec, .slice o.its.p o.its.n o.its.c, .slice o.rcs.p o.rcs.n o.rcs.c]
  len := fun _ => rfl
  one := fun x u hu => by
    simp only [List.mem_cons, List.not_mem_nil, or_false] at hu
    rcases hu with rfl | rfl | rfl | rfl <;> rfl
  In := OpL.In
  kept := fun h hs hb => ⟨h.its.kept hs hb, h.rcs.kept hs hb, h.k0, h.k1⟩
  mono := fun h hb => ⟨h.its.mono hb, h.rcs.mono hb, h.k0, h.k1⟩
def OpL.tot (o : OpL) : Nat := o.its.sumI o.its.n + o.rcs.sumR o.rcs.n
def LT.sumL (l : LT OpL) (i : Nat) : Nat := ((List.range i).map fun j => (l.item j).tot).sum
theorem LT.sumL_succ (l : LT OpL) (i : Nat) : l.sumL (i + 1) = l.sumL i + (l.item i).tot := by simp [LT.sumL, List.range_succ]
theorem LT.sumL_mono (l : LT OpL) {i j : Nat} (h : i ≤ j) : l.sumL i ≤ l.sumL j := by
  induction h with
  | refl => exact Nat.le_refl _
  | step _ ih => rw [LT.sumL_succ]; omega
def FewL (s : LT OpL) (w : World) (e : Ending) (w' : World) : Prop := ∃ r : Bool, e = .returned (.bool r) ∧ (r = true → s.sumL s.n ≤ 10000) ∧ Below w.heap.size w w'
set_option maxHeartbeats 4000000 in
theorem lfew_any (s : LT OpL) (w : World) (hin : LT.In elOpL w (fun b => b < w.heap.size) s) : Calls Try.prog 21 #[.slice s.p s.n s.c] w fun e w' => FewL s w e w' := by
  have HI := hid hin
  have hnn := hin.nn
  have HNw := hid (szNew_any w)
  clear hin
  go_enter Try.func21, Try.ntmps21
  go_wp2_with fail
  refine HNw.out.mono ?_
  rintro e w1 ⟨rfl, rfl⟩
  have HB0 := hid (Box.new w #[.int .i64 10000] 104)
  have HAl : Hid (Below w.heap.size w (w.alloc (.cells #[.int .i64 10000] 104))) := (Below.refl _ _).alloc (Nat.le_refl _) _
  clear HNw
  go_wp2_with fail
  go_loopw [4] (fun x wr => ∃ (k : Nat) (m : Int), k ≤ s.n ∧ x = .int .i64 (k : Int) ∧ Box wr w.heap.size #[.int .i64 m] 104 ∧ Told 10000 m (s.sumL k) ∧ Below w.heap.size w wr) (fun x _ => s.n - (intOf x).toNat)
  case atStart => exact ⟨0, 10000, Nat.zero_le _, rfl, HB0.out, ⟨fun h => ⟨h, by simp [LT.sumL]⟩, Int.le_refl _, by omega⟩, HAl.out⟩
  case round =>
    obtain ⟨k, m, hk, rfl, hbm, ht, hkm⟩ := hrel
    have HO := hid (szOk_any wr w.heap.size m hbm)
    have HM := hid (And.intro hbm (And.intro ht hkm))
    have hml := ht.le
    have hmo := ht.low
    have hbl := hbm.lt
    clear hbm ht hkm HB0 HAl
    by_cases hlt : k < s.n
    · have hlt' : (k : Int) < (s.n : Int) := by omega
      by_cases hm : 0 ≤ m
      · have hd : decide (0 ≤ m) = true := decide_eq_true hm
        rw [hd] at HO
        obtain ⟨bb, o, hp, hSb, hbb, hat⟩ := HI.out.at_ (by omega)
        rw [hp]
        have hcell : ∀ r u, (elOpL.cells (s.item k))[r]? = some u → wr.cell? ⟨bb, o + k * 4 + r, none⟩ = some u := fun r u hu => (World.cell?_of_block (a := ⟨bb, o + k * 4 + r, none⟩) (HM.out.2.2.block bb hbb)).trans (hat k hlt r u hu)
        have c2 := hcell 2 _ rfl
        have c3 := hcell 3 _ rfl
        have hj : OpL.In w (fun b => b < w.heap.size) (s.item k) := HI.out.each k hlt
        have HC := hid (szItems_all (s.item k).its wr (fun b => b < w.heap.size) w.heap.size m (hj.its.kept HM.out.2.2.size (fun x hx _ => HM.out.2.2.block x hx)) (Nat.lt_irrefl _) HM.out.1 hmo (by omega))
        have HJ := hid hj
        clear hat hj
        go_wp2_with (go_at_call 28; refine HO.out.mono ?_; rintro e w2 ⟨rfl, rfl⟩)
        go_at_call 27
        refine HC.out.mono ?_
        rintro e w3 ⟨rfl, m', hb3, ht3, hk3⟩
        have hcell3 : ∀ r u, (elOpL.cells (s.item k))[r]? = some u → w3.cell? ⟨bb, o + k * 4 + r, none⟩ = some u := fun r u hu => (World.cell?_of_block (a := ⟨bb, o + k * 4 + r, none⟩) (hk3.block bb (by omega) (by omega))).trans (hcell r u hu)
        have d3 := hcell3 3 _ rfl
        have HB3 := hid (HM.out.2.2.trans (hk3.below HM.out.2.2.size (fun j hj e => by omega)))
        have HC2 := hid (szRecords_all (s.item k).rcs w3 (fun b => b < w.heap.size) w.heap.size m' (HJ.out.rcs.kept HB3.out.size (fun x hx _ => HB3.out.block x hx)) (Nat.lt_irrefl _) hb3 ht3.low (by have := ht3.le; omega))
        have HT3 := hid (HM.out.2.1.two ht3)
        clear hcell hcell3 hb3 ht3 hk3 c2 c3
        go_wp2_with fail
        refine HC2.out.mono ?_
        rintro e w4 ⟨rfl, m4, hb4, ht4, hk4⟩
        have HT4 := hid (HT3.out.two ht4)
        have HB4 := hid (HB3.out.trans (hk4.below HB3.out.size (fun j hj e => by omega)))
        have HX4 := hid hb4
        clear hb4 ht4 hk4 d3
        go_wp2_with fail
        go_roundw
        case rel =>
          refine ⟨k + 1, m4, by omega, by go_num, HX4.out, ?_, HB4.out⟩
          rw [LT.sumL_succ]
          unfold OpL.tot
          rw [← Nat.add_assoc]
          exact HT4.out
        case measure => simp [intOf]; omega
      · have hd : decide (0 ≤ m) = false := decide_eq_false hm
        rw [hd] at HO
        go_wp2_with (go_at_call 28; refine HO.out.mono ?_; rintro e w2 ⟨rfl, rfl⟩)
        exact bodyPost_ret (v := .bool false) (by simp [results, Try.results21, go_sem]) rfl ⟨false, rfl, (fun h => by cases h), HM.out.2.2⟩
    · obtain rfl : k = s.n := by omega
      go_wp2_with (go_at_call 28; refine HO.out.mono ?_; rintro e w2 ⟨rfl, rfl⟩)
      refine bodyPost_ret (v := .bool (decide (0 ≤ m))) (by simp [results, Try.results21, go_sem]) rfl ⟨_, rfl, fun h => ?_, HM.out.2.2⟩
      have h2 : 0 ≤ m := of_decide_eq_true h
      have h0 := (HM.out.2.1.ok h2).2
      omega
end Go.Proofs.Ytpldokahoamdpaa
