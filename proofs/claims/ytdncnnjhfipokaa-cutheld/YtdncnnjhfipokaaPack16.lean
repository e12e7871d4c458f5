import Derived.Test.YtdncnnjhfipokaaPack14
import Derived.Test.YtdncnnjhfipokaaPack15
namespace Go.Proofs.Ytdncnnjhfipokaa
open Go.RowKit
set_option maxRecDepth 8000
theorem ST.ofLT0 {w : World} {S : Nat → Prop} {l : LT VT} (h : LT.In elCell w S l) : ST.In w S ⟨0, l.p, l.n, l.c, l.item⟩ := by
  refine ⟨fun hn => ?_, h.each, h.nc, h.nn, h.cc, (by show (-9223372036854775808 : Int) ≤ 0; omega), (by show (0 : Int) ≤ 9223372036854775807; omega)⟩
  obtain ⟨b, o, e, hS, hl, ha⟩ := h.at_ hn
  exact ⟨b, o, e, hS, hl, fun j hj => ⟨ha j hj 0 _ rfl, ha j hj 1 _ rfl⟩⟩
def LT.totC (l : LT VT) : Nat := ST.total ⟨0, l.p, l.n, l.c, l.item⟩
theorem LT.totC_sz {l : LT VT} (h : l.totC ≤ 10000) : SzC l := by
  have h0 : l.n + ST.upto ⟨0, l.p, l.n, l.c, l.item⟩ l.n ≤ 10000 := h
  exact ⟨by omega, fun j hj => Nat.le_trans (ST.cell_total ⟨0, l.p, l.n, l.c, l.item⟩ hj) h⟩
def LT.sumR (l : LT RT) (i : Nat) : Nat := ((List.range i).map fun j => 1 + (l.item j).n + (l.item j).v.total).sum
theorem LT.sumR_succ (l : LT RT) (i : Nat) : l.sumR (i + 1) = l.sumR i + (1 + (l.item i).n + (l.item i).v.total) := by simp [LT.sumR, List.range_succ]
theorem LT.sumR_mono (l : LT RT) {i j : Nat} (h : i ≤ j) : l.sumR i ≤ l.sumR j := by
  induction h with
  | refl => exact Nat.le_refl _
  | step _ ih => rw [LT.sumR_succ]; omega
theorem LT.sumR_le (l : LT RT) : ∀ i, i ≤ l.sumR i := by
  intro i
  induction i with
  | zero => exact Nat.zero_le _
  | succ i ih => rw [LT.sumR_succ]; omega
theorem LT.sumR_sz {l : LT RT} (h : l.sumR l.n ≤ 10000) : SzR l := by
  refine ⟨Nat.le_trans (l.sumR_le l.n) h, fun j hj => ?_⟩
  have h1 := l.sumR_mono (show j + 1 ≤ l.n from hj)
  rw [LT.sumR_succ] at h1
  unfold RT.size; omega
theorem Told.neg {l : Int} (k : Nat) (h : l < 0) (h1 : -1000000000000000 ≤ l) : Told l l k := ⟨fun h0 => absurd h0 (by omega), Int.le_refl _, h1⟩
theorem Told.two {l m q : Int} {j k : Nat} (h : Told l m j) (g : Told m q k) : Told l q (j + k) :=
  ⟨fun h0 => by have a := g.ok h0; have b := h.ok a.1; exact ⟨b.1, by omega⟩, by have := h.le; have := g.le; omega, g.low⟩
set_option maxHeartbeats 1000000 in
theorem szRecord_neg (r : RT) (w : World) (S : Nat → Prop) (b : Nat) (l : Int) (hin : RT.In w S r) (hb : Box w b #[.int .i64 l] 103) (hl : l < 0) (hl1 : -1000000000000000 ≤ l) :
    Calls Try.prog 30 #[.pointer (some ⟨b, 0, none⟩), r.val] w fun e w' => SzPost b l (1 + r.n + r.v.total) w e w' := by
  have hnn := hin.l.nn
  have hvn := hin.v.fit.nn
  have hal : Below w.heap.size w (w.alloc (.cells #[.string r.key, .int .i64 r.v.kind, .int .i64 r.v.int, .string r.v.text, .slice r.v.p r.v.n r.v.c, .slice r.p r.n r.c] 36)) := (Below.refl _ _).alloc (Nat.le_refl _) _
  have HA := hid (szAdd_neg _ b l (1 + (r.n : Int)) (hb.below hal) hl)
  have HV := hid (szValues_neg _ b l r.v.p r.v.n r.v.c hvn (hb.below hal) hl)
  have HB := hid (And.intro (hb.below hal) hal)
  have hbl := hb.lt
  unfold RT.val
  clear hin hb hal
  go_enter Try.func30, Try.ntmps30
  go_wp2_with fail
  refine HA.out.mono ?_
  rintro e w1 ⟨rfl, rfl⟩
  go_wp2_with fail
  refine HV.out.mono ?_
  rintro e w1 ⟨rfl, rfl⟩
  go_wp2_with fail
  go_end0
  exact ⟨rfl, l, HB.out.1, Told.neg _ hl hl1, But.ofBelow HB.out.2⟩
theorem szRecord_all (r : RT) (w : World) (S : Nat → Prop) (b : Nat) (l : Int) (hin : RT.In w S r) (hS : ¬ S b) (hb : Box w b #[.int .i64 l] 103) (hl : -1000000000000000 ≤ l) (hl2 : l ≤ 10000) :
    Calls Try.prog 30 #[.pointer (some ⟨b, 0, none⟩), .agg #[.string r.key, .int .i64 r.v.kind, .int .i64 r.v.int, .string r.v.text, .slice r.v.p r.v.n r.v.c, .slice r.p r.n r.c]] w fun e w' => SzPost b l (1 + r.n + r.v.total) w e w' := by
  by_cases h : 0 ≤ l
  · exact szRecord_any r w S b l hin hS hb h hl2
  · exact szRecord_neg r w S b l hin hb (by omega) hl
set_option maxHeartbeats 1000000 in
theorem szCells_neg (q : LT VT) (w : World) (b : Nat) (l : Int) (hn : q.n ≤ 140737488355328) (hb : Box w b #[.int .i64 l] 103) (hl : l < 0) :
    Calls Try.prog 31 #[.pointer (some ⟨b, 0, none⟩), .slice q.p q.n q.c] w fun e w' => e = .returned (.tuple #[]) ∧ w' = w := by
  have HA := hid (szAdd_neg w b l (q.n : Int) hb hl)
  have HO := hid (szOk_any w b l hb)
  have hd : decide (0 ≤ l) = false := decide_eq_false (by omega)
  rw [hd] at HO
  clear hb hd
  go_enter Try.func31, Try.ntmps31
  go_wp2_with fail
  refine HA.out.mono ?_
  rintro e w1 ⟨rfl, rfl⟩
  go_wp2_with fail
  go_loopw [4] (fun x wr => wr = w1 ∧ x = .int .i64 0) (fun _ _ => 0)
  case atStart => exact ⟨rfl, rfl⟩
  case round =>
    obtain ⟨rfl, rfl⟩ := hrel
    by_cases h0 : q.n = 0
    · have h0' : ¬ (0 : Int) < (q.n : Int) := by omega
      go_wp2_with fail
      go_end0
      exact ⟨rfl, rfl⟩
    · have h0' : (0 : Int) < (q.n : Int) := by omega
      go_wp2_with (go_at_call 29; refine HO.out.mono ?_; rintro e w2 ⟨rfl, rfl⟩)
      go_end0
      exact ⟨rfl, rfl⟩
theorem szCells_all (q : LT VT) (w : World) (S : Nat → Prop) (b : Nat) (l : Int) (hin : LT.In elCell w S q) (hS : ¬ S b) (hb : Box w b #[.int .i64 l] 103) (hl : -1000000000000000 ≤ l) (hl2 : l ≤ 10000) :
    Calls Try.prog 31 #[.pointer (some ⟨b, 0, none⟩), .slice q.p q.n q.c] w fun e w' => SzPost b l q.totC w e w' := by
  by_cases h : 0 ≤ l
  · exact szCells_any ⟨0, q.p, q.n, q.c, q.item⟩ w S b l (ST.ofLT0 hin) hS hb h hl2
  · refine (szCells_neg q w b l hin.nn hb (by omega)).mono fun e w' hp => ?_
    obtain ⟨rfl, rfl⟩ := hp
    exact ⟨rfl, l, hb, Told.neg _ (by omega) hl, But.refl _ _⟩
set_option maxHeartbeats 2000000 in
theorem szRecords_all (q : LT RT) (w : World) (S : Nat → Prop) (b : Nat) (l : Int) (hin : LT.In elRec w S q) (hS : ¬ S b) (hb : Box w b #[.int .i64 l] 103) (hl : -1000000000000000 ≤ l) (hl2 : l ≤ 10000) :
    Calls Try.prog 32 #[.pointer (some ⟨b, 0, none⟩), .slice q.p q.n q.c] w fun e w' => SzPost b l (q.sumR q.n) w e w' := by
  have HI := hid hin
  have HB := hid hb
  have hnn := hin.nn
  clear hin hb
  go_enter Try.func32, Try.ntmps32
  go_wp2_with fail
  go_loopw [4] (fun x wr => ∃ (k : Nat) (m : Int), k ≤ q.n ∧ x = .int .i64 (k : Int) ∧ Box wr b #[.int .i64 m] 103 ∧ Told l m (q.sumR k) ∧ But (fun k => k = b) w wr) (fun x _ => q.n - (intOf x).toNat)
  case atStart => exact ⟨0, l, Nat.zero_le _, rfl, HB.out, ⟨fun h => ⟨h, by simp [LT.sumR]⟩, Int.le_refl _, hl⟩, But.refl _ _⟩
  case round =>
    obtain ⟨k, m, hk, rfl, hbm, ht, hkm⟩ := hrel
    have HO := hid (szOk_any wr b m hbm)
    have HM := hid (And.intro hbm (And.intro ht hkm))
    have hml := ht.le
    have hmo := ht.low
    have hbl := hbm.lt
    clear hbm ht hkm
    by_cases hlt : k < q.n
    · have hlt' : (k : Int) < (q.n : Int) := by omega
      by_cases hm : 0 ≤ m
      · have hd : decide (0 ≤ m) = true := decide_eq_true hm
        rw [hd] at HO
        obtain ⟨bb, o, hp, hSb, hbb, hat⟩ := HI.out.at_ (by omega)
        rw [hp]
        have hne : bb ≠ b := fun e => hS (e ▸ hSb)
        have hcell : ∀ r u, (elRec.cells (q.item k))[r]? = some u → wr.cell? ⟨bb, o + k * 6 + r, none⟩ = some u := fun r u hu => (World.cell?_of_block (a := ⟨bb, o + k * 6 + r, none⟩) (HM.out.2.2.block bb hbb hne)).trans (hat k hlt r u hu)
        have c0 : wr.cell? ⟨bb, o + k * 6, none⟩ = some (.string (q.item k).key) := hcell 0 _ rfl
        have c1 := hcell 1 _ rfl
        have c2 := hcell 2 _ rfl
        have c3 := hcell 3 _ rfl
        have c4 := hcell 4 _ rfl
        have c5 := hcell 5 _ rfl
        have HC := hid (szRecord_all (q.item k) wr S b m (RT.In.but (HI.out.each k hlt) HM.out.2.2 (fun x hx _ e => hS (e ▸ hx))) hS HM.out.1 hmo (by omega))
        clear hcell hat
        go_wp2_with (first | (go_at_call 29; refine HO.out.mono ?_; rintro e w2 ⟨rfl, rfl⟩) | (go_at_call 30; refine HC.out.mono ?_; rintro e w3 ⟨rfl, m', hb3, ht3, hk3⟩))
        go_roundw
        case rel =>
          refine ⟨k + 1, m', by omega, by go_num, hb3, ?_, HM.out.2.2.trans hk3⟩
          rw [LT.sumR_succ]
          exact HM.out.2.1.two ht3
        case measure => simp [intOf]; omega
      · have hd : decide (0 ≤ m) = false := decide_eq_false hm
        rw [hd] at HO
        go_wp2_with (go_at_call 29; refine HO.out.mono ?_; rintro e w2 ⟨rfl, rfl⟩)
        go_end0
        exact ⟨rfl, m, HM.out.1, ⟨fun h => absurd h (by omega), HM.out.2.1.le, HM.out.2.1.low⟩, HM.out.2.2⟩
    · obtain rfl : k = q.n := by omega
      go_wp2_with fail
      go_end0
      exact ⟨rfl, m, HM.out.1, HM.out.2.1, HM.out.2.2⟩
end Go.Proofs.Ytdncnnjhfipokaa

namespace Go.Proofs.Ytdncnnjhfipokaa
open Go.RowKit
set_option maxRecDepth 8000
def legalB (mode ports back : Int) : Bool := decide (1 ≤ mode ∧ mode ≤ 3 ∧ 1 ≤ ports ∧ ports ≤ 4 ∧ -1 ≤ back ∧ back < ports ∧ (1 < ports ∨ back ≠ 0))
def LegP (mode ports back : Int) (w : World) (e : Ending) (w' : World) : Prop := e = .returned (.bool (legalB mode ports back)) ∧ w' = w
set_option maxHeartbeats 4000000 in
theorem legal_any (mode ports back : Int) (w : World) : Calls Try.prog 9 #[.int .i64 mode, .int .i64 ports, .int .i64 back] w fun e w' => LegP mode ports back w e w' := by
  by_cases m1 : 1 ≤ mode
  rotate_left
  · have hd : Hid (legalB mode ports back = false) := decide_eq_false (by omega)
    skip
    go_enter Try.func9, Try.ntmps9
    go_wp2
    refine bodyPost_ret (v := .bool false) (by simp [results, Try.results9, go_sem]; try omega) rfl ⟨by rw [hd.out], rfl⟩
  by_cases m2 : mode ≤ 3
  rotate_left
  · have hd : Hid (legalB mode ports back = false) := decide_eq_false (by omega)
    skip
    go_enter Try.func9, Try.ntmps9
    go_wp2
    refine bodyPost_ret (v := .bool false) (by simp [results, Try.results9, go_sem]; try omega) rfl ⟨by rw [hd.out], rfl⟩
  by_cases p1 : 1 ≤ ports
  rotate_left
  · have hd : Hid (legalB mode ports back = false) := decide_eq_false (by omega)
    skip
    go_enter Try.func9, Try.ntmps9
    go_wp2
    refine bodyPost_ret (v := .bool false) (by simp [results, Try.results9, go_sem]; try omega) rfl ⟨by rw [hd.out], rfl⟩
  by_cases p2 : ports ≤ 4
  rotate_left
  · have hd : Hid (legalB mode ports back = false) := decide_eq_false (by omega)
    skip
    go_enter Try.func9, Try.ntmps9
    go_wp2
    refine bodyPost_ret (v := .bool false) (by simp [results, Try.results9, go_sem]; try omega) rfl ⟨by rw [hd.out], rfl⟩
  by_cases b1 : -1 ≤ back
  rotate_left
  · have hd : Hid (legalB mode ports back = false) := decide_eq_false (by omega)
    skip
    go_enter Try.func9, Try.ntmps9
    go_wp2
    refine bodyPost_ret (v := .bool false) (by simp [results, Try.results9, go_sem]; try omega) rfl ⟨by rw [hd.out], rfl⟩
  by_cases b2 : back < ports
  rotate_left
  · have hd : Hid (legalB mode ports back = false) := decide_eq_false (by omega)
    skip
    go_enter Try.func9, Try.ntmps9
    go_wp2
    refine bodyPost_ret (v := .bool false) (by simp [results, Try.results9, go_sem]; try omega) rfl ⟨by rw [hd.out], rfl⟩
  by_cases c1 : 1 < ports
  · have hd : Hid (legalB mode ports back = true) := decide_eq_true (by omega)
    skip
    go_enter Try.func9, Try.ntmps9
    go_wp2
    refine bodyPost_ret (v := .bool true) (by simp [results, Try.results9, go_sem]; try omega) rfl ⟨by rw [hd.out], rfl⟩
  by_cases c2 : back = 0
  · subst c2
    have hd : Hid (legalB mode ports 0 = false) := decide_eq_false (by omega)
    have hb0 : ((0 : Int) == 0) = true := by rfl
    go_enter Try.func9, Try.ntmps9
    go_wp2
    refine bodyPost_ret (v := .bool false) (by simp [results, Try.results9, go_sem]; try omega) rfl ⟨by rw [hd.out], rfl⟩
  · have hd : Hid (legalB mode ports back = true) := decide_eq_true (by omega)
    have hb0 : (back != 0) = true := by simp [c2]
    go_enter Try.func9, Try.ntmps9
    go_wp2
    refine bodyPost_ret (v := .bool true) (by simp [results, Try.results9, go_sem]; try omega) rfl ⟨by rw [hd.out], rfl⟩
def rt0 : RT := ⟨⟨#[]⟩, .nil, none, 0, 0, fun _ => 0⟩
def Bk.fresh (mode ports back : Int) : Bk := ⟨mode, ports, back, 0, fun _ => 0, false, 0, nilL (fun _ => .nil), nilL (fun _ => rt0), fun _ => nilL (fun _ => rt0)⟩
theorem new_inv (mode ports back : Int) (w : World) (h : legalB mode ports back = true) : BkI (w.alloc (.cells (Bk.fresh mode ports back).arr 78)) w.heap.size (Bk.fresh mode ports back) := by
  have h := of_decide_eq_true h
  refine ⟨Box.new _ _ _, fun i _ => World.ownsRow_nil _ _ _ _, fun i _ e => (by cases e), fun i j _ _ _ k hk => (by cases hk), h.1, h.2.1, h.2.2.1, h.2.2.2.1, h.2.2.2.2.1, h.2.2.2.2.2.1, Int.le_refl _, (by show (0 : Int) ≤ 9999; omega), fun _ _ => .inl rfl⟩
def NewP (mode ports back : Int) (w : World) (e : Ending) (w' : World) : Prop :=
    (legalB mode ports back = true → e = .returned (.tuple #[.pointer (some ⟨w.heap.size, 0, none⟩), .int .i64 0]) ∧ w' = w.alloc (.cells (Bk.fresh mode ports back).arr 78)) ∧
    (legalB mode ports back = false → w' = w ∧ ∃ k : Int, (k = 130 ∨ k = 131) ∧ e = .returned (.tuple #[.pointer none, .int .i64 k]))
set_option maxHeartbeats 4000000 in
theorem new_any (mode ports back : Int) (w : World) : Calls Try.prog 10 #[.int .i64 mode, .int .i64 ports, .int .i64 back] w fun e w' => NewP mode ports back w e w' := by
  by_cases m1 : 1 ≤ mode
  rotate_left
  · have hd : Hid (legalB mode ports back = false) := decide_eq_false (by omega)
    go_enter Try.func10, Try.ntmps10
    go_wp2
    refine bodyPost_ret (v := .tuple #[.pointer none, .int .i64 130]) (by simp [results, Try.results10, go_sem]) rfl ⟨fun h => (by rw [hd.out] at h; cases h), fun _ => ⟨rfl, 130, .inl rfl, rfl⟩⟩
  by_cases m2 : mode ≤ 3
  rotate_left
  · have hd : Hid (legalB mode ports back = false) := decide_eq_false (by omega)
    go_enter Try.func10, Try.ntmps10
    go_wp2
    refine bodyPost_ret (v := .tuple #[.pointer none, .int .i64 130]) (by simp [results, Try.results10, go_sem]) rfl ⟨fun h => (by rw [hd.out] at h; cases h), fun _ => ⟨rfl, 130, .inl rfl, rfl⟩⟩
  by_cases p1 : 1 ≤ ports
  rotate_left
  · have hd : Hid (legalB mode ports back = false) := decide_eq_false (by omega)
    go_enter Try.func10, Try.ntmps10
    go_wp2
    refine bodyPost_ret (v := .tuple #[.pointer none, .int .i64 131]) (by simp [results, Try.results10, go_sem]) rfl ⟨fun h => (by rw [hd.out] at h; cases h), fun _ => ⟨rfl, 131, .inr rfl, rfl⟩⟩
  by_cases p2 : ports ≤ 4
  rotate_left
  · have hd : Hid (legalB mode ports back = false) := decide_eq_false (by omega)
    go_enter Try.func10, Try.ntmps10
    go_wp2
    refine bodyPost_ret (v := .tuple #[.pointer none, .int .i64 131]) (by simp [results, Try.results10, go_sem]) rfl ⟨fun h => (by rw [hd.out] at h; cases h), fun _ => ⟨rfl, 131, .inr rfl, rfl⟩⟩
  by_cases b1 : -1 ≤ back
  rotate_left
  · have hd : Hid (legalB mode ports back = false) := decide_eq_false (by omega)
    go_enter Try.func10, Try.ntmps10
    go_wp2
    refine bodyPost_ret (v := .tuple #[.pointer none, .int .i64 131]) (by simp [results, Try.results10, go_sem]) rfl ⟨fun h => (by rw [hd.out] at h; cases h), fun _ => ⟨rfl, 131, .inr rfl, rfl⟩⟩
  by_cases b2 : back < ports
  rotate_left
  · have hd : Hid (legalB mode ports back = false) := decide_eq_false (by omega)
    go_enter Try.func10, Try.ntmps10
    go_wp2
    refine bodyPost_ret (v := .tuple #[.pointer none, .int .i64 131]) (by simp [results, Try.results10, go_sem]) rfl ⟨fun h => (by rw [hd.out] at h; cases h), fun _ => ⟨rfl, 131, .inr rfl, rfl⟩⟩
  by_cases c1 : 1 < ports
  · have hd : Hid (legalB mode ports back = true) := decide_eq_true (by omega)
    have hp0 : (ports == 1) = false := by simp; omega
    by_cases c3 : back = 0
    · subst c3
      have hd : Hid (legalB mode ports 0 = true) := hd
      go_enter Try.func10, Try.ntmps10
      go_wp2
      exact bodyPost_ret (v := .tuple #[.pointer (some ⟨w.heap.size, 0, none⟩), .int .i64 0]) (by simp [results, Try.results10, go_sem]) rfl ⟨fun _ => ⟨rfl, rfl⟩, fun h => by rw [hd.out] at h; cases h⟩
    · have hb0 : (back == 0) = false := by simp [c3]
      go_enter Try.func10, Try.ntmps10
      go_wp2
      exact bodyPost_ret (v := .tuple #[.pointer (some ⟨w.heap.size, 0, none⟩), .int .i64 0]) (by simp [results, Try.results10, go_sem]) rfl ⟨fun _ => ⟨rfl, rfl⟩, fun h => by rw [hd.out] at h; cases h⟩
  by_cases c2 : back = 0
  · subst c2
    have hd : Hid (legalB mode ports 0 = false) := decide_eq_false (by omega)
    have hb0 : ((0 : Int) == 0) = true := by rfl
    have hp0 : (ports == 1) = true := by simp; omega
    go_enter Try.func10, Try.ntmps10
    go_wp2
    refine bodyPost_ret (v := .tuple #[.pointer none, .int .i64 131]) (by simp [results, Try.results10, go_sem]) rfl ⟨fun h => (by rw [hd.out] at h; cases h), fun _ => ⟨rfl, 131, .inr rfl, rfl⟩⟩
  · have hd : Hid (legalB mode ports back = true) := decide_eq_true (by omega)
    have hb0 : (back == 0) = false := by simp [c2]
    go_enter Try.func10, Try.ntmps10
    go_wp2
    exact bodyPost_ret (v := .tuple #[.pointer (some ⟨w.heap.size, 0, none⟩), .int .i64 0]) (by simp [results, Try.results10, go_sem]) rfl ⟨fun _ => ⟨rfl, rfl⟩, fun h => by rw [hd.out] at h; cases h⟩
set_option maxHeartbeats 1000000 in
theorem num_any (k : Int) (w : World) : Calls Try.prog 11 #[.int .i64 k] w fun e w' => e = .returned (.int .i64 k) ∧ w' = w := by
  go_enter Try.func11, Try.ntmps11
  go_wp2
  exact bodyPost_ret (v := .int .i64 k) (by simp [results, Try.results11, go_sem]) rfl ⟨rfl, rfl⟩
end Go.Proofs.Ytdncnnjhfipokaa
