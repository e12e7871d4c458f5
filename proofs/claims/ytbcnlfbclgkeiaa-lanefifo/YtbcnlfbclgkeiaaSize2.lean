import Derived.Test.YtbcnlfbclgkeiaaSize
import Derived.Test.YtbcnlfbclgkeiaaRecT
namespace Go.Proofs.Ytbcnlfbclgkeiaa
open Go.RowKit
set_option maxRecDepth 8000

set_option maxHeartbeats 400000 in
theorem szValues_neg (w : World) (b : Nat) (l : Int) (p : Option Addr) (n c : Nat) (hn : n ≤ 140737488355328) (hb : Box w b #[.int .i64 l] 104) (hl : l < 0) :
    Calls Try.prog 73 #[.pointer (some ⟨b, 0, none⟩), .slice p n c] w fun e w' => e = .returned (.tuple #[]) ∧ w' = w := by
  have HA := szAdd_neg w b l (n : Int) hb hl
  have HO := szOk_any w b l hb
  have hd : decide (0 ≤ l) = false := decide_eq_false (by omega)
  rw [hd] at HO
  clear hb
  by_cases h0 : 0 < n
  · have h0' : (0 : Int) < (n : Int) := by omega
    go_enter Try.func73, Try.ntmps73
    go_wp2_with (go_at_call 72; refine HA.mono ?_; rintro e w1 ⟨rfl, rfl⟩)
    refine wp_loop_rounds 1 ?_
    rw [rounds_succ]
    go_wp2_with (go_at_call 28; refine HO.mono ?_; rintro e w2 ⟨rfl, rfl⟩)
    go_end0
    exact ⟨rfl, rfl⟩
  · obtain rfl : n = 0 := by omega
    go_enter Try.func73, Try.ntmps73
    go_wp2_with (go_at_call 72; refine HA.mono ?_; rintro e w1 ⟨rfl, rfl⟩)
    refine wp_loop_rounds 1 ?_
    rw [rounds_succ]
    go_wp2_with fail
    go_end0
    exact ⟨rfl, rfl⟩

def SzPost (b : Nat) (l : Int) (k : Nat) (w : World) (e : Ending) (w' : World) : Prop := e = .returned (.tuple #[]) ∧ ∃ m, Box w' b #[.int .i64 m] 104 ∧ Told l m k ∧ But (fun k => k = b) w w'

theorem szValues_all (t : VT) (w : World) (S : Nat → Prop) (b : Nat) (l : Int) (hin : VT.In w S t) (hS : ¬ S b) (hb : Box w b #[.int .i64 l] 104) (hl : -1000000000000000 ≤ l) (hl2 : l ≤ 10000) :
    Calls Try.prog 73 #[.pointer (some ⟨b, 0, none⟩), t.row] w fun e w' => SzPost b l t.total w e w' := by
  by_cases h : 0 ≤ l
  · exact szValues_any t w S b l hin hS hb h hl2
  · refine (szValues_neg w b l t.p t.n t.c hin.fit.nn hb (by omega)).mono fun e w' hp => ?_
    obtain ⟨rfl, rfl⟩ := hp
    exact ⟨rfl, l, hb, ⟨fun h2 => absurd h2 h, Int.le_refl _, hl⟩, But.refl _ _⟩

theorem Told.add {l l1 m : Int} {j k : Nat} (h : l1 = l - j) (hl : 0 ≤ l) (t : Told l1 m k) : Told l m (j + k) :=
  ⟨fun h0 => ⟨hl, by have := t.ok h0; omega⟩, by have := t.le; omega, t.low⟩

set_option maxHeartbeats 1000000 in
theorem szRecord_any (r : RT) (w : World) (S : Nat → Prop) (b : Nat) (l : Int) (hin : RT.In w S r) (hS : ¬ S b) (hb : Box w b #[.int .i64 l] 104) (hl : 0 ≤ l) (hl2 : l ≤ 10000) :
    Calls Try.prog 56 #[.pointer (some ⟨b, 0, none⟩), r.val] w fun e w' => SzPost b l (1 + r.n + r.v.total) w e w' := by
  have hnn := hin.l.nn
  have hbl := hb.lt
  have HB : Hid (Box w b #[.int .i64 l] 104) := hb
  have HI : Hid (RT.In w S r) := hin
  unfold RT.val
  clear hin hb
  go_enter Try.func56, Try.ntmps56
  go_wp2_with fail
  have hal : Below w.heap.size w (w.alloc (.cells #[.string r.key, .int .i64 r.v.kind, .int .i64 r.v.int, .string r.v.text, .slice r.v.p r.v.n r.v.c, .slice r.p r.n r.c] 33)) := (Below.refl _ _).alloc (Nat.le_refl _) _
  have hbx := Box.new w #[.string r.key, .int .i64 r.v.kind, .int .i64 r.v.int, .string r.v.text, .slice r.v.p r.v.n r.v.c, .slice r.p r.n r.c] 33
  refine (szAdd_pos _ b l (1 + (r.n : Int)) (HB.out.below hal) hl hl2 (by omega) (by omega)).mono ?_
  rintro e w1 ⟨rfl, hb1, hk1⟩
  have hbx1 := hbx.but hk1 (show w.heap.size ≠ b by omega)
  have x4 := hbx1.cell 4
  simp at x4
  have HX : Hid (Box w1 b #[.int .i64 (l - (1 + (r.n : Int)))] 104 ∧ But (fun k => k = b) w w1) := ⟨hb1, (But.ofBelow hal).trans hk1⟩
  clear hb1 hk1 hbx hbx1 hal
  go_wp2_with fail
  have h := szValues_all r.v w1 S b (l - (1 + (r.n : Int))) ?_ hS HX.out.1 (by omega) (by omega)
  · refine h.mono ?_
    clear h
    rintro e w2 ⟨rfl, m, hb2, ht2, hk2⟩
    go_wp2_with fail
    go_end0
    refine ⟨rfl, m, hb2, ?_, HX.out.2.trans hk2⟩
    exact ht2.add (by omega) hl
  · exact HI.out.v.but HX.out.2 (fun x hx _ e => hS (e ▸ hx))

theorem szNew_any (w' : World) : Calls Try.prog 26 #[] w' fun e w1 => e = .returned (.pointer (some ⟨w'.heap.size, 0, none⟩)) ∧ w1 = w'.alloc (.cells #[.int .i64 10000] 104) := by
  go_enter Try.func26, Try.ntmps26
  go_wp2
  go_ret
  exact ⟨rfl, rfl⟩

set_option maxHeartbeats 1000000 in
theorem szRecords_one (r : RT) (w : World) (S : Nat → Prop) (b : Nat) (l : Int) (hin : RT.In w S r) (hS : ¬ S b) (hb : Box w b #[.int .i64 l] 104) (hl : 0 ≤ l) (hl2 : l ≤ 10000) (ab : Nat) (hab : Box w ab #[.string r.key, .int .i64 r.v.kind, .int .i64 r.v.int, .string r.v.text, .slice r.v.p r.v.n r.v.c, .slice r.p r.n r.c] 33) :
    Calls Try.prog 37 #[.pointer (some ⟨b, 0, none⟩), .slice (some ⟨ab, 0, none⟩) 1 1] w fun e w' => SzPost b l (1 + r.n + r.v.total) w e w' := by
  have HO := szOk_any w b l hb
  rw [decide_eq_true hl] at HO
  have HC : Hid (Calls Try.prog 56 #[.pointer (some ⟨b, 0, none⟩), r.val] w fun e w' => SzPost b l (1 + r.n + r.v.total) w e w') := szRecord_any r w S b l hin hS hb hl hl2
  unfold RT.val at HC
  have x0 := hab.cell 0
  have x1 := hab.cell 1
  have x2 := hab.cell 2
  have x3 := hab.cell 3
  have x4 := hab.cell 4
  have x5 := hab.cell 5
  simp at x0 x1 x2 x3 x4 x5
  clear hab hin hb hS
  go_enter Try.func37, Try.ntmps37
  go_wp2_with fail
  refine wp_loop_rounds 2 ?_
  rw [rounds_succ]
  go_wp2_with (go_at_call 28; refine HO.mono ?_; rintro e w2 ⟨rfl, rfl⟩)
  refine HC.out.mono ?_
  rintro e w3 ⟨rfl, hp⟩
  go_wp2_with fail
  rw [rounds_succ]
  go_wp2_with fail
  go_end0
  exact ⟨rfl, hp⟩

set_option maxHeartbeats 1000000 in
theorem sizesR_any (r : RT) (w : World) (S : Nat → Prop) (hin : RT.In w S r) (hS : ∀ b, S b → b < w.heap.size) (ab : Nat) (hab : Box w ab #[.string r.key, .int .i64 r.v.kind, .int .i64 r.v.int, .string r.v.text, .slice r.v.p r.v.n r.v.c, .slice r.p r.n r.c] 33) :
    Calls Try.prog 15 #[.slice (some ⟨ab, 0, none⟩) 1 1] w fun e w' => ∃ q, e = .returned (.bool q) ∧ (q = true → r.n + r.v.total ≤ 10000) ∧ Below w.heap.size w w' := by
  have hb0 : Below w.heap.size w (w.alloc (.cells #[.int .i64 10000] 104)) := (Below.refl _ _).alloc (Nat.le_refl _) _
  have HB0 : Hid (Below w.heap.size w (w.alloc (.cells #[.int .i64 10000] 104))) := hb0
  have HC := szRecords_one r (w.alloc (.cells #[.int .i64 10000] 104)) S w.heap.size 10000 (hin.below hb0) (fun h => absurd (hS _ h) (by omega)) (Box.new _ _ _) (by omega) (by omega) ab (hab.below hb0)
  clear hin hab hS hb0
  go_enter Try.func15, Try.ntmps15
  go_wp2_with (go_at_call 26; refine (szNew_any _).mono ?_; rintro e w1 ⟨rfl, rfl⟩)
  refine HC.mono ?_
  rintro e w2 ⟨rfl, m, hb2, ht2, hk2⟩
  have HO := szOk_any w2 _ m hb2
  go_wp2_with (go_at_call 28; refine HO.mono ?_; rintro e w3 ⟨rfl, rfl⟩)
  go_ret
  refine ⟨_, rfl, fun h => ?_, HB0.out.trans (hk2.below HB0.out.size fun k hk => by omega)⟩
  have h0 : 0 ≤ m := of_decide_eq_true h
  have := ht2.ok h0
  omega

end Go.Proofs.Ytbcnlfbclgkeiaa
