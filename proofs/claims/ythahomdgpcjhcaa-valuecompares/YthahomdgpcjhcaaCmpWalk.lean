import Derived.Test.YthahomdgpcjhcaaChecksWalk
import Derived.Test.YthahomdgpcjhcaaCompareV
import Derived.Test.YthahomdgpcjhcaaCmpMath
import Derived.Test.YthahomdgpcjhcaaTwoC
import Derived.Test.YthahomdgpcjhcaaReady
import Derived.Deep.RegionHeld
import Derived.Deep.DeepCutAuto
namespace Go.Proofs.Ythahomdgpcjhcaa
open Go.RowKit
set_option maxRecDepth 8000

/-- two values in a new list -/
def two (b : Nat) (t u : VT) : VT := .mk 0 0 ⟨#[]⟩ 2 (some ⟨b, 0, none⟩) 2 (fun j => if j = 0 then t else u)
theorem two_total (b : Nat) (t u : VT) : (two b t u).total = 2 + (t.total + u.total) := by simp [two, VT.total, List.range_succ]
theorem two_in {w : World} {S : Nat → Prop} {t u : VT} {b : Nat} (h : VT.In w S t) (h2 : VT.In w S u) (hb : VT.At w b 0 t) (hb2 : VT.At w b 4 u) (hS : S b) (hl : b < w.heap.size) : VT.In w S (two b t u) := by
  refine ⟨⟨?_, ?_, ?_, ?_, ?_, Nat.le_refl 2, ?_, ?_, fun h => by cases h⟩, fun _ => ⟨b, 0, rfl, hS, hl, fun j hj => ?_⟩, fun j hj => ?_⟩
  · show (-9223372036854775808 : Int) ≤ 0; omega
  · show (0 : Int) ≤ 9223372036854775807; omega
  · show (-9223372036854775808 : Int) ≤ 0; omega
  · show (0 : Int) ≤ 9223372036854775807; omega
  · show (⟨#[]⟩ : ByteArray).size ≤ 140737488355328; decide
  · show 2 ≤ 140737488355328; omega
  · show 2 ≤ maxLen; unfold maxLen; omega
  · by_cases h0 : j = 0
    · subst h0; simpa using hb
    · obtain rfl : j = 1 := by omega
      simpa using hb2
  · by_cases h0 : j = 0
    · simp only [h0, if_true]; exact h
    · simp only [if_neg h0]; exact h2

theorem box_new0 (w : World) (cs : Array Value) (e : TypeId) : Box (w.alloc (.cells cs e)).drew w.heap.size cs e := Box.new w cs e
theorem box_new1' (w : World) (o : Obj) (cs : Array Value) (e : TypeId) : Box ((w.alloc o).alloc (.cells cs e)) (w.heap.size + 1) cs e := by
  have h := Box.new (w.alloc o) cs e
  rw [show (w.alloc o).heap.size = w.heap.size + 1 by simp] at h
  exact h
theorem box_old1' (w : World) (o : Obj) (cs : Array Value) (e : TypeId) : Box ((w.alloc (.cells cs e)).alloc o) w.heap.size cs e := (Box.new w cs e).below ((Below.refl _ _).alloc (Nat.le_refl _) _)
theorem box_new1 (w : World) (o : Obj) (cs : Array Value) (e : TypeId) : Box ((w.alloc o).alloc (.cells cs e)).drew (w.heap.size + 1) cs e := box_new1' w o cs e
theorem box_old1 (w : World) (o : Obj) (cs : Array Value) (e : TypeId) : Box ((w.alloc (.cells cs e)).alloc o).drew w.heap.size cs e := box_old1' w o cs e
theorem box_over {w : World} {b : Nat} {cs : Array Value} {e : TypeId} (o : Obj) (h : Box w b cs e) : Box (w.alloc o) b cs e := h.below ((Below.refl _ _).alloc (Nat.le_refl _) _)

set_option maxHeartbeats 20000000 in
theorem compares_walk (t t' : VT) (w : World) (S : Nat → Prop) (hin : VT.In w S t) (hin' : VT.In w S t') (hS : ∀ b, S b → b < w.heap.size) :
    Calls Try.prog 4 #[t.val, t'.val] w fun e w' => e = .returned (.bool true) ∧ Below w.heap.size w w' := by
  have HI : Hid (VT.In w S t ∧ VT.In w S t' ∧ ∀ b, S b → b < w.heap.size) := ⟨hin, hin', hS⟩
  obtain ⟨k, i, s, n, p, c, f, ht⟩ := hin.mk_
  obtain ⟨k2, i2, s2, n2, p2, c2, f2, ht2⟩ := hin'.mk_
  clear hin hin' hS
  simp only [VT.val, ht, ht2, VT.kind_mk, VT.int_mk, VT.text_mk, VT.p_mk, VT.n_mk, VT.c_mk]
  go_enter Try.func4, Try.ntmps4
  go_wp2_with fail
  have hW0 : Below w.heap.size w (((w.alloc (.cells #[.int .i64 k, .int .i64 i, .string s, .slice p n c] 24)).alloc (.cells #[.int .i64 k2, .int .i64 i2, .string s2, .slice p2 n2 c2] 24)).alloc (.cells #[.int .i64 k, .int .i64 i, .string s, .slice p n c, .int .i64 k2, .int .i64 i2, .string s2, .slice p2 n2 c2] 24)) := (((Below.refl _ _).alloc (Nat.le_refl _) _).alloc (by simp) _).alloc (by simp; omega) _
  have hA0 : Box (((w.alloc (.cells #[.int .i64 k, .int .i64 i, .string s, .slice p n c] 24)).alloc (.cells #[.int .i64 k2, .int .i64 i2, .string s2, .slice p2 n2 c2] 24)).alloc (.cells #[.int .i64 k, .int .i64 i, .string s, .slice p n c, .int .i64 k2, .int .i64 i2, .string s2, .slice p2 n2 c2] 24)) w.heap.size #[.int .i64 k, .int .i64 i, .string s, .slice p n c] 24 := ((Box.new w _ 24).below ((Below.refl _ _).alloc (Nat.le_refl _) _)).below ((Below.refl _ _).alloc (Nat.le_refl _) _)
  have hB0 : Box (((w.alloc (.cells #[.int .i64 k, .int .i64 i, .string s, .slice p n c] 24)).alloc (.cells #[.int .i64 k2, .int .i64 i2, .string s2, .slice p2 n2 c2] 24)).alloc (.cells #[.int .i64 k, .int .i64 i, .string s, .slice p n c, .int .i64 k2, .int .i64 i2, .string s2, .slice p2 n2 c2] 24)) (w.heap.size + 1) #[.int .i64 k2, .int .i64 i2, .string s2, .slice p2 n2 c2] 24 := by
    have h := Box.new (w.alloc (.cells #[.int .i64 k, .int .i64 i, .string s, .slice p n c] 24)) #[.int .i64 k2, .int .i64 i2, .string s2, .slice p2 n2 c2] 24
    rw [show (w.alloc (.cells #[.int .i64 k, .int .i64 i, .string s, .slice p n c] 24)).heap.size = w.heap.size + 1 by simp] at h
    exact h.below ((Below.refl _ _).alloc (Nat.le_refl _) _)
  have hC0 : Box (((w.alloc (.cells #[.int .i64 k, .int .i64 i, .string s, .slice p n c] 24)).alloc (.cells #[.int .i64 k2, .int .i64 i2, .string s2, .slice p2 n2 c2] 24)).alloc (.cells #[.int .i64 k, .int .i64 i, .string s, .slice p n c, .int .i64 k2, .int .i64 i2, .string s2, .slice p2 n2 c2] 24)) (w.heap.size + 1 + 1) #[.int .i64 k, .int .i64 i, .string s, .slice p n c, .int .i64 k2, .int .i64 i2, .string s2, .slice p2 n2 c2] 24 := by
    have h := Box.new ((w.alloc (.cells #[.int .i64 k, .int .i64 i, .string s, .slice p n c] 24)).alloc (.cells #[.int .i64 k2, .int .i64 i2, .string s2, .slice p2 n2 c2] 24)) #[.int .i64 k, .int .i64 i, .string s, .slice p n c, .int .i64 k2, .int .i64 i2, .string s2, .slice p2 n2 c2] 24
    rw [show ((w.alloc (.cells #[.int .i64 k, .int .i64 i, .string s, .slice p n c] 24)).alloc (.cells #[.int .i64 k2, .int .i64 i2, .string s2, .slice p2 n2 c2] 24)).heap.size = w.heap.size + 1 + 1 by simp] at h
    exact h
  have HSz := sizes_any (two (w.heap.size + 1 + 1) t t') (((w.alloc (.cells #[.int .i64 k, .int .i64 i, .string s, .slice p n c] 24)).alloc (.cells #[.int .i64 k2, .int .i64 i2, .string s2, .slice p2 n2 c2] 24)).alloc (.cells #[.int .i64 k, .int .i64 i, .string s, .slice p n c, .int .i64 k2, .int .i64 i2, .string s2, .slice p2 n2 c2] 24)) (fun b => b < w.heap.size + 3)
    (two_in ((HI.out.1.below hW0).mono fun b hb _ => by have := HI.out.2.2 b hb; omega) ((HI.out.2.1.below hW0).mono fun b hb _ => by have := HI.out.2.2 b hb; omega) (by rw [ht]; exact ⟨hC0.cell 0, hC0.cell 1, hC0.cell 2, hC0.cell 3⟩) (by rw [ht2]; exact ⟨hC0.cell 4, hC0.cell 5, hC0.cell 6, hC0.cell 7⟩) (by omega) (by have := hC0.lt; exact this)) (fun b hb => by simpa using hb)
  rw [two_total] at HSz
  refine HSz.mono ?_
  rintro e w1 ⟨r, rfl, hr, hb1⟩
  have hbw1 : Below w.heap.size w w1 := hW0.trans (hb1.mono hW0.size)
  have hA := hA0.below hb1
  have hB := hB0.below hb1
  have hl1 := hA.lt
  have hl2 := hB.lt
  clear HSz hA0 hB0 hC0 hb1 hW0
  cases r with
  | false =>
    go_wp2
    go_ret
    exact ⟨rfl, hbw1⟩
  | true =>
    have htot : t.total + t'.total ≤ 9998 := by have := hr rfl; omega
    clear hr
    have HIn1 : Hid (VT.In w1 S t ∧ VT.In w1 S t') := ⟨HI.out.1.kept hbw1.size fun b hb hl => hbw1.block b hl, HI.out.2.1.kept hbw1.size fun b hb hl => hbw1.block b hl⟩
    have HD : Hid (∀ W, Below w1.heap.size w1 W → Calls Try.prog 8 #[t.val] W fun e w' => ∃ u, e = .returned u.val ∧ VT.Alike t u ∧ VT.In w' (fun b => W.heap.size ≤ b) u ∧ Below W.heap.size W w') := fun W hW => deep_any t W S (HIn1.out.1.below hW) (by omega)
    have HD2 : Hid (∀ W, Below w1.heap.size w1 W → Calls Try.prog 8 #[t'.val] W fun e w' => ∃ u, e = .returned u.val ∧ VT.Alike t' u ∧ VT.In w' (fun b => W.heap.size ≤ b) u ∧ Below W.heap.size W w') := fun W hW => deep_any t' W S (HIn1.out.2.below hW) (by omega)
    simp only [VT.val, ht, VT.kind_mk, VT.int_mk, VT.text_mk, VT.p_mk, VT.n_mk, VT.c_mk] at HD
    rw [← ht] at HD
    simp only [VT.val, ht2, VT.kind_mk, VT.int_mk, VT.text_mk, VT.p_mk, VT.n_mk, VT.c_mk] at HD2
    rw [← ht2] at HD2
    have x0 := hA.cell 0
    have x1 := hA.cell 1
    have x2 := hA.cell 2
    have x3 := hA.cell 3
    have y0 := hB.cell 0
    have y1 := hB.cell 1
    have y2 := hB.cell 2
    have y3 := hB.cell 3
    simp at x0 x1 x2 x3 y0 y1 y2 y3
    go_wp2_with fail
    go_cut [5, 6] (fun s5 s6 wx => TwoCopies w1 t t' s5 s6 wx)
    case first =>
      clear HI HIn1 hA hB hbw1 htot ht ht2
      have Nw10 : w1.heap.size ≠ w.heap.size := (by omega)
      have Nw11 : w1.heap.size ≠ w.heap.size + 1 := (by omega)
      have Nw12 : w1.heap.size + 1 ≠ w.heap.size := (by omega)
      have Nw13 : w1.heap.size + 1 ≠ w.heap.size + 1 := (by omega)
      go_region_held (fun W => W.cell? ⟨w.heap.size, 0, none⟩ = some (.int .i64 k) ∧ W.cell? ⟨w.heap.size, 1, none⟩ = some (.int .i64 i) ∧ W.cell? ⟨w.heap.size, 2, none⟩ = some (.string s) ∧ W.cell? ⟨w.heap.size, 3, none⟩ = some (.slice p n c) ∧ W.cell? ⟨w.heap.size + 1, 0, none⟩ = some (.int .i64 k2) ∧ W.cell? ⟨w.heap.size + 1, 1, none⟩ = some (.int .i64 i2) ∧ W.cell? ⟨w.heap.size + 1, 2, none⟩ = some (.string s2) ∧ W.cell? ⟨w.heap.size + 1, 3, none⟩ = some (.slice p2 n2 c2)) (go_keep)
        (first | (go_at_call_of 8 (Value.slice p n c); refine (HD.out _ (by (repeat (first | refine Below.drew ?_ | refine Below.alloc ?_ ?_ _ | exact Below.refl _ _ | exact hbw2)); (all_goals first | (simp; done) | (simp; omega) | omega))).mono ?_; rintro e w2 ⟨u, rfl, hal, hiu, hb2⟩; have hbw2 : Below w1.heap.size w1 w2 := (by refine Below.trans ?_ (Below.mono hb2 ?_); ((repeat (first | refine Below.drew ?_ | refine Below.alloc ?_ ?_ _ | exact Below.refl _ _ | exact hbw2)); (all_goals first | (simp; done) | (simp; omega) | omega))); have z2 := hbw2.size; have Nw20 : w2.heap.size ≠ w.heap.size := (by omega); have Nw21 : w2.heap.size ≠ w.heap.size + 1 := (by omega); have Nw22 : w2.heap.size + 1 ≠ w.heap.size := (by omega); have Nw23 : w2.heap.size + 1 ≠ w.heap.size + 1 := (by omega); have X0w2 := (hbw2.cell (p := ⟨w.heap.size, 0, none⟩) hl1).trans x0; have X1w2 := (hbw2.cell (p := ⟨w.heap.size, 1, none⟩) hl1).trans x1; have X2w2 := (hbw2.cell (p := ⟨w.heap.size, 2, none⟩) hl1).trans x2; have X3w2 := (hbw2.cell (p := ⟨w.heap.size, 3, none⟩) hl1).trans x3; have Y0w2 := (hbw2.cell (p := ⟨w.heap.size + 1, 0, none⟩) hl2).trans y0; have Y1w2 := (hbw2.cell (p := ⟨w.heap.size + 1, 1, none⟩) hl2).trans y1; have Y2w2 := (hbw2.cell (p := ⟨w.heap.size + 1, 2, none⟩) hl2).trans y2; have Y3w2 := (hbw2.cell (p := ⟨w.heap.size + 1, 3, none⟩) hl2).trans y3; (first | (have P2 : Box w2 (w1.heap.size + 1) #[.int .i64 0, .int .i64 0, .string ⟨#[]⟩, .slice none 0 0] 24 := Box.below (box_new1 _ _ _ _) hb2; have P1 : Box w2 w1.heap.size #[.int .i64 0, .int .i64 0, .string ⟨#[]⟩, .slice none 0 0] 24 := Box.below (box_old1 _ _ _ _) hb2; have NP1 : w1.heap.size ≠ w2.heap.size := (by have := P1.lt; omega); have NP2 : w2.heap.size ≠ w1.heap.size := (by have := P1.lt; omega); have ZA : w1.heap.size + 2 ≤ w2.heap.size := (by have h := hb2.size; first | omega | (simp at h; omega)); have hu' : VT.In w2 (fun b => w1.heap.size + 2 ≤ b) u := hiu.mono (fun b hb _ => (by first | omega | (simp at hb; omega)))) | (have P1 : Box w2 w1.heap.size #[.int .i64 0, .int .i64 0, .string ⟨#[]⟩, .slice none 0 0] 24 := Box.below (box_new0 _ _ _) hb2; have NP1 : w1.heap.size ≠ w2.heap.size := (by have := P1.lt; omega); have NP2 : w2.heap.size ≠ w1.heap.size := (by have := P1.lt; omega); have ZA : w1.heap.size + 1 ≤ w2.heap.size := (by have h := hb2.size; first | omega | (simp at h; omega)); have hu' : VT.In w2 (fun b => w1.heap.size + 1 ≤ b) u := hiu.mono (fun b hb _ => (by first | omega | (simp at hb; omega)))) | (have ZA : w1.heap.size + 0 ≤ w2.heap.size := (by have h := hb2.size; first | omega | (simp at h; omega)); have hu' : VT.In w2 (fun b => w1.heap.size + 0 ≤ b) u := hiu.mono (fun b hb _ => (by first | omega | (simp at hb; omega)))))) | (go_at_call_of 8 (Value.slice p2 n2 c2); refine (HD2.out _ (by (repeat (first | refine Below.drew ?_ | refine Below.alloc ?_ ?_ _ | exact Below.refl _ _ | exact hbw2)); (all_goals first | (simp; done) | (simp; omega) | omega))).mono ?_; rintro e w3 ⟨u2, rfl, hal2, hiu2, hb3⟩; have hbw3 : Below w1.heap.size w1 w3 := (by refine Below.trans ?_ (Below.mono hb3 ?_); ((repeat (first | refine Below.drew ?_ | refine Below.alloc ?_ ?_ _ | exact Below.refl _ _ | exact hbw2)); (all_goals first | (simp; done) | (simp; omega) | omega))); have z3 := hbw3.size; have hw23 : Below w2.heap.size w2 w3 := (by refine Below.trans ?_ (Below.mono hb3 ?_); ((repeat (first | refine Below.drew ?_ | refine Below.alloc ?_ ?_ _ | exact Below.refl _ _)); (all_goals first | (simp; done) | (simp; omega) | omega))); have z23 := hw23.size; have hu3 := (hu'.mono (fun b hb hl => And.intro hb hl)).below hw23; have X0w3 := (hbw3.cell (p := ⟨w.heap.size, 0, none⟩) hl1).trans x0; have X1w3 := (hbw3.cell (p := ⟨w.heap.size, 1, none⟩) hl1).trans x1; have X2w3 := (hbw3.cell (p := ⟨w.heap.size, 2, none⟩) hl1).trans x2; have X3w3 := (hbw3.cell (p := ⟨w.heap.size, 3, none⟩) hl1).trans x3; have Y0w3 := (hbw3.cell (p := ⟨w.heap.size + 1, 0, none⟩) hl2).trans y0; have Y1w3 := (hbw3.cell (p := ⟨w.heap.size + 1, 1, none⟩) hl2).trans y1; have Y2w3 := (hbw3.cell (p := ⟨w.heap.size + 1, 2, none⟩) hl2).trans y2; have Y3w3 := (hbw3.cell (p := ⟨w.heap.size + 1, 3, none⟩) hl2).trans y3; (first | (have Q2 : Box w3 (w1.heap.size + 1) #[.int .i64 0, .int .i64 0, .string ⟨#[]⟩, .slice none 0 0] 24 := Box.below P2 hb3; have Q1 : Box w3 w1.heap.size #[.int .i64 0, .int .i64 0, .string ⟨#[]⟩, .slice none 0 0] 24 := Box.below P1 hb3; have qA0 := Q1.cell 0; have qA1 := Q1.cell 1; have qA2 := Q1.cell 2; have qA3 := Q1.cell 3; have qAf0 := Q1.frozen 0; have qAf1 := Q1.frozen 1; have qAf2 := Q1.frozen 2; have qAf3 := Q1.frozen 3; have qAl := Q1.lt; simp at qA0 qA1 qA2 qA3; have qB0 := Q2.cell 0; have qB1 := Q2.cell 1; have qB2 := Q2.cell 2; have qB3 := Q2.cell 3; have qBf0 := Q2.frozen 0; have qBf1 := Q2.frozen 1; have qBf2 := Q2.frozen 2; have qBf3 := Q2.frozen 3; have qBl := Q2.lt; simp at qB0 qB1 qB2 qB3; have hv3 : VT.In w3 (fun b => w2.heap.size + 0 ≤ b) u2 := hiu2.mono (fun b hb _ => (by first | omega | (simp at hb; omega))); have ZB : w2.heap.size + 0 ≤ w3.heap.size := (by have h := hb3.size; first | omega | (simp at h; omega))) | (have Q2 : Box w3 (w2.heap.size + 1) #[.int .i64 0, .int .i64 0, .string ⟨#[]⟩, .slice none 0 0] 24 := Box.below (box_new1' _ _ _ _) hb3; have Q1 : Box w3 w2.heap.size #[.int .i64 0, .int .i64 0, .string ⟨#[]⟩, .slice none 0 0] 24 := Box.below (box_old1' _ _ _ _) hb3; have qA0 := Q1.cell 0; have qA1 := Q1.cell 1; have qA2 := Q1.cell 2; have qA3 := Q1.cell 3; have qAf0 := Q1.frozen 0; have qAf1 := Q1.frozen 1; have qAf2 := Q1.frozen 2; have qAf3 := Q1.frozen 3; have qAl := Q1.lt; simp at qA0 qA1 qA2 qA3; have qB0 := Q2.cell 0; have qB1 := Q2.cell 1; have qB2 := Q2.cell 2; have qB3 := Q2.cell 3; have qBf0 := Q2.frozen 0; have qBf1 := Q2.frozen 1; have qBf2 := Q2.frozen 2; have qBf3 := Q2.frozen 3; have qBl := Q2.lt; simp at qB0 qB1 qB2 qB3; have hv3 : VT.In w3 (fun b => w2.heap.size + 2 ≤ b) u2 := hiu2.mono (fun b hb _ => (by first | omega | (simp at hb; omega))); have ZB : w2.heap.size + 2 ≤ w3.heap.size := (by have h := hb3.size; first | omega | (simp at h; omega))) | (have Q1 : Box w3 w1.heap.size #[.int .i64 0, .int .i64 0, .string ⟨#[]⟩, .slice none 0 0] 24 := Box.below (box_over _ P1) hb3; have Q2 : Box w3 w2.heap.size #[.int .i64 0, .int .i64 0, .string ⟨#[]⟩, .slice none 0 0] 24 := Box.below (Box.new _ _ _) hb3; have qA0 := Q1.cell 0; have qA1 := Q1.cell 1; have qA2 := Q1.cell 2; have qA3 := Q1.cell 3; have qAf0 := Q1.frozen 0; have qAf1 := Q1.frozen 1; have qAf2 := Q1.frozen 2; have qAf3 := Q1.frozen 3; have qAl := Q1.lt; simp at qA0 qA1 qA2 qA3; have qB0 := Q2.cell 0; have qB1 := Q2.cell 1; have qB2 := Q2.cell 2; have qB3 := Q2.cell 3; have qBf0 := Q2.frozen 0; have qBf1 := Q2.frozen 1; have qBf2 := Q2.frozen 2; have qBf3 := Q2.frozen 3; have qBl := Q2.lt; simp at qB0 qB1 qB2 qB3; have hv3 : VT.In w3 (fun b => w2.heap.size + 1 ≤ b) u2 := hiu2.mono (fun b hb _ => (by first | omega | (simp at hb; omega))); have ZB : w2.heap.size + 1 ≤ w3.heap.size := (by have h := hb3.size; first | omega | (simp at h; omega))) | (have Q1 : Box w3 w1.heap.size #[.int .i64 0, .int .i64 0, .string ⟨#[]⟩, .slice none 0 0] 24 := Box.below P1 hb3; have qA0 := Q1.cell 0; have qA1 := Q1.cell 1; have qA2 := Q1.cell 2; have qA3 := Q1.cell 3; have qAf0 := Q1.frozen 0; have qAf1 := Q1.frozen 1; have qAf2 := Q1.frozen 2; have qAf3 := Q1.frozen 3; have qAl := Q1.lt; simp at qA0 qA1 qA2 qA3; have hv3 : VT.In w3 (fun b => w2.heap.size + 0 ≤ b) u2 := hiu2.mono (fun b hb _ => (by first | omega | (simp at hb; omega))); have ZB : w2.heap.size + 0 ≤ w3.heap.size := (by have h := hb3.size; first | omega | (simp at h; omega))) | (have Q1 : Box w3 w2.heap.size #[.int .i64 0, .int .i64 0, .string ⟨#[]⟩, .slice none 0 0] 24 := Box.below (Box.new _ _ _) hb3; have qA0 := Q1.cell 0; have qA1 := Q1.cell 1; have qA2 := Q1.cell 2; have qA3 := Q1.cell 3; have qAf0 := Q1.frozen 0; have qAf1 := Q1.frozen 1; have qAf2 := Q1.frozen 2; have qAf3 := Q1.frozen 3; have qAl := Q1.lt; simp at qA0 qA1 qA2 qA3; have hv3 : VT.In w3 (fun b => w2.heap.size + 1 ≤ b) u2 := hiu2.mono (fun b hb _ => (by first | omega | (simp at hb; omega))); have ZB : w2.heap.size + 1 ≤ w3.heap.size := (by have h := hb3.size; first | omega | (simp at h; omega))) | (have hv3 : VT.In w3 (fun b => w2.heap.size + 0 ≤ b) u2 := hiu2.mono (fun b hb _ => (by first | omega | (simp at hb; omega))); have ZB : w2.heap.size + 0 ≤ w3.heap.size := (by have h := hb3.size; first | omega | (simp at h; omega))))))
      all_goals go_wp2_with fail
      all_goals go_meet
      · exact two_A hal hal2 hbw3 (hu3.mono fun b hb hl => by omega) (hv3.mono fun b hb hl => by omega)
      · exact two_A' hal hal2 hbw3 (hu3.mono fun b hb hl => by omega) (hv3.mono fun b hb hl => by omega)
      · exact two_B hal hal2 hbw3 Q1 rfl (by omega) (hu3.mono fun b hb hl => ⟨by omega, by omega⟩) (hv3.mono fun b hb hl => ⟨by omega, by omega⟩)
      · exact two_C hal hal2 hbw3 Q1 rfl Q2 rfl (by omega) (by omega) (by omega) (hu3.mono fun b hb hl => ⟨by omega, by omega, by omega⟩) (hv3.mono fun b hb hl => ⟨by omega, by omega, by omega⟩)
      · exact two_B' hal hal2 hbw3 Q1 rfl (by omega) (hu3.mono fun b hb hl => ⟨by omega, by omega⟩) (hv3.mono fun b hb hl => ⟨by omega, by omega⟩)
      · exact two_C hal hal2 hbw3 Q2 rfl Q1 rfl (by omega) (by omega) (by omega) (hu3.mono fun b hb hl => ⟨by omega, by omega, by omega⟩) (hv3.mono fun b hb hl => ⟨by omega, by omega, by omega⟩)
      · exact two_B hal hal2 hbw3 Q1 rfl (by omega) (hu3.mono fun b hb hl => ⟨by omega, by omega⟩) (hv3.mono fun b hb hl => ⟨by omega, by omega⟩)
      · exact two_C hal hal2 hbw3 Q1 rfl Q2 rfl (by omega) (by omega) (by omega) (hu3.mono fun b hb hl => ⟨by omega, by omega, by omega⟩) (hv3.mono fun b hb hl => ⟨by omega, by omega, by omega⟩)
      · exact two_C hal hal2 hbw3 Q1 rfl Q2 rfl (by omega) (by omega) (by omega) (hu3.mono fun b hb hl => ⟨by omega, by omega, by omega⟩) (hv3.mono fun b hb hl => ⟨by omega, by omega, by omega⟩)
      · exact two_B' hal hal2 hbw3 Q1 rfl (by omega) (hu3.mono fun b hb hl => ⟨by omega, by omega⟩) (hv3.mono fun b hb hl => ⟨by omega, by omega⟩)
      · exact two_C hal hal2 hbw3 Q2 rfl Q1 rfl (by omega) (by omega) (by omega) (hu3.mono fun b hb hl => ⟨by omega, by omega, by omega⟩) (hv3.mono fun b hb hl => ⟨by omega, by omega, by omega⟩)
      · exact two_C hal hal2 hbw3 Q2 rfl Q1 rfl (by omega) (by omega) (by omega) (hu3.mono fun b hb hl => ⟨by omega, by omega, by omega⟩) (hv3.mono fun b hb hl => ⟨by omega, by omega, by omega⟩)
    case rest =>
      obtain ⟨bc, bd, u, u2, h5, h6, hne, hbc, hbd, hBc, hBd, hal, hal2, hiu, hiu2, hbel⟩ := hcut
      subst h5 h6
      have hbwc : Below w.heap.size w wc := hbw1.trans (hbel.mono hbw1.size)
      have hAc := hA.below hbel
      have hBc' := hB.below hbel
      have zc := hbel.size
      clear HD HD2 x0 x1 x2 x3 y0 y1 y2 y3 hA hB
      have x0 := hAc.cell 0
      have x1 := hAc.cell 1
      have x2 := hAc.cell 2
      have x3 := hAc.cell 3
      have y0 := hBc'.cell 0
      have y1 := hBc'.cell 1
      have y2 := hBc'.cell 2
      have y3 := hBc'.cell 3
      simp at x0 x1 x2 x3 y0 y1 y2 y3
      have la : w.heap.size < wc.heap.size := by omega
      have lb : w.heap.size + 1 < wc.heap.size := by omega
      go_wp2_with fail
      have hRm : Rm w.heap.size (wc.alloc (.cells #[.slice none 0 0, .slice none 0 0, .slice none 0 0, .slice none 0 0, .slice none 0 0, .slice none 0 0, .slice none 0 0, .slice none 0 0, .slice none 0 0, .slice none 0 0] 37)) (newRoom wc.heap.size) := newRoom_rm wc w.heap.size (by omega)
      have hbk : Below wc.heap.size wc (wc.alloc (.cells #[.slice none 0 0, .slice none 0 0, .slice none 0 0, .slice none 0 0, .slice none 0 0, .slice none 0 0, .slice none 0 0, .slice none 0 0, .slice none 0 0, .slice none 0 0] 37)).drew := ((Below.refl _ _).alloc (Nat.le_refl _) _).drew
      have hRd : Rm w.heap.size (wc.alloc (.cells #[.slice none 0 0, .slice none 0 0, .slice none 0 0, .slice none 0 0, .slice none 0 0, .slice none 0 0, .slice none 0 0, .slice none 0 0, .slice none 0 0, .slice none 0 0] 37)).drew (newRoom wc.heap.size) := hRm.below (Below.refl _ _).drew
      have hs3 : (wc.alloc (.cells #[.slice none 0 0, .slice none 0 0, .slice none 0 0, .slice none 0 0, .slice none 0 0, .slice none 0 0, .slice none 0 0, .slice none 0 0, .slice none 0 0, .slice none 0 0] 37)).drew.heap.size = wc.heap.size + 1 := by simp
      have hnot : ∀ b, b < wc.heap.size → ¬ (newRoom wc.heap.size).hot b := fun b hb hh => by
        rcases hh with h | ⟨_, _, h⟩
        · have h2 : b = wc.heap.size := h
          omega
        · cases h
      have HV := value_any t w.heap.size (wc.alloc (.cells #[.slice none 0 0, .slice none 0 0, .slice none 0 0, .slice none 0 0, .slice none 0 0, .slice none 0 0, .slice none 0 0, .slice none 0 0, .slice none 0 0, .slice none 0 0] 37)).drew (newRoom wc.heap.size) S hRd (by rw [hs3]; omega) ((HI.out.1.kept hbwc.size fun b _ hl => hbwc.block b hl).below hbk) (fun b hb => hnot b (by have := HI.out.2.2 b hb; omega)) (fun q _ => by show 0 + 1 + t.total ≤ 100000; omega)
      have HV2 : Hid (∀ w4 x R1, Roomed w.heap.size (wc.alloc (.cells #[.slice none 0 0, .slice none 0 0, .slice none 0 0, .slice none 0 0, .slice none 0 0, .slice none 0 0, .slice none 0 0, .slice none 0 0, .slice none 0 0, .slice none 0 0] 37)).drew (newRoom wc.heap.size) t x w4 R1 → Calls Try.prog 9 #[.pointer (some ⟨wc.heap.size, 0, none⟩), t'.val] w4 fun e w' => WPost w.heap.size w4 R1 t' e w') := by
        intro w4 x R1 hx
        have hb4 : Below wc.heap.size wc w4 := hbk.trans (hx.but.below (by rw [hs3]; omega) hnot)
        have h := value_any t' w.heap.size w4 R1 S hx.rm (by have := hb4.size; omega) (((HI.out.2.1.kept hbwc.size fun b _ hl => hbwc.block b hl)).below hb4) (fun b hb hh => ?_) (fun q hq => ?_)
        · rw [show R1.rb = wc.heap.size from hx.next.rb] at h
          exact h
        · have := HI.out.2.2 b hb
          rcases hx.next.hot b hh with h1 | h1
          · exact hnot b (by omega) h1
          · rw [hs3] at h1; omega
        · have h1 := hx.cnt q hq
          have h2 : ((newRoom wc.heap.size).L q).length = 0 := rfl
          omega
      simp only [VT.val, ht, VT.kind_mk, VT.int_mk, VT.text_mk, VT.p_mk, VT.n_mk, VT.c_mk] at HV
      rw [← ht] at HV
      simp only [VT.val, ht2, VT.kind_mk, VT.int_mk, VT.text_mk, VT.p_mk, VT.n_mk, VT.c_mk] at HV2
      rw [← ht2] at HV2
      have HAd : Hid (Box (wc.alloc (.cells #[.slice none 0 0, .slice none 0 0, .slice none 0 0, .slice none 0 0, .slice none 0 0, .slice none 0 0, .slice none 0 0, .slice none 0 0, .slice none 0 0, .slice none 0 0] 37)).drew w.heap.size #[.int .i64 k, .int .i64 i, .string s, .slice p n c] 24 ∧ Box (wc.alloc (.cells #[.slice none 0 0, .slice none 0 0, .slice none 0 0, .slice none 0 0, .slice none 0 0, .slice none 0 0, .slice none 0 0, .slice none 0 0, .slice none 0 0, .slice none 0 0] 37)).drew (w.heap.size + 1) #[.int .i64 k2, .int .i64 i2, .string s2, .slice p2 n2 c2] 24) := ⟨hAc.below hbk, hBc'.below hbk⟩
      have HN : Hid (∀ b, b < wc.heap.size → ¬ (newRoom wc.heap.size).hot b) := hnot
      have HN1 : Hid (∀ w4 x R1, Roomed w.heap.size (wc.alloc (.cells #[.slice none 0 0, .slice none 0 0, .slice none 0 0, .slice none 0 0, .slice none 0 0, .slice none 0 0, .slice none 0 0, .slice none 0 0, .slice none 0 0, .slice none 0 0] 37)).drew (newRoom wc.heap.size) t x w4 R1 → ∀ b, b < wc.heap.size → ¬ R1.hot b) := by
        intro w4 x R1 hx b hb hh
        rcases hx.next.hot b hh with h1 | h1
        · exact hnot b hb h1
        · rw [hs3] at h1; omega
      have HRd : Hid (Rm w.heap.size (wc.alloc (.cells #[.slice none 0 0, .slice none 0 0, .slice none 0 0, .slice none 0 0, .slice none 0 0, .slice none 0 0, .slice none 0 0, .slice none 0 0, .slice none 0 0, .slice none 0 0] 37)).drew (newRoom wc.heap.size)) := hRd
      have HCs : Hid (Box wc bc #[.int .i64 u.kind, .int .i64 u.int, .string u.text, .slice u.p u.n u.c] 24 ∧ Box wc bd #[.int .i64 u2.kind, .int .i64 u2.int, .string u2.text, .slice u2.p u2.n u2.c] 24) := ⟨hBc, hBd⟩
      have HIu : Hid (VT.In wc (fun b => w1.heap.size ≤ b ∧ b ≠ bc ∧ b ≠ bd) u ∧ VT.In wc (fun b => w1.heap.size ≤ b ∧ b ≠ bc ∧ b ≠ bd) u2) := ⟨hiu, hiu2⟩
      have Hbk : Hid (Below wc.heap.size wc (wc.alloc (.cells #[.slice none 0 0, .slice none 0 0, .slice none 0 0, .slice none 0 0, .slice none 0 0, .slice none 0 0, .slice none 0 0, .slice none 0 0, .slice none 0 0, .slice none 0 0] 37)).drew) := hbk
      have HS3 : Hid ((wc.alloc (.cells #[.slice none 0 0, .slice none 0 0, .slice none 0 0, .slice none 0 0, .slice none 0 0, .slice none 0 0, .slice none 0 0, .slice none 0 0, .slice none 0 0, .slice none 0 0] 37)).drew.heap.size = wc.heap.size + 1) := hs3
      clear hRm hRd hnot hAc hBc' hBc hBd hiu hiu2 hbk hs3 HIn1
      go_region_with (first | (go_at_call_of 9 (Value.slice p n c); refine HV.mono ?_; intro e w4 hP; obtain ⟨x, R1, he, hx⟩ := hP; subst he; have hB4 := HAd.out.2.but hx.but (HN.out _ lb); have hA4 := HAd.out.1.but hx.but (HN.out _ la); have HX1 : Hid (Roomed w.heap.size (wc.alloc (.cells #[.slice none 0 0, .slice none 0 0, .slice none 0 0, .slice none 0 0, .slice none 0 0, .slice none 0 0, .slice none 0 0, .slice none 0 0, .slice none 0 0, .slice none 0 0] 37)).drew (newRoom wc.heap.size) t x w4 R1) := hx; have v0 := hB4.cell 0; have v1 := hB4.cell 1; have v2 := hB4.cell 2; have v3 := hB4.cell 3; simp at v0 v1 v2 v3; have HA4 : Hid (Box w4 w.heap.size #[.int .i64 k, .int .i64 i, .string s, .slice p n c] 24 ∧ Box w4 (w.heap.size + 1) #[.int .i64 k2, .int .i64 i2, .string s2, .slice p2 n2 c2] 24) := ⟨hA4, hB4⟩; clear hx hA4 hB4; simp only [VT.val]) | (go_at_call_of 9 (Value.slice p2 n2 c2); refine (HV2.out _ _ _ HX1.out).mono ?_; intro e w5 hP; obtain ⟨x', R2, he, hx'⟩ := hP; subst he; have hA5 := HA4.out.1.but hx'.but (HN1.out _ _ _ HX1.out _ la); have hB5 := HA4.out.2.but hx'.but (HN1.out _ _ _ HX1.out _ lb); have HX2 : Hid (Roomed w.heap.size w4 R1 t' x' w5 R2) := hx'; have HA5 : Hid (Box w5 w.heap.size #[.int .i64 k, .int .i64 i, .string s, .slice p n c] 24 ∧ Box w5 (w.heap.size + 1) #[.int .i64 k2, .int .i64 i2, .string s2, .slice p2 n2 c2] 24) := ⟨hA5, hB5⟩; have a0 := hA5.cell 0; have a1 := hA5.cell 1; have a2 := hA5.cell 2; have a3 := hA5.cell 3; have d0 := hB5.cell 0; have d1 := hB5.cell 1; have d2 := hB5.cell 2; have d3 := hB5.cell 3; simp at a0 a1 a2 a3 d0 d1 d2 d3; have af0 := hA5.frozen 0; have af1 := hA5.frozen 1; have af2 := hA5.frozen 2; have af3 := hA5.frozen 3; have df0 := hB5.frozen 0; have df1 := hB5.frozen 1; have df2 := hB5.frozen 2; have df3 := hB5.frozen 3; have a5l := hA5.lt; have b5l := hB5.lt; clear hx' hA5 hB5; simp only [VT.val]))
      all_goals go_wp2_with fail
      all_goals
        have hr := ready_of hl2 zc hbwc Hbk.out HS3.out hbc hbd HCs.out.1 HCs.out.2 HIu.out.1 HIu.out.2 HN.out HX1.out HX2.out HA5.out.1 rfl HA5.out.2 rfl
        unfold set4 at hr
        have hax : VT.Alike x u := (HX1.out.alike.symm hr.ix).trans hal
        have hax' : VT.Alike x' u2 := (HX2.out.alike.symm hr.ix').trans hal2
        have hpl : R2.plainV := fun q _ h2 h3 => (HX2.out.next.same q h2 h3).1.trans (HX1.out.next.same q h2 h3).1
        have hrb : R2.rb = wc.heap.size := HX2.out.next.rb.trans HX1.out.next.rb
        obtain ⟨o1, HO1⟩ : ∃ o, Hid (ordV (cleanT x) (cleanT x') = o) := ⟨ordV (cleanT x) (cleanT x'), by unfold Hid; rfl⟩
        obtain ⟨o2, HO2⟩ : ∃ o, Hid (ordV (cleanT x') (cleanT x) = o) := ⟨ordV (cleanT x') (cleanT x), by unfold Hid; rfl⟩
        have HC := compare_any x x' _ _ _ hr.ix hr.ix'
        rw [HO1.out] at HC
        unfold VT.val at HC
        clear HV HV2 HAd HN1 HRd HCs HIu Hbk HS3 HX1 HX2 HA4 HA5 x0 x1 x2 x3 y0 y1 y2 y3 v0 v1 v2 v3 a0 a1 a2 a3 d0 d1 d2 d3 af0 af1 af2 af3 df0 df1 df2 df3 HN HI
        refine HC.mono ?_
        rintro e w6 ⟨rfl, hb6⟩
        have r6 := hr.below hb6
        clear HC hr hb6
        have x0 := r6.ba.cell 0
        have x1 := r6.ba.cell 1
        have x2 := r6.ba.cell 2
        have x3 := r6.ba.cell 3
        have y0 := r6.bb.cell 0
        have y1 := r6.bb.cell 1
        have y2 := r6.bb.cell 2
        have y3 := r6.bb.cell 3
        simp at x0 x1 x2 x3 y0 y1 y2 y3
        have HC := compare_any x' x _ _ _ r6.ix' r6.ix
        rw [HO2.out] at HC
        unfold VT.val at HC
        go_wp2_with fail
        refine HC.mono ?_
        rintro e w7 ⟨rfl, hb7⟩
        have r7 := r6.below hb7
        clear HC r6 hb7 x0 x1 x2 x3 y0 y1 y2 y3
        have x0 := r7.bcx.cell 0
        have x1 := r7.bcx.cell 1
        have x2 := r7.bcx.cell 2
        have x3 := r7.bcx.cell 3
        have y0 := r7.bdx.cell 0
        have y1 := r7.bdx.cell 1
        have y2 := r7.bdx.cell 2
        have y3 := r7.bdx.cell 3
        simp at x0 x1 x2 x3 y0 y1 y2 y3
        have HC := refCompare_any u u2 _ _ _ r7.iu r7.iu2
        rw [ord_copies r7.ix r7.ix' r7.iu r7.iu2 hax hax', HO1.out] at HC
        unfold VT.val at HC
        go_wp2_with fail
        refine HC.mono ?_
        rintro e w8 ⟨rfl, hb8⟩
        have r8 := r7.below hb8
        clear HC r7 hb8 x0 x1 x2 x3 y0 y1 y2 y3
        have x0 := r8.bcx.cell 0
        have x1 := r8.bcx.cell 1
        have x2 := r8.bcx.cell 2
        have x3 := r8.bcx.cell 3
        have y0 := r8.bdx.cell 0
        have y1 := r8.bdx.cell 1
        have y2 := r8.bdx.cell 2
        have y3 := r8.bdx.cell 3
        simp at x0 x1 x2 x3 y0 y1 y2 y3
        have HC := refCompare_any u2 u _ _ _ r8.iu2 r8.iu
        rw [ord_copies r8.ix' r8.ix r8.iu2 r8.iu hax' hax, HO2.out] at HC
        unfold VT.val at HC
        go_wp2_with fail
        refine HC.mono ?_
        rintro e w9 ⟨rfl, hb9⟩
        have r9 := r8.below hb9
        clear HC r8 hb9 x0 x1 x2 x3 y0 y1 y2 y3
        have x0 := r9.ba.cell 0
        have x1 := r9.ba.cell 1
        have x2 := r9.ba.cell 2
        have x3 := r9.ba.cell 3
        have y0 := r9.bcx.cell 0
        have y1 := r9.bcx.cell 1
        have y2 := r9.bcx.cell 2
        have y3 := r9.bcx.cell 3
        simp at x0 x1 x2 x3 y0 y1 y2 y3
        have HC := same_any x u _ _ _ r9.ix r9.iu hax
        unfold VT.val at HC
        go_wp2_with fail
        refine HC.mono ?_
        rintro e w10 ⟨rfl, hb10⟩
        have r10 := r9.below hb10
        clear HC r9 hb10 x0 x1 x2 x3 y0 y1 y2 y3
        have x0 := r10.bb.cell 0
        have x1 := r10.bb.cell 1
        have x2 := r10.bb.cell 2
        have x3 := r10.bb.cell 3
        have y0 := r10.bdx.cell 0
        have y1 := r10.bdx.cell 1
        have y2 := r10.bdx.cell 2
        have y3 := r10.bdx.cell 3
        simp at x0 x1 x2 x3 y0 y1 y2 y3
        have HC := same_any x' u2 _ _ _ r10.ix' r10.iu2 hax'
        unfold VT.val at HC
        go_wp2_with fail
        refine HC.mono ?_
        rintro e w11 ⟨rfl, hb11⟩
        have r11 := r10.below hb11
        clear HC r10 hb11 x0 x1 x2 x3 y0 y1 y2 y3
        have HC := hold_any w.heap.size w11 R2 r11.rm hpl
        rw [hrb] at HC
        go_wp2_with fail
        refine HC.mono ?_
        rintro e w12 ⟨rfl, hb12⟩
        have r12 := (r11.below hb12).bel
        clear HC r11 hb12
        go_wp2
        go_ret
        exact ⟨rfl, r12⟩
end Go.Proofs.Ythahomdgpcjhcaa
