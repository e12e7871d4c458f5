import Derived.Test.YtkodlhjcoeljiaaReadyK
import Derived.Test.YtkodlhjcoeljiaaSize2
import Derived.Test.YtkodlhjcoeljiaaHoldAllK
import Derived.Test.YtkodlhjcoeljiaaSameR
import Derived.Test.YtkodlhjcoeljiaaSameS
import Derived.Test.YtkodlhjcoeljiaaChkR
import Derived.Test.YtkodlhjcoeljiaaChkRr
import Derived.Test.YtkodlhjcoeljiaaChkS
import Derived.Test.YtkodlhjcoeljiaaChkSr
import Derived.Deep.RegionHeld
import Derived.Deep.DeepCutAuto
namespace Go.Proofs.Ytkodlhjcoeljiaa
open Go.RowKit
set_option maxRecDepth 8000

theorem box_new0 (w : World) (cs : Array Value) (e : TypeId) : Box (w.alloc (.cells cs e)).drew w.heap.size cs e := Box.new w cs e
theorem box_new1' (w : World) (o : Obj) (cs : Array Value) (e : TypeId) : Box ((w.alloc o).alloc (.cells cs e)) (w.heap.size + 1) cs e := by
  have h := Box.new (w.alloc o) cs e
  rw [show (w.alloc o).heap.size = w.heap.size + 1 by simp] at h
  exact h
theorem box_old1' (w : World) (o : Obj) (cs : Array Value) (e : TypeId) : Box ((w.alloc (.cells cs e)).alloc o) w.heap.size cs e := (Box.new w cs e).below ((Below.refl _ _).alloc (Nat.le_refl _) _)
theorem box_new1 (w : World) (o : Obj) (cs : Array Value) (e : TypeId) : Box ((w.alloc o).alloc (.cells cs e)).drew (w.heap.size + 1) cs e := box_new1' w o cs e
theorem box_old1 (w : World) (o : Obj) (cs : Array Value) (e : TypeId) : Box ((w.alloc (.cells cs e)).alloc o).drew w.heap.size cs e := box_old1' w o cs e
theorem box_over {w : World} {b : Nat} {cs : Array Value} {e : TypeId} (o : Obj) (h : Box w b cs e) : Box (w.alloc o) b cs e := h.below ((Below.refl _ _).alloc (Nat.le_refl _) _)

set_option maxHeartbeats 20000000 in
theorem kept_walk (r : RT) (s : ST) (w : World) (S : Nat → Prop) (hr : RT.In w S r) (hs : ST.In w S s) (hS : ∀ b, S b → b < w.heap.size) :
    Calls Try.prog 5 #[r.val, s.val] w fun e w' => e = .returned (.bool true) ∧ Below w.heap.size w w' := by
  have HI := hid (And.intro hr (And.intro hs hS))
  clear hr hs hS
  unfold RT.val ST.val
  go_enter Try.func5, Try.ntmps5
  go_wp2_with fail
  have hW0 : Below w.heap.size w (((w.alloc (.cells (RT.box r) 47)).alloc (.cells (ST.box s) 50)).alloc (.cells (RT.box r) 47)) := (((Below.refl _ _).alloc (Nat.le_refl _) _).alloc (by simp) _).alloc (by simp; omega) _
  have hA0 : Box (((w.alloc (.cells (RT.box r) 47)).alloc (.cells (ST.box s) 50)).alloc (.cells (RT.box r) 47)) w.heap.size (RT.box r) 47 := box_over _ (box_old1' _ _ _ _)
  have hB0 : Box (((w.alloc (.cells (RT.box r) 47)).alloc (.cells (ST.box s) 50)).alloc (.cells (RT.box r) 47)) (w.heap.size + 1) (ST.box s) 50 := box_over _ (box_new1' _ _ _ _)
  have hC0 : Box (((w.alloc (.cells (RT.box r) 47)).alloc (.cells (ST.box s) 50)).alloc (.cells (RT.box r) 47)) (w.heap.size + 1 + 1) (RT.box r) 47 := by
    have h := Box.new ((w.alloc (.cells (RT.box r) 47)).alloc (.cells (ST.box s) 50)) (RT.box r) 47
    rw [show ((w.alloc (.cells (RT.box r) 47)).alloc (.cells (ST.box s) 50)).heap.size = w.heap.size + 1 + 1 by simp] at h
    exact h
  have HSz := sizesR_any r _ S (HI.out.1.kept hW0.size fun b _ hl => hW0.block b hl) (fun b hb => Nat.lt_of_lt_of_le (HI.out.2.2 b hb) hW0.size) _ hC0
  refine HSz.mono ?_
  rintro e w1 ⟨q1, rfl, hq1, hb1⟩
  have hbw1 : Below w.heap.size w w1 := hW0.trans (hb1.mono hW0.size)
  have hA1 := hA0.below hb1
  have hB1 := hB0.below hb1
  clear HSz hA0 hB0 hC0 hb1 hW0
  have hl1 := hA1.lt
  have hl2 := hB1.lt
  cases q1 with
  | false =>
    go_wp2
    go_ret
    exact ⟨rfl, hbw1⟩
  | true =>
    have htr := hq1 rfl
    clear hq1
    have y0 := hB1.cell 0
    have y1 := hB1.cell 1
    simp [ST.box] at y0 y1
    go_wp2_with fail
    have hW1 : Below w1.heap.size w1 (w1.alloc (.cells (ST.box s) 50)) := (Below.refl _ _).alloc (Nat.le_refl _) _
    have HSz := sizesS_any s _ S (HI.out.2.1.kept (Nat.le_trans hbw1.size hW1.size) fun b _ hl => (hW1.block b (Nat.lt_of_lt_of_le hl hbw1.size)).trans (hbw1.block b hl)) (fun b hb => Nat.lt_of_lt_of_le (HI.out.2.2 b hb) (Nat.le_trans hbw1.size hW1.size)) _ (Box.new w1 (ST.box s) 50)
    refine HSz.mono ?_
    rintro e wz ⟨q2, rfl, hq2, hb2⟩
    have hb3 := hW1.trans (hb2.mono hW1.size)
    have hbwz : Below w.heap.size w wz := hbw1.trans (hb3.mono hbw1.size)
    have hAz := hA1.below hb3
    have hBz := hB1.below hb3
    clear HSz hA1 hB1 hb2 hb3 hW1 hbw1 y0 y1 hl1 hl2
    have hl1 := hAz.lt
    have hl2 := hBz.lt
    cases q2 with
    | false =>
      go_wp2
      go_ret
      exact ⟨rfl, hbwz⟩
    | true =>
      have hts := hq2 rfl
      clear hq2
      have HIn1 := hid (And.intro (HI.out.1.kept hbwz.size fun b _ hl => hbwz.block b hl) (HI.out.2.1.kept hbwz.size fun b _ hl => hbwz.block b hl))
      have HD : Hid (∀ W, Below wz.heap.size wz W → Calls Try.prog 18 #[r.val] W fun e w' => ∃ u : RT, e = .returned u.val ∧ RT.Alike r u ∧ RT.In w' (fun b => W.heap.size ≤ b) u ∧ Below W.heap.size W w') := fun W hW => copyRecord_any r W S (HIn1.out.1.below hW) htr
      have HD2 : Hid (∀ W, Below wz.heap.size wz W → Calls Try.prog 19 #[s.val] W fun e w' => ∃ u : ST, e = .returned u.val ∧ ST.Alike s u ∧ ST.In w' (fun b => W.heap.size ≤ b) u ∧ Below W.heap.size W w') := fun W hW => copyState_any s W S (HIn1.out.2.below hW) hts
      unfold RT.val at HD
      unfold ST.val at HD2
      have x0 := hAz.cell 0
      have x1 := hAz.cell 1
      have x2 := hAz.cell 2
      have x3 := hAz.cell 3
      have x4 := hAz.cell 4
      have x5 := hAz.cell 5
      have y0 := hBz.cell 0
      have y1 := hBz.cell 1
      simp [RT.box] at x0 x1 x2 x3 x4 x5
      simp [ST.box] at y0 y1
      go_wp2_with fail
      go_cut [5, 6] (fun s5 s6 wx => TwoRS wz r s s5 s6 wx)
      case first =>
        clear HI HIn1 hAz hBz hbwz
        have Nwz0 : wz.heap.size ≠ w.heap.size := (by omega)
        have Nwz1 : wz.heap.size ≠ w.heap.size + 1 := (by omega)
        have Nwz2 : wz.heap.size + 1 ≠ w.heap.size := (by omega)
        have Nwz3 : wz.heap.size + 1 ≠ w.heap.size + 1 := (by omega)
        go_region_held (fun W => W.cell? ⟨w.heap.size, 0, none⟩ = some (.string r.key) ∧ W.cell? ⟨w.heap.size, 1, none⟩ = some (.int .i64 r.v.kind) ∧ W.cell? ⟨w.heap.size, 2, none⟩ = some (.int .i64 r.v.int) ∧ W.cell? ⟨w.heap.size, 3, none⟩ = some (.string r.v.text) ∧ W.cell? ⟨w.heap.size, 4, none⟩ = some (.slice r.v.p r.v.n r.v.c) ∧ W.cell? ⟨w.heap.size, 5, none⟩ = some (.slice r.p r.n r.c) ∧ W.cell? ⟨w.heap.size + 1, 0, none⟩ = some (.int .i64 s.num) ∧ W.cell? ⟨w.heap.size + 1, 1, none⟩ = some (.slice s.p s.n s.c)) (go_keep)
          (first | (go_at_call 18; refine (HD.out _ (by ((repeat (first | refine Below.drew ?_ | refine Below.alloc ?_ ?_ _ | exact Below.refl _ _ | exact hbw2)); (all_goals first | (simp; done) | (simp; omega) | omega)))).mono ?_; rintro e w2 ⟨u, rfl, hal, hiu, hb2⟩; have hbw2 : Below wz.heap.size wz w2 := (by refine Below.trans ?_ (Below.mono hb2 ?_); ((repeat (first | refine Below.drew ?_ | refine Below.alloc ?_ ?_ _ | exact Below.refl _ _ | exact hbw2)); (all_goals first | (simp; done) | (simp; omega) | omega))); have z2 := hbw2.size; have Nw20 : w2.heap.size ≠ w.heap.size := (by omega); have Nw21 : w2.heap.size ≠ w.heap.size + 1 := (by omega); have Nw22 : w2.heap.size + 1 ≠ w.heap.size := (by omega); have Nw23 : w2.heap.size + 1 ≠ w.heap.size + 1 := (by omega); have X0w2 := (hbw2.cell (p := ⟨w.heap.size, 0, none⟩) hl1).trans x0; have X1w2 := (hbw2.cell (p := ⟨w.heap.size, 1, none⟩) hl1).trans x1; have X2w2 := (hbw2.cell (p := ⟨w.heap.size, 2, none⟩) hl1).trans x2; have X3w2 := (hbw2.cell (p := ⟨w.heap.size, 3, none⟩) hl1).trans x3; have X4w2 := (hbw2.cell (p := ⟨w.heap.size, 4, none⟩) hl1).trans x4; have X5w2 := (hbw2.cell (p := ⟨w.heap.size, 5, none⟩) hl1).trans x5; have Y0w2 := (hbw2.cell (p := ⟨w.heap.size + 1, 0, none⟩) hl2).trans y0; have Y1w2 := (hbw2.cell (p := ⟨w.heap.size + 1, 1, none⟩) hl2).trans y1; (first | (have PR : Box w2 wz.heap.size #[.string ⟨#[]⟩, .int .i64 0, .int .i64 0, .string ⟨#[]⟩, .slice none 0 0, .slice none 0 0] 47 := Box.below (box_old1 _ _ _ _) hb2; have PS : Box w2 (wz.heap.size + 1) #[.int .i64 0, .slice none 0 0] 50 := Box.below (box_new1 _ _ _ _) hb2; have ZA : wz.heap.size + 2 ≤ w2.heap.size := (by have h := hb2.size; first | omega | (simp at h; omega)); have NP1 : wz.heap.size ≠ w2.heap.size := (by omega); have NP2 : w2.heap.size ≠ wz.heap.size := (by omega); have NP3 : wz.heap.size + 1 ≠ w2.heap.size := (by omega); have NP4 : w2.heap.size ≠ wz.heap.size + 1 := (by omega); have hu' : RT.In w2 (fun b => wz.heap.size + 2 ≤ b) u := hiu.mono (fun b hb _ => (by first | omega | (simp at hb; omega)))) | (have PS : Box w2 wz.heap.size #[.int .i64 0, .slice none 0 0] 50 := Box.below (box_old1 _ _ _ _) hb2; have PR : Box w2 (wz.heap.size + 1) #[.string ⟨#[]⟩, .int .i64 0, .int .i64 0, .string ⟨#[]⟩, .slice none 0 0, .slice none 0 0] 47 := Box.below (box_new1 _ _ _ _) hb2; have ZA : wz.heap.size + 2 ≤ w2.heap.size := (by have h := hb2.size; first | omega | (simp at h; omega)); have NP1 : wz.heap.size ≠ w2.heap.size := (by omega); have NP2 : w2.heap.size ≠ wz.heap.size := (by omega); have NP3 : wz.heap.size + 1 ≠ w2.heap.size := (by omega); have NP4 : w2.heap.size ≠ wz.heap.size + 1 := (by omega); have hu' : RT.In w2 (fun b => wz.heap.size + 2 ≤ b) u := hiu.mono (fun b hb _ => (by first | omega | (simp at hb; omega)))) | (have PR : Box w2 wz.heap.size #[.string ⟨#[]⟩, .int .i64 0, .int .i64 0, .string ⟨#[]⟩, .slice none 0 0, .slice none 0 0] 47 := Box.below (box_new0 _ _ _) hb2; have ZA : wz.heap.size + 1 ≤ w2.heap.size := (by have h := hb2.size; first | omega | (simp at h; omega)); have NP1 : wz.heap.size ≠ w2.heap.size := (by omega); have NP2 : w2.heap.size ≠ wz.heap.size := (by omega); have hu' : RT.In w2 (fun b => wz.heap.size + 1 ≤ b) u := hiu.mono (fun b hb _ => (by first | omega | (simp at hb; omega)))) | (have PS : Box w2 wz.heap.size #[.int .i64 0, .slice none 0 0] 50 := Box.below (box_new0 _ _ _) hb2; have ZA : wz.heap.size + 1 ≤ w2.heap.size := (by have h := hb2.size; first | omega | (simp at h; omega)); have NP1 : wz.heap.size ≠ w2.heap.size := (by omega); have NP2 : w2.heap.size ≠ wz.heap.size := (by omega); have hu' : RT.In w2 (fun b => wz.heap.size + 1 ≤ b) u := hiu.mono (fun b hb _ => (by first | omega | (simp at hb; omega)))) | (have hu' : RT.In w2 (fun b => wz.heap.size + 0 ≤ b) u := hiu.mono (fun b hb _ => (by first | omega | (simp at hb; omega)))))) | (go_at_call 19; refine (HD2.out _ (by ((repeat (first | refine Below.drew ?_ | refine Below.alloc ?_ ?_ _ | exact Below.refl _ _ | exact hbw2)); (all_goals first | (simp; done) | (simp; omega) | omega)))).mono ?_; rintro e w3 ⟨u2, rfl, hal2, hiu2, hb3⟩; have hbw3 : Below wz.heap.size wz w3 := (by refine Below.trans ?_ (Below.mono hb3 ?_); ((repeat (first | refine Below.drew ?_ | refine Below.alloc ?_ ?_ _ | exact Below.refl _ _ | exact hbw2)); (all_goals first | (simp; done) | (simp; omega) | omega))); have z3 := hbw3.size; have hw23 : Below w2.heap.size w2 w3 := (by refine Below.trans ?_ (Below.mono hb3 ?_); ((repeat (first | refine Below.drew ?_ | refine Below.alloc ?_ ?_ _ | exact Below.refl _ _)); (all_goals first | (simp; done) | (simp; omega) | omega))); have z23 := hw23.size; have hu3 := (hu'.mono (fun b hb hl => And.intro hb hl)).below hw23; have Nw30 : w3.heap.size ≠ w.heap.size := (by omega); have Nw31 : w3.heap.size ≠ w.heap.size + 1 := (by omega); have Nw32 : w3.heap.size + 1 ≠ w.heap.size := (by omega); have Nw33 : w3.heap.size + 1 ≠ w.heap.size + 1 := (by omega); have X0w3 := (hbw3.cell (p := ⟨w.heap.size, 0, none⟩) hl1).trans x0; have X1w3 := (hbw3.cell (p := ⟨w.heap.size, 1, none⟩) hl1).trans x1; have X2w3 := (hbw3.cell (p := ⟨w.heap.size, 2, none⟩) hl1).trans x2; have X3w3 := (hbw3.cell (p := ⟨w.heap.size, 3, none⟩) hl1).trans x3; have X4w3 := (hbw3.cell (p := ⟨w.heap.size, 4, none⟩) hl1).trans x4; have X5w3 := (hbw3.cell (p := ⟨w.heap.size, 5, none⟩) hl1).trans x5; have Y0w3 := (hbw3.cell (p := ⟨w.heap.size + 1, 0, none⟩) hl2).trans y0; have Y1w3 := (hbw3.cell (p := ⟨w.heap.size + 1, 1, none⟩) hl2).trans y1; (first | (have QR := Box.below PR hb3; have QS := Box.below PS hb3; have qA0 := QR.cell 0; have qA1 := QR.cell 1; have qA2 := QR.cell 2; have qA3 := QR.cell 3; have qA4 := QR.cell 4; have qA5 := QR.cell 5; have qAf0 := QR.frozen 0; have qAf1 := QR.frozen 1; have qAf2 := QR.frozen 2; have qAf3 := QR.frozen 3; have qAf4 := QR.frozen 4; have qAf5 := QR.frozen 5; have qAl := QR.lt; simp at qA0 qA1 qA2 qA3 qA4 qA5; have qB0 := QS.cell 0; have qB1 := QS.cell 1; have qBf0 := QS.frozen 0; have qBf1 := QS.frozen 1; have qBl := QS.lt; simp at qB0 qB1; have hv3 : ST.In w3 (fun b => w2.heap.size + 0 ≤ b) u2 := hiu2.mono (fun b hb _ => (by first | omega | (simp at hb; omega))); have ZB : w2.heap.size + 0 ≤ w3.heap.size := (by have h := hb3.size; first | omega | (simp at h; omega))) | (have QR := Box.below (box_over _ PR) hb3; have QS : Box w3 w2.heap.size #[.int .i64 0, .slice none 0 0] 50 := Box.below (Box.new _ _ _) hb3; have qA0 := QR.cell 0; have qA1 := QR.cell 1; have qA2 := QR.cell 2; have qA3 := QR.cell 3; have qA4 := QR.cell 4; have qA5 := QR.cell 5; have qAf0 := QR.frozen 0; have qAf1 := QR.frozen 1; have qAf2 := QR.frozen 2; have qAf3 := QR.frozen 3; have qAf4 := QR.frozen 4; have qAf5 := QR.frozen 5; have qAl := QR.lt; simp at qA0 qA1 qA2 qA3 qA4 qA5; have qB0 := QS.cell 0; have qB1 := QS.cell 1; have qBf0 := QS.frozen 0; have qBf1 := QS.frozen 1; have qBl := QS.lt; simp at qB0 qB1; have hv3 : ST.In w3 (fun b => w2.heap.size + 1 ≤ b) u2 := hiu2.mono (fun b hb _ => (by first | omega | (simp at hb; omega))); have ZB : w2.heap.size + 1 ≤ w3.heap.size := (by have h := hb3.size; first | omega | (simp at h; omega))) | (have QR := Box.below PR hb3; have qA0 := QR.cell 0; have qA1 := QR.cell 1; have qA2 := QR.cell 2; have qA3 := QR.cell 3; have qA4 := QR.cell 4; have qA5 := QR.cell 5; have qAf0 := QR.frozen 0; have qAf1 := QR.frozen 1; have qAf2 := QR.frozen 2; have qAf3 := QR.frozen 3; have qAf4 := QR.frozen 4; have qAf5 := QR.frozen 5; have qAl := QR.lt; simp at qA0 qA1 qA2 qA3 qA4 qA5; have hv3 : ST.In w3 (fun b => w2.heap.size + 0 ≤ b) u2 := hiu2.mono (fun b hb _ => (by first | omega | (simp at hb; omega))); have ZB : w2.heap.size + 0 ≤ w3.heap.size := (by have h := hb3.size; first | omega | (simp at h; omega))) | (have QS := Box.below (box_over _ PS) hb3; have QR : Box w3 w2.heap.size #[.string ⟨#[]⟩, .int .i64 0, .int .i64 0, .string ⟨#[]⟩, .slice none 0 0, .slice none 0 0] 47 := Box.below (Box.new _ _ _) hb3; have qA0 := QR.cell 0; have qA1 := QR.cell 1; have qA2 := QR.cell 2; have qA3 := QR.cell 3; have qA4 := QR.cell 4; have qA5 := QR.cell 5; have qAf0 := QR.frozen 0; have qAf1 := QR.frozen 1; have qAf2 := QR.frozen 2; have qAf3 := QR.frozen 3; have qAf4 := QR.frozen 4; have qAf5 := QR.frozen 5; have qAl := QR.lt; simp at qA0 qA1 qA2 qA3 qA4 qA5; have qB0 := QS.cell 0; have qB1 := QS.cell 1; have qBf0 := QS.frozen 0; have qBf1 := QS.frozen 1; have qBl := QS.lt; simp at qB0 qB1; have hv3 : ST.In w3 (fun b => w2.heap.size + 1 ≤ b) u2 := hiu2.mono (fun b hb _ => (by first | omega | (simp at hb; omega))); have ZB : w2.heap.size + 1 ≤ w3.heap.size := (by have h := hb3.size; first | omega | (simp at h; omega))) | (have QS := Box.below PS hb3; have qB0 := QS.cell 0; have qB1 := QS.cell 1; have qBf0 := QS.frozen 0; have qBf1 := QS.frozen 1; have qBl := QS.lt; simp at qB0 qB1; have hv3 : ST.In w3 (fun b => w2.heap.size + 0 ≤ b) u2 := hiu2.mono (fun b hb _ => (by first | omega | (simp at hb; omega))); have ZB : w2.heap.size + 0 ≤ w3.heap.size := (by have h := hb3.size; first | omega | (simp at h; omega))) | (have QR : Box w3 w2.heap.size #[.string ⟨#[]⟩, .int .i64 0, .int .i64 0, .string ⟨#[]⟩, .slice none 0 0, .slice none 0 0] 47 := Box.below (box_old1' _ _ _ _) hb3; have QS : Box w3 (w2.heap.size + 1) #[.int .i64 0, .slice none 0 0] 50 := Box.below (box_new1' _ _ _ _) hb3; have qA0 := QR.cell 0; have qA1 := QR.cell 1; have qA2 := QR.cell 2; have qA3 := QR.cell 3; have qA4 := QR.cell 4; have qA5 := QR.cell 5; have qAf0 := QR.frozen 0; have qAf1 := QR.frozen 1; have qAf2 := QR.frozen 2; have qAf3 := QR.frozen 3; have qAf4 := QR.frozen 4; have qAf5 := QR.frozen 5; have qAl := QR.lt; simp at qA0 qA1 qA2 qA3 qA4 qA5; have qB0 := QS.cell 0; have qB1 := QS.cell 1; have qBf0 := QS.frozen 0; have qBf1 := QS.frozen 1; have qBl := QS.lt; simp at qB0 qB1; have hv3 : ST.In w3 (fun b => w2.heap.size + 2 ≤ b) u2 := hiu2.mono (fun b hb _ => (by first | omega | (simp at hb; omega))); have ZB : w2.heap.size + 2 ≤ w3.heap.size := (by have h := hb3.size; first | omega | (simp at h; omega))) | (have QS : Box w3 w2.heap.size #[.int .i64 0, .slice none 0 0] 50 := Box.below (box_old1' _ _ _ _) hb3; have QR : Box w3 (w2.heap.size + 1) #[.string ⟨#[]⟩, .int .i64 0, .int .i64 0, .string ⟨#[]⟩, .slice none 0 0, .slice none 0 0] 47 := Box.below (box_new1' _ _ _ _) hb3; have qA0 := QR.cell 0; have qA1 := QR.cell 1; have qA2 := QR.cell 2; have qA3 := QR.cell 3; have qA4 := QR.cell 4; have qA5 := QR.cell 5; have qAf0 := QR.frozen 0; have qAf1 := QR.frozen 1; have qAf2 := QR.frozen 2; have qAf3 := QR.frozen 3; have qAf4 := QR.frozen 4; have qAf5 := QR.frozen 5; have qAl := QR.lt; simp at qA0 qA1 qA2 qA3 qA4 qA5; have qB0 := QS.cell 0; have qB1 := QS.cell 1; have qBf0 := QS.frozen 0; have qBf1 := QS.frozen 1; have qBl := QS.lt; simp at qB0 qB1; have hv3 : ST.In w3 (fun b => w2.heap.size + 2 ≤ b) u2 := hiu2.mono (fun b hb _ => (by first | omega | (simp at hb; omega))); have ZB : w2.heap.size + 2 ≤ w3.heap.size := (by have h := hb3.size; first | omega | (simp at h; omega))) | (have QR : Box w3 w2.heap.size #[.string ⟨#[]⟩, .int .i64 0, .int .i64 0, .string ⟨#[]⟩, .slice none 0 0, .slice none 0 0] 47 := Box.below (Box.new _ _ _) hb3; have qA0 := QR.cell 0; have qA1 := QR.cell 1; have qA2 := QR.cell 2; have qA3 := QR.cell 3; have qA4 := QR.cell 4; have qA5 := QR.cell 5; have qAf0 := QR.frozen 0; have qAf1 := QR.frozen 1; have qAf2 := QR.frozen 2; have qAf3 := QR.frozen 3; have qAf4 := QR.frozen 4; have qAf5 := QR.frozen 5; have qAl := QR.lt; simp at qA0 qA1 qA2 qA3 qA4 qA5; have hv3 : ST.In w3 (fun b => w2.heap.size + 1 ≤ b) u2 := hiu2.mono (fun b hb _ => (by first | omega | (simp at hb; omega))); have ZB : w2.heap.size + 1 ≤ w3.heap.size := (by have h := hb3.size; first | omega | (simp at h; omega))) | (have QS : Box w3 w2.heap.size #[.int .i64 0, .slice none 0 0] 50 := Box.below (Box.new _ _ _) hb3; have qB0 := QS.cell 0; have qB1 := QS.cell 1; have qBf0 := QS.frozen 0; have qBf1 := QS.frozen 1; have qBl := QS.lt; simp at qB0 qB1; have hv3 : ST.In w3 (fun b => w2.heap.size + 1 ≤ b) u2 := hiu2.mono (fun b hb _ => (by first | omega | (simp at hb; omega))); have ZB : w2.heap.size + 1 ≤ w3.heap.size := (by have h := hb3.size; first | omega | (simp at h; omega))) | (have hv3 : ST.In w3 (fun b => w2.heap.size + 0 ≤ b) u2 := hiu2.mono (fun b hb _ => (by first | omega | (simp at hb; omega))); have ZB : w2.heap.size + 0 ≤ w3.heap.size := (by have h := hb3.size; first | omega | (simp at h; omega))))))
        all_goals go_wp2_with fail
        all_goals go_meet
        · exact rs_A hal hal2 hbw3 (hu3.mono fun b hb hl => by omega) (hv3.mono fun b hb hl => by omega)
        · exact rs_A' hal hal2 hbw3 (hu3.mono fun b hb hl => by omega) (hv3.mono fun b hb hl => by omega)
        · exact rs_B hal hal2 hbw3 QR (by omega) (hu3.mono fun b hb hl => ⟨by omega, by omega⟩) (hv3.mono fun b hb hl => ⟨by omega, by omega⟩)
        · exact rs_C hal hal2 hbw3 QR QS (by omega) (by omega) (by omega) (hu3.mono fun b hb hl => ⟨by omega, by omega, by omega⟩) (hv3.mono fun b hb hl => ⟨by omega, by omega, by omega⟩)
        · exact rs_B' hal hal2 hbw3 QS (by omega) (hu3.mono fun b hb hl => ⟨by omega, by omega⟩) (hv3.mono fun b hb hl => ⟨by omega, by omega⟩)
        · exact rs_C hal hal2 hbw3 QR QS (by omega) (by omega) (by omega) (hu3.mono fun b hb hl => ⟨by omega, by omega, by omega⟩) (hv3.mono fun b hb hl => ⟨by omega, by omega, by omega⟩)
        · exact rs_B hal hal2 hbw3 QR (by omega) (hu3.mono fun b hb hl => ⟨by omega, by omega⟩) (hv3.mono fun b hb hl => ⟨by omega, by omega⟩)
        · exact rs_C hal hal2 hbw3 QR QS (by omega) (by omega) (by omega) (hu3.mono fun b hb hl => ⟨by omega, by omega, by omega⟩) (hv3.mono fun b hb hl => ⟨by omega, by omega, by omega⟩)
        · exact rs_C hal hal2 hbw3 QR QS (by omega) (by omega) (by omega) (hu3.mono fun b hb hl => ⟨by omega, by omega, by omega⟩) (hv3.mono fun b hb hl => ⟨by omega, by omega, by omega⟩)
        · exact rs_B' hal hal2 hbw3 QS (by omega) (hu3.mono fun b hb hl => ⟨by omega, by omega⟩) (hv3.mono fun b hb hl => ⟨by omega, by omega⟩)
        · exact rs_C hal hal2 hbw3 QR QS (by omega) (by omega) (by omega) (hu3.mono fun b hb hl => ⟨by omega, by omega, by omega⟩) (hv3.mono fun b hb hl => ⟨by omega, by omega, by omega⟩)
        · exact rs_C hal hal2 hbw3 QR QS (by omega) (by omega) (by omega) (hu3.mono fun b hb hl => ⟨by omega, by omega, by omega⟩) (hv3.mono fun b hb hl => ⟨by omega, by omega, by omega⟩)
      case rest =>
        obtain ⟨bc, bd, u, u2, h5, h6, hne, hbc, hbd, hBc, hBd, hal, hal2, hiu, hiu2, hbel⟩ := hcut
        subst h5 h6
        have hbwc : Below w.heap.size w wc := hbwz.trans (hbel.mono hbwz.size)
        have hAc := hAz.below hbel
        have hBc' := hBz.below hbel
        have zc := hbel.size
        clear HD HD2 x0 x1 x2 x3 x4 x5 y0 y1 hAz hBz
        have la : w.heap.size < wc.heap.size := by omega
        have lb : w.heap.size + 1 < wc.heap.size := by omega
        have hRm : Rm w.heap.size (wc.alloc (.cells roomBox 37)).drew (newRoomK wc.heap.size) := (newRoomK_rm wc w.heap.size (by omega)).below (Below.refl _ _).drew
        have hbk : Below wc.heap.size wc (wc.alloc (.cells roomBox 37)).drew := ((Below.refl _ _).alloc (Nat.le_refl _) _).drew
        have hs3 : (wc.alloc (.cells roomBox 37)).drew.heap.size = wc.heap.size + 1 := by simp
        have HR1 := hid (HI.out.1.kept hbwc.size fun b _ hl => hbwc.block b hl)
        have HR2 := hid (HI.out.2.1.kept hbwc.size fun b _ hl => hbwc.block b hl)
        have HSl := hid HI.out.2.2
        have HV : Hid (Calls Try.prog 20 #[.pointer (some ⟨wc.heap.size, 0, none⟩), r.val] (wc.alloc (.cells roomBox 37)).drew fun e w' => RPost w.heap.size (wc.alloc (.cells roomBox 37)).drew (newRoomK wc.heap.size) r e w') :=
          record_any r w.heap.size (wc.alloc (.cells roomBox 37)).drew (newRoomK wc.heap.size) S hRm (by rw [hs3]; omega) (HR1.out.below hbk) (fun b hb => newRoomK_hot (by have := HSl.out b hb; omega)) (fun q _ => by show 0 + 2 + r.v.total ≤ 100000; omega) (by omega)
        have HN1 : Hid (∀ w4 x R1, RoomedR w.heap.size (wc.alloc (.cells roomBox 37)).drew (newRoomK wc.heap.size) r x w4 R1 → ∀ b, b < wc.heap.size → ¬ R1.hot b) := by
          intro w4 x R1 hx b hb hh
          rcases hx.nx.hot b hh with h1 | h1
          · exact newRoomK_hot hb h1
          · rw [hs3] at h1; omega
        have HV2 : Hid (∀ w4 x R1, RoomedR w.heap.size (wc.alloc (.cells roomBox 37)).drew (newRoomK wc.heap.size) r x w4 R1 → Calls Try.prog 21 #[.pointer (some ⟨wc.heap.size, 0, none⟩), s.val] w4 fun e w' => SPost w.heap.size w4 R1 s e w') := by
          intro w4 x R1 hx
          have hb4 : Below wc.heap.size wc w4 := hbk.trans (hx.but.below (by rw [hs3]; omega) (fun b hb => newRoomK_hot hb))
          have h := state_any s w.heap.size w4 R1 S hx.rm (by have := hb4.size; omega) (HR2.out.below hb4) (fun b hb => HN1.out w4 x R1 hx b (by have := HSl.out b hb; omega)) (fun q hq => ?_) (by have := hts; unfold ST.total at this; omega)
          · rw [show R1.rb = wc.heap.size from hx.nx.rb] at h
            exact h
          · have h1 := hx.cnt q hq
            have h2 : ((newRoomK wc.heap.size).L q).length = 0 := rfl
            omega
        have HAd := hid (And.intro (hAc.below hbk) (hBc'.below hbk))
        have HCs := hid (And.intro hBc hBd)
        have HIu := hid (And.intro hiu hiu2)
        have HAl := hid (And.intro hal hal2)
        have Hbk := hid hbk
        have HS3 := hid hs3
        have Hbwc := hid hbwc
        unfold RT.val at HV
        unfold ST.val at HV2
        have hA1 := hAc
        have hB1 := hBc'
        have x0 := hA1.cell 0
        have x1 := hA1.cell 1
        have x2 := hA1.cell 2
        have x3 := hA1.cell 3
        have x4 := hA1.cell 4
        have x5 := hA1.cell 5
        have y0 := hB1.cell 0
        have y1 := hB1.cell 1
        simp [RT.box] at x0 x1 x2 x3 x4 x5
        simp [ST.box] at y0 y1
        clear hRm hAc hBc' hBc hBd hiu hiu2 hbk hs3 HIn1 hA1 hB1 hal hal2 HR1 HR2 hbwz hbel hbwc
        go_wp2_with fail
        go_region_with (first
          | (go_at_call 20; (refine HV.out.mono ?_; intro e w4 hP; obtain ⟨x, R1, he, hx⟩ := hP; subst he; have hA4 := HAd.out.1.but hx.but (newRoomK_hot la); have hB4 := HAd.out.2.but hx.but (newRoomK_hot lb); have v0 := hB4.cell 0; have v1 := hB4.cell 1; simp [ST.box] at v0 v1; have HX1 := hid hx; have HA4 := hid (And.intro hA4 hB4); clear hx hA4 hB4; simp only [RT.val]))
          | (go_at_call 21; (refine (HV2.out _ _ _ HX1.out).mono ?_; intro e w5 hP; obtain ⟨x', R2, he, hx'⟩ := hP; subst he; have hA5 := HA4.out.1.but hx'.but (HN1.out _ _ _ HX1.out _ la); have hB5 := HA4.out.2.but hx'.but (HN1.out _ _ _ HX1.out _ lb); have HX2 := hid hx'; have HA5 := hid (And.intro hA5 hB5); have a0 := hA5.cell 0; have a1 := hA5.cell 1; have a2 := hA5.cell 2; have a3 := hA5.cell 3; have a4 := hA5.cell 4; have a5 := hA5.cell 5; have d0 := hB5.cell 0; have d1 := hB5.cell 1; simp [RT.box] at a0 a1 a2 a3 a4 a5; simp [ST.box] at d0 d1; have af0 := hA5.frozen 0; have af1 := hA5.frozen 1; have af2 := hA5.frozen 2; have af3 := hA5.frozen 3; have af4 := hA5.frozen 4; have af5 := hA5.frozen 5; have df0 := hB5.frozen 0; have df1 := hB5.frozen 1; have a5l := hA5.lt; have b5l := hB5.lt; clear hx' hA5 hB5; simp only [ST.val])))
        all_goals go_wp2_with fail
        all_goals
          have hr := readyK_of hl2 zc Hbwc.out Hbk.out HS3.out hbc hbd HCs.out.1 HCs.out.2 HIu.out.1 HIu.out.2 HX1.out HX2.out HA5.out.1 HA5.out.2
          unfold setS setR at hr
          have hax : RT.Alike x u := (HX1.out.alike.symm hr.ix).trans HAl.out.1
          have hax' : ST.Alike x' u2 := (HX2.out.alike.symm hr.ix').trans HAl.out.2
          have hpl : R2.plainK := HX2.out.nx.plain (HX1.out.nx.plain (fun _ _ _ _ _ _ => rfl))
          have hrb : R2.rb = wc.heap.size := HX2.out.nx.rb.trans HX1.out.nx.rb
          have HAx := hid (And.intro hax (And.intro hax' hpl))
          obtain ⟨o1, HO1⟩ : ∃ o, Hid (chkRec x = o) := ⟨chkRec x, by unfold Hid; rfl⟩
          obtain ⟨o2, HO2⟩ : ∃ o, Hid (chkState x' = o) := ⟨chkState x', by unfold Hid; rfl⟩
          have HC := checkRecord_any x _ _ hr.ix (fun b hb => hb)
          rw [HO1.out] at HC
          unfold RT.val at HC
          clear HV HV2 HAd HN1 HCs HIu Hbk HS3 Hbwc HX1 HX2 HA4 HA5 HAl x0 x1 x2 x3 x4 x5 y0 y1 v0 v1 a0 a1 a2 a3 a4 a5 d0 d1 af0 af1 af2 af3 af4 af5 df0 df1 a5l b5l HI HSl hax hax' hpl
          refine HC.mono ?_
          rintro e w6 ⟨rfl, hb6⟩
          have r6 := hr.below hb6
          clear HC hr hb6
          have y0 := r6.bb.cell 0
          have y1 := r6.bb.cell 1
          simp [ST.box] at y0 y1
          have HC := checkState_any x' _ _ r6.ix' (fun b hb => hb)
          rw [HO2.out] at HC
          unfold ST.val at HC
          have H6 := hid r6
          clear r6
          go_wp2_with fail
          refine HC.mono ?_
          rintro e w7 ⟨rfl, hb7⟩
          have r7 := H6.out.below hb7
          clear HC H6 hb7 y0 y1
          have x0 := r7.bcx.cell 0
          have x1 := r7.bcx.cell 1
          have x2 := r7.bcx.cell 2
          have x3 := r7.bcx.cell 3
          have x4 := r7.bcx.cell 4
          have x5 := r7.bcx.cell 5
          simp [RT.box] at x0 x1 x2 x3 x4 x5
          have HC := refCheckRecord_any u _ _ r7.iu
          rw [← chkRec_alike HAx.out.1, HO1.out] at HC
          unfold RT.val at HC
          have H7 := hid r7
          clear r7
          go_wp2_with fail
          refine HC.mono ?_
          rintro e w8 ⟨rfl, hb8⟩
          have r8 := H7.out.below hb8
          clear HC H7 hb8 x0 x1 x2 x3 x4 x5
          have y0 := r8.bdx.cell 0
          have y1 := r8.bdx.cell 1
          simp [ST.box] at y0 y1
          have HC := refCheckState_any u2 _ _ r8.iu2
          rw [← chkState_alike HAx.out.2.1, HO2.out] at HC
          unfold ST.val at HC
          have H8 := hid r8
          clear r8
          go_wp2_with fail
          refine HC.mono ?_
          rintro e w9 ⟨rfl, hb9⟩
          have r9 := H8.out.below hb9
          clear HC H8 hb9 y0 y1
          have x0 := r9.ba.cell 0
          have x1 := r9.ba.cell 1
          have x2 := r9.ba.cell 2
          have x3 := r9.ba.cell 3
          have x4 := r9.ba.cell 4
          have x5 := r9.ba.cell 5
          have z0 := r9.bcx.cell 0
          have z1 := r9.bcx.cell 1
          have z2 := r9.bcx.cell 2
          have z3 := r9.bcx.cell 3
          have z4 := r9.bcx.cell 4
          have z5 := r9.bcx.cell 5
          simp [RT.box] at x0 x1 x2 x3 x4 x5 z0 z1 z2 z3 z4 z5
          have HC := sameRecord_any x u _ _ _ r9.ix r9.iu HAx.out.1
          unfold RT.val at HC
          have H9 := hid r9
          clear r9
          go_wp2_with fail
          refine HC.mono ?_
          rintro e wa ⟨rfl, hba⟩
          have ra := H9.out.below hba
          clear HC H9 hba x0 x1 x2 x3 x4 x5 z0 z1 z2 z3 z4 z5
          have y0 := ra.bb.cell 0
          have y1 := ra.bb.cell 1
          have z0 := ra.bdx.cell 0
          have z1 := ra.bdx.cell 1
          simp [ST.box] at y0 y1 z0 z1
          have HC := sameState_any x' u2 _ _ _ ra.ix' ra.iu2 HAx.out.2.1
          unfold ST.val at HC
          have Ha := hid ra
          clear ra
          go_wp2_with fail
          refine HC.mono ?_
          rintro e wb ⟨rfl, hbb⟩
          have rb := Ha.out.below hbb
          clear HC Ha hbb y0 y1 z0 z1
          have HC := holdK_any w.heap.size wb R2 rb.rm HAx.out.2.2
          rw [hrb] at HC
          have Hb := hid rb
          clear rb
          go_wp2_with fail
          refine HC.mono ?_
          rintro e wd ⟨rfl, hbd'⟩
          have HF := hid (Hb.out.bel.trans (hbd'.mono Hb.out.bel.size))
          clear HC Hb hbd'
          go_wp2
          go_ret
          exact ⟨rfl, HF.out⟩
end Go.Proofs.Ytkodlhjcoeljiaa
