import Derived.Test.YtehpdhhlggegdaaDoorPack7
import Derived.Test.YtehpdhhlggegdaaDoorPack8
import Derived.Test.YtehpdhhlggegdaaDoorPack10
import Derived.Test.YtehpdhhlggegdaaDoorPack12
import Derived.Test.YtehpdhhlggegdaaDoorPack13
import Derived.Deep.RegionHeld
import Derived.Deep.DeepCutAuto
namespace Go.Proofs.YtehpdhhlggegdaaDoor
open Go.RowKit
set_option maxRecDepth 8000
theorem box_new0 (w : World) (cs : Array Value) (e : TypeId) : Box (w.alloc (.cells cs e)).drew w.heap.size cs e := Box.new w cs e
theorem box_new1' (w : World) (o : Obj) (cs : Array Value) (e : TypeId) : Box ((w.alloc o).alloc (.cells cs e)) (w.heap.size + 1) cs e := by
  have h := Box.new (w.alloc o) cs e
  rw [show (w.alloc o).heap.size = w.heap.size + 1 by simp] at h
  exact h
theorem box_old1' (w : World) (o : Obj) (cs : Array Value) (e : TypeId) : Box ((w.alloc (.cells cs e)).alloc o) w.heap.size cs e := (Box.new w cs e).below ((Below.refl _ _).alloc (Nat.le_refl _) _)
theorem box_new1 (w : World) (o : Obj) (cs : Array Value) (e : TypeId) : Box ((w.alloc o).alloc (.cells cs e)).drew (w.heap.size + 1) cs e := box_new1' w o cs e
theorem box_old1 (w : World) (o : Obj) (cs : Array Value) (e : TypeId) : Box ((w.alloc (.cells cs e)).alloc o).drew w.heap.size cs e := box_old1' w o cs e
theorem box_over {w : World} {b : Nat} {cs : Array Value} {e : TypeId} (o : Obj) (h : Box w b cs e) : Box (w.alloc o) b cs e := h.below ((Below.refl _ _).alloc (Nat.le_refl _) _)

theorem encB_some (t : VT) : 0 < (encB t).length := by
  cases t with
  | nil => simp [encB]
  | mk => rw [encB_eq]; simp
/-- what is known of two cleaned values -/
structure PairOk (X Y : VT) : Prop where
  lo : -1 ≤ ordV X Y
  hi : ordV X Y ≤ 1
  anti : ordV Y X = - ordV X Y
  yes : VT.Alike X Y → ordV X Y = 0 ∧ strOf (prB X) = strOf (prB Y) ∧ strOf (encB X) = strOf (encB Y)
  no : ¬ VT.Alike X Y → ordV X Y ≠ 0 ∧ ((strOf (prB X)).toList == (strOf (prB Y)).toList) = false ∧ begB (encB X) (encB Y) = false ∧ begB (encB Y) (encB X) = false ∧ (X.kind ≠ Y.kind → (decide (X.kind < Y.kind) == decide (ordV X Y < 0)) = true) ∧ (X.kind = Y.kind → X.kind = 1 → (decide (X.int < Y.int) == decide (ordV X Y < 0)) = true)
set_option maxHeartbeats 4000000 in
theorem pair_any (t t' : VT) (w : World) (S : Nat → Prop) (hin : VT.In w S t) (hin2 : VT.In w S t') (hS : ∀ b, S b → b < w.heap.size) (htt : t.total ≤ 10000) (htt2 : t'.total ≤ 10000) (hT : Tabs w.heap.size w) (hok : PairOk (cleanT t) (cleanT t')) :
    Calls Tryd.prog 6 #[t.val, t'.val] w fun e w' => e = .returned (.bool true) ∧ Below w.heap.size w w' := by
  have HI : Hid (VT.In w S t ∧ VT.In w S t' ∧ ∀ b, S b → b < w.heap.size) := ⟨hin, hin2, hS⟩
  have HT := hid hT
  have HOk := hid hok
  obtain ⟨k, i, s, n, p, c, f, ht⟩ := hin.mk_
  obtain ⟨k2, i2, s2, n2, p2, c2, f2, ht2⟩ := hin2.mk_
  clear hin hin2 hS hT hok
  simp only [VT.val, ht, ht2, VT.kind_mk, VT.int_mk, VT.text_mk, VT.p_mk, VT.n_mk, VT.c_mk]
  go_enter Tryd.func6, Tryd.ntmps6
  go_wp2_with fail
  have hW0 : Below w.heap.size w ((w.alloc (.cells #[.int .i64 k, .int .i64 i, .string s, .slice p n c] 24)).alloc (.cells #[.int .i64 k2, .int .i64 i2, .string s2, .slice p2 n2 c2] 24)) := ((Below.refl _ _).alloc (Nat.le_refl _) _).alloc (by simp) _
  have hA : Box ((w.alloc (.cells #[.int .i64 k, .int .i64 i, .string s, .slice p n c] 24)).alloc (.cells #[.int .i64 k2, .int .i64 i2, .string s2, .slice p2 n2 c2] 24)) w.heap.size #[.int .i64 k, .int .i64 i, .string s, .slice p n c] 24 := (Box.new w _ 24).below ((Below.refl _ _).alloc (Nat.le_refl _) _)
  have hB : Box ((w.alloc (.cells #[.int .i64 k, .int .i64 i, .string s, .slice p n c] 24)).alloc (.cells #[.int .i64 k2, .int .i64 i2, .string s2, .slice p2 n2 c2] 24)) (w.heap.size + 1) #[.int .i64 k2, .int .i64 i2, .string s2, .slice p2 n2 c2] 24 := by
    have h := Box.new (w.alloc (.cells #[.int .i64 k, .int .i64 i, .string s, .slice p n c] 24)) #[.int .i64 k2, .int .i64 i2, .string s2, .slice p2 n2 c2] 24
    rw [show (w.alloc (.cells #[.int .i64 k, .int .i64 i, .string s, .slice p n c] 24)).heap.size = w.heap.size + 1 by simp] at h
    exact h
  generalize hw1e : (w.alloc (.cells #[.int .i64 k, .int .i64 i, .string s, .slice p n c] 24)).alloc (.cells #[.int .i64 k2, .int .i64 i2, .string s2, .slice p2 n2 c2] 24) = w1 at *
  have hbw1 := hW0
  have hl1 := hA.lt
  have hl2 := hB.lt
  have HIn1 : Hid (VT.In w1 S t ∧ VT.In w1 S t') := ⟨HI.out.1.kept hbw1.size fun b hb hl => hbw1.block b hl, HI.out.2.1.kept hbw1.size fun b hb hl => hbw1.block b hl⟩
  have HD : Hid (∀ W, Below w1.heap.size w1 W → Calls Tryd.prog 18 #[t.val] W fun e w' => e = .returned (.agg #[.int .i64 (cleanT t).kind, .int .i64 (cleanT t).int, .string (cleanT t).text, .slice (cleanT t).p (cleanT t).n (cleanT t).c]) ∧ Below W.heap.size W w') := fun W hW => clean_any t W S (HIn1.out.1.below hW) htt
  have HD2 : Hid (∀ W, Below w1.heap.size w1 W → Calls Tryd.prog 18 #[t'.val] W fun e w' => e = .returned (.agg #[.int .i64 (cleanT t').kind, .int .i64 (cleanT t').int, .string (cleanT t').text, .slice (cleanT t').p (cleanT t').n (cleanT t').c]) ∧ Below W.heap.size W w') := fun W hW => clean_any t' W S (HIn1.out.2.below hW) htt2
  have HCm : Hid (∀ W, Below w1.heap.size w1 W → Calls Tryd.prog 7 #[t.val, t'.val] W fun e w' => e = .returned (.int .i64 (ordV (cleanT t) (cleanT t'))) ∧ Below W.heap.size W w') := fun W hW => compare_any t t' W S S (HIn1.out.1.below hW) (HIn1.out.2.below hW)
  have HCm2 : Hid (∀ W, Below w1.heap.size w1 W → Calls Tryd.prog 7 #[t'.val, t.val] W fun e w' => e = .returned (.int .i64 (ordV (cleanT t') (cleanT t))) ∧ Below W.heap.size W w') := fun W hW => compare_any t' t W S S (HIn1.out.2.below hW) (HIn1.out.1.below hW)
  have hSl : ∀ W, Below w1.heap.size w1 W → ∀ b, S b → b < W.heap.size := fun W hW b hb => by have h1 := HI.out.2.2 b hb; have h2 := hbw1.size; have h3 := hW.size; omega
  have HTw : Hid (∀ W, Below w1.heap.size w1 W → Tabs W.heap.size W) := fun W hW => by
    have h1 := (HT.out.on hbw1).on (hW.mono hbw1.size)
    exact h1.mono (Nat.le_trans hbw1.size hW.size)
  have HPr : Hid (∀ W, Below w1.heap.size w1 W → Calls Tryd.prog 19 #[t.val] W fun e w' => e = .returned (.string (strOf (prB (cleanT t)))) ∧ Below W.heap.size W w') := fun W hW => print_any t W S (HIn1.out.1.below hW) (hSl W hW) (HTw.out W hW)
  have HPr2 : Hid (∀ W, Below w1.heap.size w1 W → Calls Tryd.prog 19 #[t'.val] W fun e w' => e = .returned (.string (strOf (prB (cleanT t')))) ∧ Below W.heap.size W w') := fun W hW => print_any t' W S (HIn1.out.2.below hW) (hSl W hW) (HTw.out W hW)
  have HEn : Hid (∀ W, Below w1.heap.size w1 W → Calls Tryd.prog 12 #[t.val] W fun e w' => EPost W.heap.size W (encB (cleanT t)) e w') := fun W hW => encode_any t W S (HIn1.out.1.below hW) (hSl W hW)
  have HEn2 : Hid (∀ W, Below w1.heap.size w1 W → Calls Tryd.prog 12 #[t'.val] W fun e w' => EPost W.heap.size W (encB (cleanT t')) e w') := fun W hW => encode_any t' W S (HIn1.out.2.below hW) (hSl W hW)
  have HSa : Hid (∀ W, Below w1.heap.size w1 W → Calls Tryd.prog 10 #[(cleanT t).val, (cleanT t').val] W fun e w' => SamePost (cleanT t) (cleanT t') e W w') := fun W hW => sameG_any (cleanT t) (cleanT t') W S S (cleanT_in (HIn1.out.1.below hW)) (cleanT_in (HIn1.out.2.below hW))
  have HLn := hid (And.intro (clean_enc_len HIn1.out.1) (clean_enc_len HIn1.out.2))
  have HCt := hid (And.intro (rfl : cleanT t = cleanT t) (rfl : cleanT t' = cleanT t'))
  generalize cleanT t = A at *
  generalize cleanT t' = B at *
  unfold VT.val at HD HD2 HCm HCm2 HPr HPr2 HEn HEn2 HSa
  simp only [ht, VT.kind_mk, VT.int_mk, VT.text_mk, VT.p_mk, VT.n_mk, VT.c_mk] at HD HCm HCm2 HPr HEn
  simp only [ht2, VT.kind_mk, VT.int_mk, VT.text_mk, VT.p_mk, VT.n_mk, VT.c_mk] at HD2 HCm HCm2 HPr2 HEn2
  have x0 := hA.cell 0
  have x1 := hA.cell 1
  have x2 := hA.cell 2
  have x3 := hA.cell 3
  have y0 := hB.cell 0
  have y1 := hB.cell 1
  have y2 := hB.cell 2
  have y3 := hB.cell 3
  simp at x0 x1 x2 x3 y0 y1 y2 y3
  clear hw1e hW0 hSl HTw HI HT HIn1 ht ht2 HCt
  go_cut [5, 6] (fun s5 s6 wx => TwoBox w1 A B s5 s6 wx)
  case first =>
    clear hA hB hbw1
    have Nw10 : w1.heap.size ≠ w.heap.size := (by omega)
    have Nw11 : w1.heap.size ≠ w.heap.size + 1 := (by omega)
    have Nw12 : w1.heap.size + 1 ≠ w.heap.size := (by omega)
    have Nw13 : w1.heap.size + 1 ≠ w.heap.size + 1 := (by omega)
    go_region_held (fun W => W.cell? ⟨w.heap.size, 0, none⟩ = some (.int .i64 k) ∧ W.cell? ⟨w.heap.size, 1, none⟩ = some (.int .i64 i) ∧ W.cell? ⟨w.heap.size, 2, none⟩ = some (.string s) ∧ W.cell? ⟨w.heap.size, 3, none⟩ = some (.slice p n c) ∧ W.cell? ⟨w.heap.size + 1, 0, none⟩ = some (.int .i64 k2) ∧ W.cell? ⟨w.heap.size + 1, 1, none⟩ = some (.int .i64 i2) ∧ W.cell? ⟨w.heap.size + 1, 2, none⟩ = some (.string s2) ∧ W.cell? ⟨w.heap.size + 1, 3, none⟩ = some (.slice p2 n2 c2)) (go_keep)
      (first | (go_at_call_of 18 (Value.slice p n c); refine (HD.out _ (by (repeat (first | refine Below.drew ?_ | refine Below.alloc ?_ ?_ _ | exact Below.refl _ _ | exact hbw2)); (all_goals first | (simp; done) | (simp; omega) | omega))).mono ?_; rintro e w2 ⟨rfl, hb2⟩; have hbw2 : Below w1.heap.size w1 w2 := (by refine Below.trans ?_ (Below.mono hb2 ?_); ((repeat (first | refine Below.drew ?_ | refine Below.alloc ?_ ?_ _ | exact Below.refl _ _ | exact hbw2)); (all_goals first | (simp; done) | (simp; omega) | omega))); have z2 := hbw2.size; have Nw20 : w2.heap.size ≠ w.heap.size := (by omega); have Nw21 : w2.heap.size ≠ w.heap.size + 1 := (by omega); have Nw22 : w2.heap.size + 1 ≠ w.heap.size := (by omega); have Nw23 : w2.heap.size + 1 ≠ w.heap.size + 1 := (by omega); have X0w2 := (hbw2.cell (p := ⟨w.heap.size, 0, none⟩) hl1).trans x0; have X1w2 := (hbw2.cell (p := ⟨w.heap.size, 1, none⟩) hl1).trans x1; have X2w2 := (hbw2.cell (p := ⟨w.heap.size, 2, none⟩) hl1).trans x2; have X3w2 := (hbw2.cell (p := ⟨w.heap.size, 3, none⟩) hl1).trans x3; have Y0w2 := (hbw2.cell (p := ⟨w.heap.size + 1, 0, none⟩) hl2).trans y0; have Y1w2 := (hbw2.cell (p := ⟨w.heap.size + 1, 1, none⟩) hl2).trans y1; have Y2w2 := (hbw2.cell (p := ⟨w.heap.size + 1, 2, none⟩) hl2).trans y2; have Y3w2 := (hbw2.cell (p := ⟨w.heap.size + 1, 3, none⟩) hl2).trans y3; (first | (have P2 : Box w2 (w1.heap.size + 1) #[.int .i64 0, .int .i64 0, .string ⟨#[]⟩, .slice none 0 0] 24 := Box.below (box_new1 _ _ _ _) hb2; have P1 : Box w2 w1.heap.size #[.int .i64 0, .int .i64 0, .string ⟨#[]⟩, .slice none 0 0] 24 := Box.below (box_old1 _ _ _ _) hb2; have NP1 : w1.heap.size ≠ w2.heap.size := (by have := P1.lt; omega); have NP2 : w2.heap.size ≠ w1.heap.size := (by have := P1.lt; omega); have ZA : w1.heap.size + 2 ≤ w2.heap.size := (by have h := hb2.size; first | omega | (simp at h; omega))) | (have P1 : Box w2 w1.heap.size #[.int .i64 0, .int .i64 0, .string ⟨#[]⟩, .slice none 0 0] 24 := Box.below (box_new0 _ _ _) hb2; have NP1 : w1.heap.size ≠ w2.heap.size := (by have := P1.lt; omega); have NP2 : w2.heap.size ≠ w1.heap.size := (by have := P1.lt; omega); have ZA : w1.heap.size + 1 ≤ w2.heap.size := (by have h := hb2.size; first | omega | (simp at h; omega))) | (have ZA : w1.heap.size + 0 ≤ w2.heap.size := (by have h := hb2.size; first | omega | (simp at h; omega))))) | (go_at_call_of 18 (Value.slice p2 n2 c2); refine (HD2.out _ (by (repeat (first | refine Below.drew ?_ | refine Below.alloc ?_ ?_ _ | exact Below.refl _ _ | exact hbw2)); (all_goals first | (simp; done) | (simp; omega) | omega))).mono ?_; rintro e w3 ⟨rfl, hb3⟩; have hbw3 : Below w1.heap.size w1 w3 := (by refine Below.trans ?_ (Below.mono hb3 ?_); ((repeat (first | refine Below.drew ?_ | refine Below.alloc ?_ ?_ _ | exact Below.refl _ _ | exact hbw2)); (all_goals first | (simp; done) | (simp; omega) | omega))); have z3 := hbw3.size; have hw23 : Below w2.heap.size w2 w3 := (by refine Below.trans ?_ (Below.mono hb3 ?_); ((repeat (first | refine Below.drew ?_ | refine Below.alloc ?_ ?_ _ | exact Below.refl _ _)); (all_goals first | (simp; done) | (simp; omega) | omega))); have z23 := hw23.size; have X0w3 := (hbw3.cell (p := ⟨w.heap.size, 0, none⟩) hl1).trans x0; have X1w3 := (hbw3.cell (p := ⟨w.heap.size, 1, none⟩) hl1).trans x1; have X2w3 := (hbw3.cell (p := ⟨w.heap.size, 2, none⟩) hl1).trans x2; have X3w3 := (hbw3.cell (p := ⟨w.heap.size, 3, none⟩) hl1).trans x3; have Y0w3 := (hbw3.cell (p := ⟨w.heap.size + 1, 0, none⟩) hl2).trans y0; have Y1w3 := (hbw3.cell (p := ⟨w.heap.size + 1, 1, none⟩) hl2).trans y1; have Y2w3 := (hbw3.cell (p := ⟨w.heap.size + 1, 2, none⟩) hl2).trans y2; have Y3w3 := (hbw3.cell (p := ⟨w.heap.size + 1, 3, none⟩) hl2).trans y3; (first | (have Q2 : Box w3 (w1.heap.size + 1) #[.int .i64 0, .int .i64 0, .string ⟨#[]⟩, .slice none 0 0] 24 := Box.below P2 hb3; have Q1 : Box w3 w1.heap.size #[.int .i64 0, .int .i64 0, .string ⟨#[]⟩, .slice none 0 0] 24 := Box.below P1 hb3; have qA0 := Q1.cell 0; have qA1 := Q1.cell 1; have qA2 := Q1.cell 2; have qA3 := Q1.cell 3; have qAf0 := Q1.frozen 0; have qAf1 := Q1.frozen 1; have qAf2 := Q1.frozen 2; have qAf3 := Q1.frozen 3; have qAl := Q1.lt; simp at qA0 qA1 qA2 qA3; have qB0 := Q2.cell 0; have qB1 := Q2.cell 1; have qB2 := Q2.cell 2; have qB3 := Q2.cell 3; have qBf0 := Q2.frozen 0; have qBf1 := Q2.frozen 1; have qBf2 := Q2.frozen 2; have qBf3 := Q2.frozen 3; have qBl := Q2.lt; simp at qB0 qB1 qB2 qB3; have ZB : w2.heap.size + 0 ≤ w3.heap.size := (by have h := hb3.size; first | omega | (simp at h; omega))) | (have Q2 : Box w3 (w2.heap.size + 1) #[.int .i64 0, .int .i64 0, .string ⟨#[]⟩, .slice none 0 0] 24 := Box.below (box_new1' _ _ _ _) hb3; have Q1 : Box w3 w2.heap.size #[.int .i64 0, .int .i64 0, .string ⟨#[]⟩, .slice none 0 0] 24 := Box.below (box_old1' _ _ _ _) hb3; have qA0 := Q1.cell 0; have qA1 := Q1.cell 1; have qA2 := Q1.cell 2; have qA3 := Q1.cell 3; have qAf0 := Q1.frozen 0; have qAf1 := Q1.frozen 1; have qAf2 := Q1.frozen 2; have qAf3 := Q1.frozen 3; have qAl := Q1.lt; simp at qA0 qA1 qA2 qA3; have qB0 := Q2.cell 0; have qB1 := Q2.cell 1; have qB2 := Q2.cell 2; have qB3 := Q2.cell 3; have qBf0 := Q2.frozen 0; have qBf1 := Q2.frozen 1; have qBf2 := Q2.frozen 2; have qBf3 := Q2.frozen 3; have qBl := Q2.lt; simp at qB0 qB1 qB2 qB3; have ZB : w2.heap.size + 2 ≤ w3.heap.size := (by have h := hb3.size; first | omega | (simp at h; omega))) | (have Q1 : Box w3 w1.heap.size #[.int .i64 0, .int .i64 0, .string ⟨#[]⟩, .slice none 0 0] 24 := Box.below (box_over _ P1) hb3; have Q2 : Box w3 w2.heap.size #[.int .i64 0, .int .i64 0, .string ⟨#[]⟩, .slice none 0 0] 24 := Box.below (Box.new _ _ _) hb3; have qA0 := Q1.cell 0; have qA1 := Q1.cell 1; have qA2 := Q1.cell 2; have qA3 := Q1.cell 3; have qAf0 := Q1.frozen 0; have qAf1 := Q1.frozen 1; have qAf2 := Q1.frozen 2; have qAf3 := Q1.frozen 3; have qAl := Q1.lt; simp at qA0 qA1 qA2 qA3; have qB0 := Q2.cell 0; have qB1 := Q2.cell 1; have qB2 := Q2.cell 2; have qB3 := Q2.cell 3; have qBf0 := Q2.frozen 0; have qBf1 := Q2.frozen 1; have qBf2 := Q2.frozen 2; have qBf3 := Q2.frozen 3; have qBl := Q2.lt; simp at qB0 qB1 qB2 qB3; have ZB : w2.heap.size + 1 ≤ w3.heap.size := (by have h := hb3.size; first | omega | (simp at h; omega))) | (have Q1 : Box w3 w1.heap.size #[.int .i64 0, .int .i64 0, .string ⟨#[]⟩, .slice none 0 0] 24 := Box.below P1 hb3; have qA0 := Q1.cell 0; have qA1 := Q1.cell 1; have qA2 := Q1.cell 2; have qA3 := Q1.cell 3; have qAf0 := Q1.frozen 0; have qAf1 := Q1.frozen 1; have qAf2 := Q1.frozen 2; have qAf3 := Q1.frozen 3; have qAl := Q1.lt; simp at qA0 qA1 qA2 qA3; have ZB : w2.heap.size + 0 ≤ w3.heap.size := (by have h := hb3.size; first | omega | (simp at h; omega))) | (have Q1 : Box w3 w2.heap.size #[.int .i64 0, .int .i64 0, .string ⟨#[]⟩, .slice none 0 0] 24 := Box.below (Box.new _ _ _) hb3; have qA0 := Q1.cell 0; have qA1 := Q1.cell 1; have qA2 := Q1.cell 2; have qA3 := Q1.cell 3; have qAf0 := Q1.frozen 0; have qAf1 := Q1.frozen 1; have qAf2 := Q1.frozen 2; have qAf3 := Q1.frozen 3; have qAl := Q1.lt; simp at qA0 qA1 qA2 qA3; have ZB : w2.heap.size + 1 ≤ w3.heap.size := (by have h := hb3.size; first | omega | (simp at h; omega))) | (have ZB : w2.heap.size + 0 ≤ w3.heap.size := (by have h := hb3.size; first | omega | (simp at h; omega))))))
    all_goals go_wp2_with fail
    all_goals go_meet
    · exact twb_A hbw3
    · exact twb_A' hbw3
    · exact twb_B hbw3 Q1 rfl (by omega)
    · exact twb_C hbw3 Q1 rfl Q2 rfl (by omega) (by omega) (by omega)
    · exact twb_B' hbw3 Q1 rfl (by omega)
    · exact twb_C hbw3 Q2 rfl Q1 rfl (by omega) (by omega) (by omega)
    · exact twb_B hbw3 Q1 rfl (by omega)
    · exact twb_C hbw3 Q1 rfl Q2 rfl (by omega) (by omega) (by omega)
    · exact twb_C hbw3 Q1 rfl Q2 rfl (by omega) (by omega) (by omega)
    · exact twb_B' hbw3 Q1 rfl (by omega)
    · exact twb_C hbw3 Q2 rfl Q1 rfl (by omega) (by omega) (by omega)
    · exact twb_C hbw3 Q2 rfl Q1 rfl (by omega) (by omega) (by omega)
  case rest =>
    obtain ⟨bc, bd, h5, h6, hne, hbc, hbd, hBc, hBd, hbel⟩ := hcut
    subst h5 h6
    have HAw := hid (And.intro hA (And.intro hB (And.intro hbw1 hbel)))
    have HXY := hid (And.intro hBc hBd)
    have hlo := HOk.out.lo
    have hhi := HOk.out.hi
    have hanti := HOk.out.anti
    obtain ⟨N, hN⟩ : ∃ N, N = ordV A B := ⟨_, rfl⟩
    have HN := hid hN
    rw [hanti] at HCm2
    rw [← hN] at hlo hhi HCm HCm2
    clear x0 x1 x2 x3 y0 y1 y2 y3 HD HD2 hanti hN
    have x0 := (hA.below hbel).cell 0
    have x1 := (hA.below hbel).cell 1
    have x2 := (hA.below hbel).cell 2
    have x3 := (hA.below hbel).cell 3
    have y0 := (hB.below hbel).cell 0
    have y1 := (hB.below hbel).cell 1
    have y2 := (hB.below hbel).cell 2
    have y3 := (hB.below hbel).cell 3
    simp at x0 x1 x2 x3 y0 y1 y2 y3
    clear hA hB hbw1 hBc hBd
    go_wp2_with fail
    refine (HCm.out _ hbel).mono ?_
    rintro e w3 ⟨rfl, hb3⟩
    have hb13 : Below w1.heap.size w1 w3 := hbel.trans (hb3.mono hbel.size)
    have HX3 := hid (And.intro (HXY.out.1.below hb3) (HXY.out.2.below hb3))
    clear x0 x1 x2 x3 y0 y1 y2 y3 hb3 HXY hbel HCm
    have x0 := (HAw.out.1.below hb13).cell 0
    have x1 := (HAw.out.1.below hb13).cell 1
    have x2 := (HAw.out.1.below hb13).cell 2
    have x3 := (HAw.out.1.below hb13).cell 3
    have y0 := (HAw.out.2.1.below hb13).cell 0
    have y1 := (HAw.out.2.1.below hb13).cell 1
    have y2 := (HAw.out.2.1.below hb13).cell 2
    have y3 := (HAw.out.2.1.below hb13).cell 3
    simp at x0 x1 x2 x3 y0 y1 y2 y3
    have hn1 : ¬ N < -1 := by omega
    have hn2 : ¬ 1 < N := by omega
    go_wp2_with fail
    refine (HCm2.out _ hb13).mono ?_
    rintro e w4 ⟨rfl, hb4⟩
    have hb14 : Below w1.heap.size w1 w4 := hb13.trans (hb4.mono hb13.size)
    have HX4 := hid (And.intro (HX3.out.1.below hb4) (HX3.out.2.below hb4))
    clear x0 x1 x2 x3 y0 y1 y2 y3 hb4 hb13 HX3 HCm2
    have x0 := (HAw.out.1.below hb14).cell 0
    have x1 := (HAw.out.1.below hb14).cell 1
    have x2 := (HAw.out.1.below hb14).cell 2
    have x3 := (HAw.out.1.below hb14).cell 3
    have y0 := (HAw.out.2.1.below hb14).cell 0
    have y1 := (HAw.out.2.1.below hb14).cell 1
    have y2 := (HAw.out.2.1.below hb14).cell 2
    have y3 := (HAw.out.2.1.below hb14).cell 3
    simp at x0 x1 x2 x3 y0 y1 y2 y3
    go_wp2_with fail
    go_cut [8, 9] (fun s8 s9 wx => s8 = .string (strOf (prB A)) ∧ s9 = .string (strOf (prB B)) ∧ Below w4.heap.size w4 wx)
    case first =>
      go_region_held (fun W => W.cell? ⟨w.heap.size, 0, none⟩ = some (.int .i64 k) ∧ W.cell? ⟨w.heap.size, 1, none⟩ = some (.int .i64 i) ∧ W.cell? ⟨w.heap.size, 2, none⟩ = some (.string s) ∧ W.cell? ⟨w.heap.size, 3, none⟩ = some (.slice p n c) ∧ W.cell? ⟨w.heap.size + 1, 0, none⟩ = some (.int .i64 k2) ∧ W.cell? ⟨w.heap.size + 1, 1, none⟩ = some (.int .i64 i2) ∧ W.cell? ⟨w.heap.size + 1, 2, none⟩ = some (.string s2) ∧ W.cell? ⟨w.heap.size + 1, 3, none⟩ = some (.slice p2 n2 c2)) (go_keep)
        (first | (go_at_call_of 19 (Value.slice p n c); refine (HPr.out _ hb14.drew).mono ?_; rintro e w5 ⟨rfl, hb5⟩; have hb45 : Below w4.heap.size w4 w5 := (Below.refl w4.heap.size w4).drew.trans hb5; have hb15 : Below w1.heap.size w1 w5 := hb14.trans (hb45.mono hb14.size); have qx0 := (HAw.out.1.below hb15).cell 0; have qx1 := (HAw.out.1.below hb15).cell 1; have qx2 := (HAw.out.1.below hb15).cell 2; have qx3 := (HAw.out.1.below hb15).cell 3; have qy0 := (HAw.out.2.1.below hb15).cell 0; have qy1 := (HAw.out.2.1.below hb15).cell 1; have qy2 := (HAw.out.2.1.below hb15).cell 2; have qy3 := (HAw.out.2.1.below hb15).cell 3; simp at qx0 qx1 qx2 qx3 qy0 qy1 qy2 qy3) | (go_at_call_of 19 (Value.slice p2 n2 c2); refine (HPr2.out _ hb15).mono ?_; rintro e w6 ⟨rfl, hb6⟩; have hb46 : Below w4.heap.size w4 w6 := hb45.trans (hb6.mono hb45.size); have hb16 : Below w1.heap.size w1 w6 := hb15.trans (hb6.mono hb15.size); have rx0 := (HAw.out.1.below hb16).cell 0; have rx1 := (HAw.out.1.below hb16).cell 1; have rx2 := (HAw.out.1.below hb16).cell 2; have rx3 := (HAw.out.1.below hb16).cell 3; have ry0 := (HAw.out.2.1.below hb16).cell 0; have ry1 := (HAw.out.2.1.below hb16).cell 1; have ry2 := (HAw.out.2.1.below hb16).cell 2; have ry3 := (HAw.out.2.1.below hb16).cell 3; simp at rx0 rx1 rx2 rx3 ry0 ry1 ry2 ry3))
      all_goals go_wp2_with fail
      all_goals go_meet
      all_goals exact ⟨rfl, rfl, hb46⟩
    case rest =>
      obtain ⟨h8, h9, hb5⟩ := hcut
      subst h8 h9
      have hb15 : Below w1.heap.size w1 wc := hb14.trans (hb5.mono hb14.size)
      have HX5 := hid (And.intro (HX4.out.1.below hb5) (HX4.out.2.below hb5))
      clear x0 x1 x2 x3 y0 y1 y2 y3 HX4 HPr HPr2
      have x0 := (HAw.out.1.below hb15).cell 0
      have x1 := (HAw.out.1.below hb15).cell 1
      have x2 := (HAw.out.1.below hb15).cell 2
      have x3 := (HAw.out.1.below hb15).cell 3
      have y0 := (HAw.out.2.1.below hb15).cell 0
      have y1 := (HAw.out.2.1.below hb15).cell 1
      have y2 := (HAw.out.2.1.below hb15).cell 2
      have y3 := (HAw.out.2.1.below hb15).cell 3
      simp at x0 x1 x2 x3 y0 y1 y2 y3
      generalize hw5 : wc = w5 at *
      clear hw5 hb5 hb14
      go_wp2_with fail
      go_cut [10, 11] (fun s10 s11 wx => (∃ B1, OwnBy B1 wx s10 (encB A)) ∧ (∃ B2, OwnBy B2 wx s11 (encB B)) ∧ Below w5.heap.size w5 wx)
      case first =>
        go_region_held (fun W => W.cell? ⟨w.heap.size, 0, none⟩ = some (.int .i64 k) ∧ W.cell? ⟨w.heap.size, 1, none⟩ = some (.int .i64 i) ∧ W.cell? ⟨w.heap.size, 2, none⟩ = some (.string s) ∧ W.cell? ⟨w.heap.size, 3, none⟩ = some (.slice p n c) ∧ W.cell? ⟨w.heap.size + 1, 0, none⟩ = some (.int .i64 k2) ∧ W.cell? ⟨w.heap.size + 1, 1, none⟩ = some (.int .i64 i2) ∧ W.cell? ⟨w.heap.size + 1, 2, none⟩ = some (.string s2) ∧ W.cell? ⟨w.heap.size + 1, 3, none⟩ = some (.slice p2 n2 c2)) (go_keep)
          (first | (go_at_call_of 12 (Value.slice p n c); refine (HEn.out _ hb15.drew).mono ?_; intro e w6 hP6; obtain ⟨v6, rfl, hL6⟩ := hP6; have hb56 : Below w5.heap.size w5 w6 := (Below.refl w5.heap.size w5).drew.trans hL6.bel; have hb16 : Below w1.heap.size w1 w6 := hb15.trans (hb56.mono hb15.size); have qx0 := (HAw.out.1.below hb16).cell 0; have qx1 := (HAw.out.1.below hb16).cell 1; have qx2 := (HAw.out.1.below hb16).cell 2; have qx3 := (HAw.out.1.below hb16).cell 3; have qy0 := (HAw.out.2.1.below hb16).cell 0; have qy1 := (HAw.out.2.1.below hb16).cell 1; have qy2 := (HAw.out.2.1.below hb16).cell 2; have qy3 := (HAw.out.2.1.below hb16).cell 3; simp at qx0 qx1 qx2 qx3 qy0 qy1 qy2 qy3) | (go_at_call_of 12 (Value.slice p2 n2 c2); refine (HEn2.out _ hb16).mono ?_; intro e w7 hP7; obtain ⟨v7, rfl, hL7⟩ := hP7; have hb57 : Below w5.heap.size w5 w7 := hb56.trans (hL7.bel.mono hb56.size); have hb17 : Below w1.heap.size w1 w7 := hb15.trans (hb57.mono hb15.size); have rx0 := (HAw.out.1.below hb17).cell 0; have rx1 := (HAw.out.1.below hb17).cell 1; have rx2 := (HAw.out.1.below hb17).cell 2; have rx3 := (HAw.out.1.below hb17).cell 3; have ry0 := (HAw.out.2.1.below hb17).cell 0; have ry1 := (HAw.out.2.1.below hb17).cell 1; have ry2 := (HAw.out.2.1.below hb17).cell 2; have ry3 := (HAw.out.2.1.below hb17).cell 3; simp at rx0 rx1 rx2 rx3 ry0 ry1 ry2 ry3))
        all_goals go_wp2_with fail
        all_goals go_meet
        all_goals exact ⟨⟨_, hL6.own.below hL7.bel⟩, ⟨_, hL7.own⟩, hb57⟩
      case rest =>
        obtain ⟨⟨B1, hO1⟩, ⟨B2, hO2⟩, hb6⟩ := hcut
        have hb16 : Below w1.heap.size w1 wc := hb15.trans (hb6.mono hb15.size)
        have HX6 := hid (And.intro (HX5.out.1.below hb6) (HX5.out.2.below hb6))
        obtain ⟨g1, c1, hv1, _, _, _⟩ := OwnBy.slice hO1 (encB_some A)
        obtain ⟨g2, c2', hv2, _, _, _⟩ := OwnBy.slice hO2 (encB_some B)
        subst hv1 hv2
        have HO := hid (And.intro hO1 hO2)
        clear x0 x1 x2 x3 y0 y1 y2 y3 HX5 HEn HEn2 hO1 hO2
        generalize hw6 : wc = w6 at *
        clear hw6 hb6 hb15
        have m0 := HX6.out.1.cell 0
        have m1 := HX6.out.1.cell 1
        have m2 := HX6.out.1.cell 2
        have m3 := HX6.out.1.cell 3
        simp at m0 m1 m2 m3
        have z0 := HX6.out.2.cell 0
        have z1 := HX6.out.2.cell 1
        have z2 := HX6.out.2.cell 2
        have z3 := HX6.out.2.cell 3
        simp at z0 z1 z2 z3
        go_wp2_with fail
        refine (HSa.out _ hb16).mono ?_
        intro e w7 hP7
        obtain ⟨r, rfl, hr, hb7⟩ := hP7
        have hb17 : Below w1.heap.size w1 w7 := hb16.trans (hb7.mono hb16.size)
        have HX7 := hid (And.intro (HX6.out.1.below hb7) (HX6.out.2.below hb7))
        have HO7 := hid (And.intro (HO.out.1.below hb7) (HO.out.2.below hb7))
        have hk1 := conv_any HO7.out.1
        have hk2 := conv_any HO7.out.2
        have HF := hid (HAw.out.2.2.1.trans (hb17.mono HAw.out.2.2.1.size))
        clear m0 m1 m2 m3 z0 z1 z2 z3 HX6 HO hb16 HSa hb7
        cases r with
        | true =>
          obtain ⟨q1, q2, q3⟩ := HOk.out.yes (hr.1 rfl)
          have hN0 : N = 0 := HN.out.trans q1
          subst hN0
          rw [q2]
          rw [q3] at hk1
          clear q1 q2 q3 hr HN HX7 HO7
          go_wp2
          go_ret
          exact ⟨rfl, HF.out⟩
        | false =>
          obtain ⟨q1, q2, q3, q4, q5, q6⟩ := HOk.out.no (fun h => absurd (hr.2 h) (by decide))
          have hN0 : (N == 0) = false := by rw [beq_eq_false_iff_ne, HN.out]; exact q1
          rw [← HN.out] at q5 q6
          have HB1 := hid (begins_any (encB A) (encB B) _ _ w7 B1 B2 HO7.out.1 HO7.out.2 (encB_some A) (encB_some B) (by have := HLn.out.1; omega) (by have := HLn.out.2; omega))
          rw [q3] at HB1
          have HB2 : Hid (∀ W, Below w7.heap.size w7 W → Calls Tryd.prog 20 #[.slice (some ⟨g2, 0, none⟩) (encB B).length c2', .slice (some ⟨g1, 0, none⟩) (encB A).length c1] W fun e w' => e = .returned (.bool false) ∧ Below W.heap.size W w') := fun W hW => by
            have h := begins_any (encB B) (encB A) _ _ W B2 B1 (HO7.out.2.below hW) (HO7.out.1.below hW) (encB_some B) (encB_some A) (by have := HLn.out.2; omega) (by have := HLn.out.1; omega)
            rw [q4] at h
            exact h
          have HQ := hid (And.intro q5 q6)
          clear q1 q3 q4 q5 q6 hr hk1 hk2
          go_wp2_with fail
          refine HB1.out.mono ?_
          rintro e w8 ⟨rfl, hb8⟩
          go_wp2_with fail
          refine (HB2.out _ hb8).mono ?_
          rintro e w9 ⟨rfl, hb9⟩
          have hb79 : Below w7.heap.size w7 w9 := hb8.trans (hb9.mono hb8.size)
          have HX9 := hid (And.intro (HX7.out.1.below hb79) (HX7.out.2.below hb79))
          have HF9 := hid (HF.out.trans ((hb79.mono (Nat.le_refl _)).mono HF.out.size))
          clear HB1 HB2 hb8 hb9 hb79 HX7 HO7 HF hb17
          have m0 := HX9.out.1.cell 0
          have m1 := HX9.out.1.cell 1
          have m2 := HX9.out.1.cell 2
          have m3 := HX9.out.1.cell 3
          simp at m0 m1 m2 m3
          have z0 := HX9.out.2.cell 0
          have z1 := HX9.out.2.cell 1
          have z2 := HX9.out.2.cell 2
          have z3 := HX9.out.2.cell 3
          simp at z0 z1 z2 z3
          by_cases hkk : A.kind = B.kind
          · by_cases hk1 : A.kind = 1
            · have h6 := HQ.out.2 hkk hk1
              have hkb : B.kind = 1 := by rw [← hkk]; exact hk1
              rw [hk1] at m0
              rw [hkb] at z0
              clear hkk hk1 hkb
              go_wp2
              go_ret
              exact ⟨by simp, HF9.out⟩
            · rw [← hkk] at z0
              clear hkk
              go_wp2
              go_ret
              exact ⟨rfl, HF9.out⟩
          · have h5 := HQ.out.1 hkk
            go_wp2
            go_ret
            exact ⟨by simp, HF9.out⟩
end Go.Proofs.YtehpdhhlggegdaaDoor
