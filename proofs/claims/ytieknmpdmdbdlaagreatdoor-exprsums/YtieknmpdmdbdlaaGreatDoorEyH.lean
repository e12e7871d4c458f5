import Derived.Test.YtieknmpdmdbdlaaGreatDoorEyA
import Derived.Test.YtieknmpdmdbdlaaGreatDoorEyJ
import Derived.Test.YtieknmpdmdbdlaaGreatDoorStepY
import Derived.Deep.RegionLaw
import Derived.Deep.DeepCutAuto
namespace Go.Proofs.YtieknmpdmdbdlaaGreatDoor
open Go.RowKit
set_option maxRecDepth 8000

/-- is a + b outside -/
def overB (a b : Int) : Bool := decide ((0 < b ∧ 9223372036854775807 - b < a) ∨ (b < 0 ∧ a < -9223372036854775808 - b))
def underB (a b : Int) : Bool := decide ((b < 0 ∧ 9223372036854775807 + b < a) ∨ (0 < b ∧ a < -9223372036854775808 + b))
/-- what a text comes to -/
def RkO (s : ByteArray) (a b n : Int) (o : Bool) : Prop := ∀ w, Calls Tryz.prog 5 #[.string s, iv 1 a, iv 1 b] w fun e w' => Below w.heap.size w w' ∧ e = .returned (.tuple #[iv (okK (!o)) (okI (!o) n), .bool true])

def Rk4 (s : ByteArray) (a b k i : Int) : Prop := ∀ w, Calls Tryz.prog 5 #[.string s, iv 1 a, iv 1 b] w fun e w' => Below w.heap.size w w' ∧ e = .returned (.tuple #[iv k i, .bool true])
/-- what is known of a product -/
def ProdIs (a b : Int) (Z : Bool) (k i : Int) : Prop :=
  (Z = true ∧ k = 1 ∧ i = 0) ∨
  (Z = false ∧ k = 0 ∧ i = 0 ∧ ∀ w, Calls Tryz.prog 8 #[.int .i64 a, .int .i64 b, .bool (decide (0 < b) == decide (0 < a))] w fun e w' => Below w.heap.size w w' ∧ e = .returned (.bool true)) ∨
  (Z = false ∧ k = 1 ∧ i = wrap64 (a * b) ∧ ¬ b = 0 ∧ ((a != -1) = false → (b != -9223372036854775808) = true) ∧ ((b != -1) = false → (a != -9223372036854775808) = true) ∧ wrap64 ((wrap64 (a * b)).tdiv b) = a)
theorem wrapEq (x : Int) : IntKind.i64.wrap x = wrap64 x := by rw [IntKind.wrap_i64]; unfold wrap64; rfl
theorem same_t (k i : Int) (w : World) : Calls Tryz.prog 7 #[iv k i, iv k i] w fun e w' => Below w.heap.size w w' ∧ e = .returned (.bool true) := by
  have h := same_iv k i k i w
  rwa [show decide (k = k ∧ i = i) = true by simp] at h
theorem same_f (i : Int) (w : World) : Calls Tryz.prog 7 #[iv 1 i, iv 0 0] w fun e w' => Below w.heap.size w w' ∧ e = .returned (.bool false) := by
  have h := same_iv 1 i 0 0 w
  rwa [show decide ((1 : Int) = 0 ∧ i = 0) = false by simp] at h

set_option maxHeartbeats 40000000 in
theorem sums_x (a b : Int) (w : World) (ha : I64 a) (hb : I64 b) (h1 : RkO plusT a b (wrap64 (a + b)) (overB a b)) (h2 : RkO minusT a b (wrap64 (a - b)) (underB a b)) (h3 : RkO oppT a b (wrap64 (-a)) (a == -9223372036854775808)) (k4 i4 : Int) (h4 : Rk4 timesT a b k4 i4) (Z : Bool) (hZ : Z = ((a == 0) || (b == 0))) (hP : ProdIs a b Z k4 i4) :
    Calls Tryz.prog 4 #[.int .i64 a, .int .i64 b] w fun e w' => e = .returned (.bool true) ∧ Below w.heap.size w w' := by
  have HAB := hid (And.intro ha hb)
  have HO := hid (rfl : overB a b = overB a b)
  obtain ⟨O, hO⟩ : ∃ O, O = overB a b := ⟨_, rfl⟩
  obtain ⟨U, hU⟩ : ∃ U, U = underB a b := ⟨_, rfl⟩
  rw [← hO] at h1
  rw [← hU] at h2
  have HOO := hid hO
  have HUU := hid hU
  clear ha hb hO hU HO
  unfold RkO at h1 h2
  obtain ⟨k1, hk1⟩ : ∃ k, k = okK (!O) := ⟨_, rfl⟩
  obtain ⟨i1, hi1⟩ : ∃ k, k = okI (!O) (wrap64 (a + b)) := ⟨_, rfl⟩
  obtain ⟨k2, hk2⟩ : ∃ k, k = okK (!U) := ⟨_, rfl⟩
  obtain ⟨i2, hi2⟩ : ∃ k, k = okI (!U) (wrap64 (a - b)) := ⟨_, rfl⟩
  rw [← hk1, ← hi1] at h1
  rw [← hk2, ← hi2] at h2
  have HK := hid (And.intro (And.intro hk1 hi1) (And.intro hk2 hi2))
  clear hk1 hi1 hk2 hi2
  obtain ⟨M, hM⟩ : ∃ M, M = (a == -9223372036854775808) := ⟨_, rfl⟩
  rw [← hM] at h3
  obtain ⟨k3, hk3⟩ : ∃ k, k = okK (!M) := ⟨_, rfl⟩
  obtain ⟨i3, hi3⟩ : ∃ k, k = okI (!M) (wrap64 (-a)) := ⟨_, rfl⟩
  unfold RkO at h3
  rw [← hk3, ← hi3] at h3
  have HM := hid hM
  have HK3 := hid (And.intro hk3 hi3)
  have H3 := hid h3
  have H4 := hid h4
  have HZ := hid hZ
  have HP := hid hP
  clear hM hk3 hi3 h3 h4 hZ hP
  have H1 := hid h1
  have H2 := hid h2
  have HN : Hid (∀ n w, Calls Tryz.prog 6 #[.int .i64 n] w fun e w' => Below w.heap.size w w' ∧ e = .returned (iv 1 n)) := fun n w => (num_any n w).mono fun _ _ ⟨h, he⟩ => ⟨h ▸ below_al _ _, he⟩
  have HS := hid same_iv
  clear h1 h2
  go_enter Tryz.func4, Tryz.ntmps4
  go_wp2_with fail
  refine (HN.out a w).mono ?_
  rintro e w1 ⟨hb1, rfl⟩
  have B1 := hid hb1
  clear hb1
  go_wp2_with fail
  refine (HN.out b w1).mono ?_
  rintro e w2 ⟨hb2, rfl⟩
  have B2 := hid (B1.out.trans (hb2.mono B1.out.size))
  clear hb2
  go_wp2_with fail
  refine (H1.out w2).mono ?_
  rintro e w3 ⟨hb3, rfl⟩
  have B3 := hid (B2.out.trans (hb3.mono B2.out.size))
  clear hb3
  rw [show iv k1 i1 = .agg #[.int .i64 k1, .int .i64 i1, .string ⟨#[]⟩, .slice none 0 0] from rfl]
  go_wp2_with fail
  have V3 := hid (V4.new w3 k1 i1)
  have B3' := hid (B3.out.alloc B3.out.size (.cells #[.int .i64 k1, .int .i64 i1, .string ⟨#[]⟩, .slice none 0 0] 24))
  generalize w3.alloc (.cells #[.int .i64 k1, .int .i64 i1, .string ⟨#[]⟩, .slice none 0 0] 24) = w4 at *
  generalize w3.heap.size = cs at *
  refine (HN.out a w4).mono ?_
  rintro e w5 ⟨hb5, rfl⟩
  have B5 := hid (B3'.out.trans (hb5.mono B3'.out.size))
  have V5 := hid (V3.out.on hb5)
  clear hb5
  go_wp2_with fail
  refine (HN.out b w5).mono ?_
  rintro e w6 ⟨hb6, rfl⟩
  have B6 := hid (B5.out.trans (hb6.mono B5.out.size))
  have V6 := hid (V5.out.on hb6)
  clear hb6
  go_wp2_with fail
  refine (H2.out w6).mono ?_
  rintro e w7 ⟨hb7, rfl⟩
  have B7 := hid (B6.out.trans (hb7.mono B6.out.size))
  have V7 := hid (V6.out.on hb7)
  clear hb7
  rw [show iv k2 i2 = .agg #[.int .i64 k2, .int .i64 i2, .string ⟨#[]⟩, .slice none 0 0] from rfl]
  have V7d := hid (V4.new w7 k2 i2)
  have V7s := hid (V7.out.on (below_al w7 (.cells #[.int .i64 k2, .int .i64 i2, .string ⟨#[]⟩, .slice none 0 0] 24)))
  have B8 := hid (B7.out.alloc B7.out.size (.cells #[.int .i64 k2, .int .i64 i2, .string ⟨#[]⟩, .slice none 0 0] 24))
  go_upto_region 5 with fail
  generalize w7.alloc (.cells #[.int .i64 k2, .int .i64 i2, .string ⟨#[]⟩, .slice none 0 0] 24) = w8 at *
  generalize w7.heap.size = cd at *
  go_cut [9] (fun s9 wx => s9 = .bool O ∧ wx = w8)
  case first =>
    as_aux_lemma =>
    go_wp2_with fail
    all_goals go_meet
    all_goals
      obtain ⟨⟨a1, a2⟩, b1, b2⟩ := HAB.out
      have hO := HOO.out
      unfold overB at hO
      refine ⟨congrArg Value.bool ?_, rfl⟩
      rw [hO]
      first
        | (symm; rw [decide_eq_true_eq]; unfold wrap64 at *; omega)
        | (symm; rw [decide_eq_false_iff_not]; unfold wrap64 at *; omega)
        | (rw [decide_eq_decide]; unfold wrap64 at *; omega)
        | trace_state
  case rest =>
    obtain ⟨rfl, rfl⟩ := hcut
    go_upto_region 6 with fail
    go_cut [71] (fun s71 wx => s71 = .bool false ∧ Below w.heap.size w wx ∧ V4 wx cd k2 i2)
    case first =>
      as_aux_lemma =>
      obtain ⟨⟨hk1, hi1⟩, _⟩ := HK.out
      cases O with
      | true =>
        obtain rfl : k1 = 0 := hk1
        obtain rfl : i1 = 0 := hi1
        refine wp_region_inv (by kernel_rfl) (R6tI (fun t54 t55 t56 t57 t58 t59 t60 t61 t62 t63 t64 t65 t66 t67 t68 t69 t70 t71 => #[.int .i64 a, .int .i64 b, undef, undef, .bool false, .pointer (some ⟨cs, 0, none⟩), .bool true, .pointer (some ⟨cd, 0, none⟩), .bool true, .bool true, undef, undef, undef, undef, u14, u15, u16, u17, u18, u19, u20, u21, u22, u23, u24, u25, u26, u27, u28, u29, u30, u31, u32, u33, u34, u35, u36, u37, u38, u39, u40, u41, u42, u43, u44, u45, u46, u47, u48, u49, u50, u51, u52, u53, t54, t55, t56, t57, t58, t59, t60, t61, t62, t63, t64, t65, t66, t67, t68, t69, t70, t71, u72, u73, u74, u75, u76, u77, u78, u79, u80, u81, u82, u83, u84, u85, u86, u87, u88, u89, u90, u91, u92, u93, u94, u95, u96, u97, u98, u99, u100, u101, u102, u103, u104, u105, u106, u107, u108, u109, u110, u111, u112, u113, u114, u115, u116, u117, u118, u119, u120, u121, u122, u123, u124, u125, u126, u127, u128, u129, u130, u131, u132, u133, u134, u135, u136, u137, u138, u139, u140, u141, u142, u143, u144, u145, u146, u147, u148, u149, u150, u151, u152, u153, u154, u155, u156, u157, u158, u159, u160, u161, u162, u163, u164, u165, u166, u167, u168, u169, u170, u171, u172, u173, u174, u175, u176, u177, u178, u179, u180, u181, u182, u183, u184, u185, u186, u187, u188, u189, u190, u191, u192, u193, u194, u195, u196, u197, u198, u199, u200, u201, u202, u203, u204]) wc a b 0) ?_ (by kernel_rfl) ?_ ?_ ?_
        · rintro D D' c w1 hD ⟨t54, t55, t56, t57, t58, t59, t60, t61, t62, t63, t64, t65, t66, t67, t68, t69, t70, t71, h, hK⟩
          have e : D = D' := funext fun j => propext (hD j)
          subst e
          exact ⟨t54, t55, t56, t57, t58, t59, t60, t61, t62, t63, t64, t65, t66, t67, t68, t69, t70, t71, h, hK⟩
        · intro D hD
          exact ⟨_, _, _, _, _, _, _, _, _, _, _, _, _, _, _, _, _, _, rfl, (Below.refl _ _).drew, fun h => absurd h (hD _), fun h => absurd h (hD _), fun h => absurd h (hD _), fun h => absurd h (hD _), fun h => absurd h (hD _), fun h => absurd h (hD _), fun h => absurd h (hD _), fun h => absurd h (hD _), fun h => absurd h (hD _), fun h => absurd h (hD _), fun h => absurd h (hD _), fun h => absurd h (hD _), fun h => absurd h (hD _), fun h => absurd h (hD _), fun h => absurd h (hD _), fun h => absurd h (hD _), fun h => absurd h (hD _), fun h => absurd h (hD _)⟩
        · intro D c w1 hI j o hi hnd hdep
          obtain ⟨t54, t55, t56, t57, t58, t59, t60, t61, t62, t63, t64, t65, t66, t67, t68, t69, t70, t71, rfl, hK⟩ := hI
          have hlt : j < 18 := (Array.getElem?_eq_some_iff.1 hi).1
          match j, hlt with
          | 0, _ =>
            as_aux_lemma =>
            cases hi
            simp [wpOp, Region.wanted, Oper.wp, execOp, go_sem, Oper.upon, Act.eval, Act.put]
            exact Or.inl ⟨_, _, _, _, _, _, _, _, _, _, _, _, _, _, _, _, _, _, rfl, hK.n0 (Below.refl _ _)⟩
          | 1, _ =>
            as_aux_lemma =>
            cases hi
            obtain ⟨y0, y1, y2, y3, _⟩ := V7s.out.on hK.bel
            simp [wpOp, Region.wanted, Oper.wp, execOp, go_sem, Oper.upon, Act.eval, Act.put, y0, y1, y2, y3]
            exact Or.inl ⟨_, _, _, _, _, _, _, _, _, _, _, _, _, _, _, _, _, _, rfl, hK.n1 (Below.refl _ _)⟩
          | 2, _ =>
            as_aux_lemma =>
            cases hi
            simp [wpOp, Region.wanted, Oper.wp, execOp, go_sem, Oper.upon, Act.eval, Act.put]
            exact Or.inl ⟨_, _, _, _, _, _, _, _, _, _, _, _, _, _, _, _, _, _, rfl, hK.n2 (Below.refl _ _)⟩
          | 3, _ =>
            as_aux_lemma =>
            cases hi
            simp [Region.binds] at hdep
            obtain rfl := hK.f1 (by first | exact hdep | exact hdep.1 | exact hdep.2 | exact hdep.2.1 | exact hdep.2.2 | exact hdep.2.2.1 | exact hdep.2.2.2 | exact hdep.2.2.2.1 | exact hdep.2.2.2.2)
            obtain rfl := hK.f2 (by first | exact hdep | exact hdep.1 | exact hdep.2 | exact hdep.2.1 | exact hdep.2.2 | exact hdep.2.2.1 | exact hdep.2.2.2 | exact hdep.2.2.2.1 | exact hdep.2.2.2.2)
            simp [wpOp, Region.wanted, Oper.wp, go_sem, Oper.upon, Act.eval, Act.put]
            refine Or.inl ((same_t 0 0 w1).mono ?_)
            rintro e w2 ⟨hb, rfl⟩
            exact ⟨_, _, _, _, _, _, _, _, _, _, _, _, _, _, _, _, _, _, rfl, hK.n3 hb⟩
          | 4, _ =>
            as_aux_lemma =>
            cases hi
            simp [Region.binds] at hdep
            obtain rfl := hK.f0 (by first | exact hdep | exact hdep.1 | exact hdep.2 | exact hdep.2.1 | exact hdep.2.2 | exact hdep.2.2.1 | exact hdep.2.2.2 | exact hdep.2.2.2.1 | exact hdep.2.2.2.2)
            obtain rfl := hK.f3 (by first | exact hdep | exact hdep.1 | exact hdep.2 | exact hdep.2.1 | exact hdep.2.2 | exact hdep.2.2.1 | exact hdep.2.2.2 | exact hdep.2.2.2.1 | exact hdep.2.2.2.2)
            simp [wpOp, Region.wanted, Oper.wp, execOp, go_sem, Oper.upon, Act.eval, Act.put]
            exact Or.inl ⟨_, _, _, _, _, _, _, _, _, _, _, _, _, _, _, _, _, _, rfl, hK.n4 (Below.refl _ _)⟩
          | 5, _ =>
            as_aux_lemma =>
            cases hi
            simp [Region.binds] at hdep
            obtain rfl := hK.f4 (by first | exact hdep | exact hdep.1 | exact hdep.2 | exact hdep.2.1 | exact hdep.2.2 | exact hdep.2.2.1 | exact hdep.2.2.2 | exact hdep.2.2.2.1 | exact hdep.2.2.2.2)
            simp [wpOp, Region.wanted, Oper.wp, execOp, go_sem, Oper.upon, Act.eval, Act.put]
            exact Or.inl ⟨_, _, _, _, _, _, _, _, _, _, _, _, _, _, _, _, _, _, rfl, hK.n5 (Below.refl _ _)⟩
          | 6, _ =>
            as_aux_lemma =>
            cases hi
            simp [Region.binds] at hdep
            obtain rfl := hK.f5 (by first | exact hdep | exact hdep.1 | exact hdep.2 | exact hdep.2.1 | exact hdep.2.2 | exact hdep.2.2.1 | exact hdep.2.2.2 | exact hdep.2.2.2.1 | exact hdep.2.2.2.2)
            simp [wpOp, Region.wanted, yielded, Oper.wp, execOp, go_sem, Oper.upon, Act.eval, Act.put]
            exact Or.inl ⟨_, _, _, _, _, _, _, _, _, _, _, _, _, _, _, _, _, _, rfl, hK.n6 (Below.refl _ _)⟩
          | 7, _ =>
            as_aux_lemma =>
            cases hi
            simp [Region.binds] at hdep
            obtain rfl := hK.f6 (by first | exact hdep | exact hdep.1 | exact hdep.2 | exact hdep.2.1 | exact hdep.2.2 | exact hdep.2.2.1 | exact hdep.2.2.2 | exact hdep.2.2.2.1 | exact hdep.2.2.2.2)
            obtain rfl := hK.f5 (by first | exact hdep | exact hdep.1 | exact hdep.2 | exact hdep.2.1 | exact hdep.2.2 | exact hdep.2.2.1 | exact hdep.2.2.2 | exact hdep.2.2.2.1 | exact hdep.2.2.2.2)
            simp [wpOp, Region.wanted, yielded, Oper.wp, execOp, go_sem, Oper.upon, Act.eval, Act.put]
            exact Or.inl ⟨_, _, _, _, _, _, _, _, _, _, _, _, _, _, _, _, _, _, rfl, hK.n7 (Below.refl _ _)⟩
          | 8, _ =>
            as_aux_lemma =>
            cases hi
            simp [Region.binds] at hdep
            obtain rfl := hK.f7 (by first | exact hdep | exact hdep.1 | exact hdep.2 | exact hdep.2.1 | exact hdep.2.2 | exact hdep.2.2.1 | exact hdep.2.2.2 | exact hdep.2.2.2.1 | exact hdep.2.2.2.2)
            obtain rfl := hK.f5 (by first | exact hdep | exact hdep.1 | exact hdep.2 | exact hdep.2.1 | exact hdep.2.2 | exact hdep.2.2.1 | exact hdep.2.2.2 | exact hdep.2.2.2.1 | exact hdep.2.2.2.2)
            simp [wpOp, Region.wanted, yielded, Oper.wp, execOp, go_sem, Oper.upon, Act.eval, Act.put]
            exact Or.inl ⟨_, _, _, _, _, _, _, _, _, _, _, _, _, _, _, _, _, _, rfl, hK.n8 (Below.refl _ _)⟩
          | 9, _ =>
            as_aux_lemma =>
            cases hi
            simp [Region.binds] at hdep
            obtain rfl := hK.f8 (by first | exact hdep | exact hdep.1 | exact hdep.2 | exact hdep.2.1 | exact hdep.2.2 | exact hdep.2.2.1 | exact hdep.2.2.2 | exact hdep.2.2.2.1 | exact hdep.2.2.2.2)
            simp [wpOp, Region.wanted, yielded, go_sem, Act.put]
            exact ⟨_, _, _, _, _, _, _, _, _, _, _, _, _, _, _, _, _, _, rfl, hK.n9 (Below.refl _ _)⟩
          | 10, _ =>
            as_aux_lemma =>
            cases hi
            simp [Region.binds] at hdep
            obtain rfl := hK.f8 (by first | exact hdep | exact hdep.1 | exact hdep.2 | exact hdep.2.1 | exact hdep.2.2 | exact hdep.2.2.1 | exact hdep.2.2.2 | exact hdep.2.2.2.1 | exact hdep.2.2.2.2)
            simp [wpOp, Region.wanted, yielded, go_sem, Act.put]
            exact ⟨_, _, _, _, _, _, _, _, _, _, _, _, _, _, _, _, _, _, rfl, hK.n10 (Below.refl _ _)⟩
          | 11, _ =>
            as_aux_lemma =>
            cases hi
            simp [Region.binds] at hdep
            obtain rfl := hK.f8 (by first | exact hdep | exact hdep.1 | exact hdep.2 | exact hdep.2.1 | exact hdep.2.2 | exact hdep.2.2.1 | exact hdep.2.2.2 | exact hdep.2.2.2.1 | exact hdep.2.2.2.2)
            simp [wpOp, Region.wanted, yielded, go_sem, Act.put]
            exact ⟨_, _, _, _, _, _, _, _, _, _, _, _, _, _, _, _, _, _, rfl, hK.n11 (Below.refl _ _)⟩
          | 12, _ =>
            as_aux_lemma =>
            cases hi
            simp [Region.binds] at hdep
            obtain rfl := hK.f8 (by first | exact hdep | exact hdep.1 | exact hdep.2 | exact hdep.2.1 | exact hdep.2.2 | exact hdep.2.2.1 | exact hdep.2.2.2 | exact hdep.2.2.2.1 | exact hdep.2.2.2.2)
            simp [wpOp, Region.wanted, yielded, go_sem, Act.put]
            exact ⟨_, _, _, _, _, _, _, _, _, _, _, _, _, _, _, _, _, _, rfl, hK.n12 (Below.refl _ _)⟩
          | 13, _ =>
            as_aux_lemma =>
            cases hi
            simp [Region.binds] at hdep
            obtain rfl := hK.f8 (by first | exact hdep | exact hdep.1 | exact hdep.2 | exact hdep.2.1 | exact hdep.2.2 | exact hdep.2.2.1 | exact hdep.2.2.2 | exact hdep.2.2.2.1 | exact hdep.2.2.2.2)
            simp [wpOp, Region.wanted, yielded, go_sem, Act.put]
            exact ⟨_, _, _, _, _, _, _, _, _, _, _, _, _, _, _, _, _, _, rfl, hK.n13 (Below.refl _ _)⟩
          | 14, _ =>
            as_aux_lemma =>
            cases hi
            simp [Region.binds] at hdep
            obtain rfl := hK.f8 (by first | exact hdep | exact hdep.1 | exact hdep.2 | exact hdep.2.1 | exact hdep.2.2 | exact hdep.2.2.1 | exact hdep.2.2.2 | exact hdep.2.2.2.1 | exact hdep.2.2.2.2)
            simp [wpOp, Region.wanted, yielded, go_sem, Act.put]
            exact ⟨_, _, _, _, _, _, _, _, _, _, _, _, _, _, _, _, _, _, rfl, hK.n14 (Below.refl _ _)⟩
          | 15, _ =>
            as_aux_lemma =>
            cases hi
            simp [Region.binds] at hdep
            obtain rfl := hK.f8 (by first | exact hdep | exact hdep.1 | exact hdep.2 | exact hdep.2.1 | exact hdep.2.2 | exact hdep.2.2.1 | exact hdep.2.2.2 | exact hdep.2.2.2.1 | exact hdep.2.2.2.2)
            simp [wpOp, Region.wanted, yielded, go_sem, Act.put]
            exact ⟨_, _, _, _, _, _, _, _, _, _, _, _, _, _, _, _, _, _, rfl, hK.n15 (Below.refl _ _)⟩
          | 16, _ =>
            as_aux_lemma =>
            cases hi
            simp [Region.binds] at hdep
            obtain rfl := hK.f8 (by first | exact hdep | exact hdep.1 | exact hdep.2 | exact hdep.2.1 | exact hdep.2.2 | exact hdep.2.2.1 | exact hdep.2.2.2 | exact hdep.2.2.2.1 | exact hdep.2.2.2.2)
            obtain rfl := hK.f15 (by first | exact hdep | exact hdep.1 | exact hdep.2 | exact hdep.2.1 | exact hdep.2.2 | exact hdep.2.2.1 | exact hdep.2.2.2 | exact hdep.2.2.2.1 | exact hdep.2.2.2.2)
            obtain rfl := hK.f5 (by first | exact hdep | exact hdep.1 | exact hdep.2 | exact hdep.2.1 | exact hdep.2.2 | exact hdep.2.2.1 | exact hdep.2.2.2 | exact hdep.2.2.2.1 | exact hdep.2.2.2.2)
            simp [wpOp, Region.wanted, yielded, Oper.wp, execOp, go_sem, Oper.upon, Act.eval, Act.put]
            exact Or.inl ⟨_, _, _, _, _, _, _, _, _, _, _, _, _, _, _, _, _, _, rfl, hK.n16 (Below.refl _ _)⟩
          | 17, _ =>
            as_aux_lemma =>
            cases hi
            simp [Region.binds] at hdep
            obtain rfl := hK.f5 (by first | exact hdep | exact hdep.1 | exact hdep.2 | exact hdep.2.1 | exact hdep.2.2 | exact hdep.2.2.1 | exact hdep.2.2.2 | exact hdep.2.2.2.1 | exact hdep.2.2.2.2)
            obtain rfl := hK.f16 (by first | exact hdep | exact hdep.1 | exact hdep.2 | exact hdep.2.1 | exact hdep.2.2 | exact hdep.2.2.1 | exact hdep.2.2.2 | exact hdep.2.2.2.1 | exact hdep.2.2.2.2)
            simp [wpOp, Region.wanted, Oper.wp, execOp, go_sem, Oper.upon, Act.eval, Act.put]
            exact Or.inl ⟨_, _, _, _, _, _, _, _, _, _, _, _, _, _, _, _, _, _, rfl, hK.n17 (Below.refl _ _)⟩
        · intro D c w1 hI hall
          obtain ⟨t54, t55, t56, t57, t58, t59, t60, t61, t62, t63, t64, t65, t66, t67, t68, t69, t70, t71, rfl, hK⟩ := hI
          obtain rfl := hK.f17 (hall _ (by decide))
          go_wp2_with fail
          all_goals go_meet
          exact ⟨rfl, B8.out.trans (hK.bel.mono B8.out.size), V7d.out.on hK.bel⟩
      | false =>
        obtain rfl : k1 = 1 := hk1
        obtain rfl : i1 = wrap64 (a + b) := hi1
        refine wp_region_inv (by kernel_rfl) (R6fI (fun t54 t55 t56 t57 t58 t59 t60 t61 t62 t63 t64 t65 t66 t67 t68 t69 t70 t71 => #[.int .i64 a, .int .i64 b, undef, undef, .bool false, .pointer (some ⟨cs, 0, none⟩), .bool true, .pointer (some ⟨cd, 0, none⟩), .bool true, .bool false, undef, undef, undef, undef, u14, u15, u16, u17, u18, u19, u20, u21, u22, u23, u24, u25, u26, u27, u28, u29, u30, u31, u32, u33, u34, u35, u36, u37, u38, u39, u40, u41, u42, u43, u44, u45, u46, u47, u48, u49, u50, u51, u52, u53, t54, t55, t56, t57, t58, t59, t60, t61, t62, t63, t64, t65, t66, t67, t68, t69, t70, t71, u72, u73, u74, u75, u76, u77, u78, u79, u80, u81, u82, u83, u84, u85, u86, u87, u88, u89, u90, u91, u92, u93, u94, u95, u96, u97, u98, u99, u100, u101, u102, u103, u104, u105, u106, u107, u108, u109, u110, u111, u112, u113, u114, u115, u116, u117, u118, u119, u120, u121, u122, u123, u124, u125, u126, u127, u128, u129, u130, u131, u132, u133, u134, u135, u136, u137, u138, u139, u140, u141, u142, u143, u144, u145, u146, u147, u148, u149, u150, u151, u152, u153, u154, u155, u156, u157, u158, u159, u160, u161, u162, u163, u164, u165, u166, u167, u168, u169, u170, u171, u172, u173, u174, u175, u176, u177, u178, u179, u180, u181, u182, u183, u184, u185, u186, u187, u188, u189, u190, u191, u192, u193, u194, u195, u196, u197, u198, u199, u200, u201, u202, u203, u204]) wc a b (wrap64 (a + b))) ?_ (by kernel_rfl) ?_ ?_ ?_
        · rintro D D' c w1 hD ⟨t54, t55, t56, t57, t58, t59, t60, t61, t62, t63, t64, t65, t66, t67, t68, t69, t70, t71, h, hK⟩
          have e : D = D' := funext fun j => propext (hD j)
          subst e
          exact ⟨t54, t55, t56, t57, t58, t59, t60, t61, t62, t63, t64, t65, t66, t67, t68, t69, t70, t71, h, hK⟩
        · intro D hD
          exact ⟨_, _, _, _, _, _, _, _, _, _, _, _, _, _, _, _, _, _, rfl, (Below.refl _ _).drew, fun h => absurd h (hD _), fun h => absurd h (hD _), fun h => absurd h (hD _), fun h => absurd h (hD _), fun h => absurd h (hD _), fun h => absurd h (hD _), fun h => absurd h (hD _), fun h => absurd h (hD _), fun h => absurd h (hD _), fun h => absurd h (hD _), fun h => absurd h (hD _), fun h => absurd h (hD _), fun h => absurd h (hD _), fun h => absurd h (hD _), fun h => absurd h (hD _), fun h => absurd h (hD _), fun h => absurd h (hD _), fun h => absurd h (hD _)⟩
        · intro D c w1 hI j o hi hnd hdep
          obtain ⟨t54, t55, t56, t57, t58, t59, t60, t61, t62, t63, t64, t65, t66, t67, t68, t69, t70, t71, rfl, hK⟩ := hI
          have hlt : j < 18 := (Array.getElem?_eq_some_iff.1 hi).1
          match j, hlt with
          | 0, _ =>
            as_aux_lemma =>
            cases hi
            simp [wpOp, Region.wanted, Oper.wp, execOp, go_sem, Oper.upon, Act.eval, Act.put]
            exact Or.inl ⟨_, _, _, _, _, _, _, _, _, _, _, _, _, _, _, _, _, _, rfl, hK.n0 (Below.refl _ _)⟩
          | 1, _ =>
            as_aux_lemma =>
            cases hi
            obtain ⟨y0, y1, y2, y3, _⟩ := V7s.out.on hK.bel
            simp [wpOp, Region.wanted, Oper.wp, execOp, go_sem, Oper.upon, Act.eval, Act.put, y0, y1, y2, y3]
            exact Or.inl ⟨_, _, _, _, _, _, _, _, _, _, _, _, _, _, _, _, _, _, rfl, hK.n1 (Below.refl _ _)⟩
          | 2, _ =>
            as_aux_lemma =>
            cases hi
            simp [wpOp, Region.wanted, Oper.wp, execOp, go_sem, Oper.upon, Act.eval, Act.put]
            exact Or.inl ⟨_, _, _, _, _, _, _, _, _, _, _, _, _, _, _, _, _, _, rfl, hK.n2 (Below.refl _ _)⟩
          | 3, _ =>
            as_aux_lemma =>
            cases hi
            simp [Region.binds] at hdep
            obtain rfl := hK.f1 (by first | exact hdep | exact hdep.1 | exact hdep.2 | exact hdep.2.1 | exact hdep.2.2 | exact hdep.2.2.1 | exact hdep.2.2.2 | exact hdep.2.2.2.1 | exact hdep.2.2.2.2)
            obtain rfl := hK.f2 (by first | exact hdep | exact hdep.1 | exact hdep.2 | exact hdep.2.1 | exact hdep.2.2 | exact hdep.2.2.1 | exact hdep.2.2.2 | exact hdep.2.2.2.1 | exact hdep.2.2.2.2)
            simp [wpOp, Region.wanted, Oper.wp, go_sem, Oper.upon, Act.eval, Act.put]
            refine Or.inl ((same_f _ w1).mono ?_)
            rintro e w2 ⟨hb, rfl⟩
            exact ⟨_, _, _, _, _, _, _, _, _, _, _, _, _, _, _, _, _, _, rfl, hK.n3 hb⟩
          | 4, _ =>
            as_aux_lemma =>
            cases hi
            simp [Region.binds] at hdep
            obtain rfl := hK.f0 (by first | exact hdep | exact hdep.1 | exact hdep.2 | exact hdep.2.1 | exact hdep.2.2 | exact hdep.2.2.1 | exact hdep.2.2.2 | exact hdep.2.2.2.1 | exact hdep.2.2.2.2)
            obtain rfl := hK.f3 (by first | exact hdep | exact hdep.1 | exact hdep.2 | exact hdep.2.1 | exact hdep.2.2 | exact hdep.2.2.1 | exact hdep.2.2.2 | exact hdep.2.2.2.1 | exact hdep.2.2.2.2)
            simp [wpOp, Region.wanted, Oper.wp, execOp, go_sem, Oper.upon, Act.eval, Act.put]
            exact Or.inl ⟨_, _, _, _, _, _, _, _, _, _, _, _, _, _, _, _, _, _, rfl, hK.n4 (Below.refl _ _)⟩
          | 5, _ =>
            as_aux_lemma =>
            cases hi
            simp [Region.binds] at hdep
            obtain rfl := hK.f4 (by first | exact hdep | exact hdep.1 | exact hdep.2 | exact hdep.2.1 | exact hdep.2.2 | exact hdep.2.2.1 | exact hdep.2.2.2 | exact hdep.2.2.2.1 | exact hdep.2.2.2.2)
            simp [wpOp, Region.wanted, Oper.wp, execOp, go_sem, Oper.upon, Act.eval, Act.put]
            exact Or.inl ⟨_, _, _, _, _, _, _, _, _, _, _, _, _, _, _, _, _, _, rfl, hK.n5 (Below.refl _ _)⟩
          | 6, _ =>
            as_aux_lemma =>
            cases hi
            simp [Region.binds] at hdep
            obtain rfl := hK.f5 (by first | exact hdep | exact hdep.1 | exact hdep.2 | exact hdep.2.1 | exact hdep.2.2 | exact hdep.2.2.1 | exact hdep.2.2.2 | exact hdep.2.2.2.1 | exact hdep.2.2.2.2)
            simp [wpOp, Region.wanted, yielded, Oper.wp, execOp, go_sem, Oper.upon, Act.eval, Act.put]
            exact Or.inl ⟨_, _, _, _, _, _, _, _, _, _, _, _, _, _, _, _, _, _, rfl, hK.n6 (Below.refl _ _)⟩
          | 7, _ =>
            as_aux_lemma =>
            cases hi
            simp [Region.binds] at hdep
            obtain rfl := hK.f6 (by first | exact hdep | exact hdep.1 | exact hdep.2 | exact hdep.2.1 | exact hdep.2.2 | exact hdep.2.2.1 | exact hdep.2.2.2 | exact hdep.2.2.2.1 | exact hdep.2.2.2.2)
            obtain rfl := hK.f5 (by first | exact hdep | exact hdep.1 | exact hdep.2 | exact hdep.2.1 | exact hdep.2.2 | exact hdep.2.2.1 | exact hdep.2.2.2 | exact hdep.2.2.2.1 | exact hdep.2.2.2.2)
            simp [wpOp, Region.wanted, yielded, Oper.wp, execOp, go_sem, Oper.upon, Act.eval, Act.put]
            exact Or.inl ⟨_, _, _, _, _, _, _, _, _, _, _, _, _, _, _, _, _, _, rfl, hK.n7 (Below.refl _ _)⟩
          | 8, _ =>
            as_aux_lemma =>
            cases hi
            simp [Region.binds] at hdep
            obtain rfl := hK.f7 (by first | exact hdep | exact hdep.1 | exact hdep.2 | exact hdep.2.1 | exact hdep.2.2 | exact hdep.2.2.1 | exact hdep.2.2.2 | exact hdep.2.2.2.1 | exact hdep.2.2.2.2)
            obtain rfl := hK.f5 (by first | exact hdep | exact hdep.1 | exact hdep.2 | exact hdep.2.1 | exact hdep.2.2 | exact hdep.2.2.1 | exact hdep.2.2.2 | exact hdep.2.2.2.1 | exact hdep.2.2.2.2)
            simp [wpOp, Region.wanted, yielded, Oper.wp, execOp, go_sem, Oper.upon, Act.eval, Act.put]
            exact Or.inl ⟨_, _, _, _, _, _, _, _, _, _, _, _, _, _, _, _, _, _, rfl, hK.n8 (Below.refl _ _)⟩
          | 9, _ =>
            as_aux_lemma =>
            cases hi
            simp [Region.binds] at hdep
            obtain rfl := hK.f8 (by first | exact hdep | exact hdep.1 | exact hdep.2 | exact hdep.2.1 | exact hdep.2.2 | exact hdep.2.2.1 | exact hdep.2.2.2 | exact hdep.2.2.2.1 | exact hdep.2.2.2.2)
            obtain ⟨y0, y1, y2, y3, _⟩ := V7s.out.on hK.bel
            simp [wpOp, Region.wanted, yielded, Oper.wp, execOp, go_sem, Oper.upon, Act.eval, Act.put, y0, y1, y2, y3]
            exact Or.inl ⟨_, _, _, _, _, _, _, _, _, _, _, _, _, _, _, _, _, _, rfl, hK.n9 (Below.refl _ _)⟩
          | 10, _ =>
            as_aux_lemma =>
            cases hi
            simp [Region.binds] at hdep
            obtain rfl := hK.f8 (by first | exact hdep | exact hdep.1 | exact hdep.2 | exact hdep.2.1 | exact hdep.2.2 | exact hdep.2.2.1 | exact hdep.2.2.2 | exact hdep.2.2.2.1 | exact hdep.2.2.2.2)
            simp [wpOp, Region.wanted, yielded, Oper.wp, execOp, go_sem, Oper.upon, Act.eval, Act.put]
            exact Or.inl ⟨_, _, _, _, _, _, _, _, _, _, _, _, _, _, _, _, _, _, rfl, hK.n10 (Below.refl _ _)⟩
          | 11, _ =>
            as_aux_lemma =>
            cases hi
            simp [Region.binds] at hdep
            obtain rfl := hK.f8 (by first | exact hdep | exact hdep.1 | exact hdep.2 | exact hdep.2.1 | exact hdep.2.2 | exact hdep.2.2.1 | exact hdep.2.2.2 | exact hdep.2.2.2.1 | exact hdep.2.2.2.2)
            simp [wpOp, Region.wanted, yielded, Oper.wp, execOp, go_sem, Oper.upon, Act.eval, Act.put]
            exact Or.inl ⟨_, _, _, _, _, _, _, _, _, _, _, _, _, _, _, _, _, _, rfl, hK.n11 (Below.refl _ _)⟩
          | 12, _ =>
            as_aux_lemma =>
            cases hi
            simp [Region.binds] at hdep
            obtain rfl := hK.f10 (by first | exact hdep | exact hdep.1 | exact hdep.2 | exact hdep.2.1 | exact hdep.2.2 | exact hdep.2.2.1 | exact hdep.2.2.2 | exact hdep.2.2.2.1 | exact hdep.2.2.2.2)
            obtain rfl := hK.f11 (by first | exact hdep | exact hdep.1 | exact hdep.2 | exact hdep.2.1 | exact hdep.2.2 | exact hdep.2.2.1 | exact hdep.2.2.2 | exact hdep.2.2.2.1 | exact hdep.2.2.2.2)
            obtain rfl := hK.f8 (by first | exact hdep | exact hdep.1 | exact hdep.2 | exact hdep.2.1 | exact hdep.2.2 | exact hdep.2.2.1 | exact hdep.2.2.2 | exact hdep.2.2.2.1 | exact hdep.2.2.2.2)
            simp [wpOp, Region.wanted, yielded, Oper.wp, execOp, go_sem, Oper.upon, Act.eval, Act.put, wrapEq]
            exact Or.inl ⟨_, _, _, _, _, _, _, _, _, _, _, _, _, _, _, _, _, _, rfl, hK.n12 (Below.refl _ _)⟩
          | 13, _ =>
            as_aux_lemma =>
            cases hi
            simp [Region.binds] at hdep
            obtain rfl := hK.f12 (by first | exact hdep | exact hdep.1 | exact hdep.2 | exact hdep.2.1 | exact hdep.2.2 | exact hdep.2.2.1 | exact hdep.2.2.2 | exact hdep.2.2.2.1 | exact hdep.2.2.2.2)
            obtain rfl := hK.f8 (by first | exact hdep | exact hdep.1 | exact hdep.2 | exact hdep.2.1 | exact hdep.2.2 | exact hdep.2.2.1 | exact hdep.2.2.2 | exact hdep.2.2.2.1 | exact hdep.2.2.2.2)
            simp [wpOp, Region.wanted, yielded, Oper.wp, go_sem, Oper.upon, Act.eval, Act.put]
            refine Or.inl ((HN.out _ w1).mono ?_)
            rintro e w2 ⟨hb, rfl⟩
            exact ⟨_, _, _, _, _, _, _, _, _, _, _, _, _, _, _, _, _, _, rfl, hK.n13 hb⟩
          | 14, _ =>
            as_aux_lemma =>
            cases hi
            simp [Region.binds] at hdep
            obtain rfl := hK.f9 (by first | exact hdep | exact hdep.1 | exact hdep.2 | exact hdep.2.1 | exact hdep.2.2 | exact hdep.2.2.1 | exact hdep.2.2.2 | exact hdep.2.2.2.1 | exact hdep.2.2.2.2)
            obtain rfl := hK.f13 (by first | exact hdep | exact hdep.1 | exact hdep.2 | exact hdep.2.1 | exact hdep.2.2 | exact hdep.2.2.1 | exact hdep.2.2.2 | exact hdep.2.2.2.1 | exact hdep.2.2.2.2)
            obtain rfl := hK.f8 (by first | exact hdep | exact hdep.1 | exact hdep.2 | exact hdep.2.1 | exact hdep.2.2 | exact hdep.2.2.1 | exact hdep.2.2.2 | exact hdep.2.2.2.1 | exact hdep.2.2.2.2)
            simp [wpOp, Region.wanted, yielded, Oper.wp, go_sem, Oper.upon, Act.eval, Act.put]
            refine Or.inl ((same_t 1 _ w1).mono ?_)
            rintro e w2 ⟨hb, rfl⟩
            exact ⟨_, _, _, _, _, _, _, _, _, _, _, _, _, _, _, _, _, _, rfl, hK.n14 hb⟩
          | 15, _ =>
            as_aux_lemma =>
            cases hi
            simp [Region.binds] at hdep
            obtain rfl := hK.f14 (by first | exact hdep | exact hdep.1 | exact hdep.2 | exact hdep.2.1 | exact hdep.2.2 | exact hdep.2.2.1 | exact hdep.2.2.2 | exact hdep.2.2.2.1 | exact hdep.2.2.2.2)
            obtain rfl := hK.f8 (by first | exact hdep | exact hdep.1 | exact hdep.2 | exact hdep.2.1 | exact hdep.2.2 | exact hdep.2.2.1 | exact hdep.2.2.2 | exact hdep.2.2.2.1 | exact hdep.2.2.2.2)
            simp [wpOp, Region.wanted, yielded, Oper.wp, execOp, go_sem, Oper.upon, Act.eval, Act.put]
            exact Or.inl ⟨_, _, _, _, _, _, _, _, _, _, _, _, _, _, _, _, _, _, rfl, hK.n15 (Below.refl _ _)⟩
          | 16, _ =>
            as_aux_lemma =>
            cases hi
            simp [Region.binds] at hdep
            obtain rfl := hK.f8 (by first | exact hdep | exact hdep.1 | exact hdep.2 | exact hdep.2.1 | exact hdep.2.2 | exact hdep.2.2.1 | exact hdep.2.2.2 | exact hdep.2.2.2.1 | exact hdep.2.2.2.2)
            obtain rfl := hK.f15 (by first | exact hdep | exact hdep.1 | exact hdep.2 | exact hdep.2.1 | exact hdep.2.2 | exact hdep.2.2.1 | exact hdep.2.2.2 | exact hdep.2.2.2.1 | exact hdep.2.2.2.2)
            obtain rfl := hK.f5 (by first | exact hdep | exact hdep.1 | exact hdep.2 | exact hdep.2.1 | exact hdep.2.2 | exact hdep.2.2.1 | exact hdep.2.2.2 | exact hdep.2.2.2.1 | exact hdep.2.2.2.2)
            simp [wpOp, Region.wanted, yielded, Oper.wp, execOp, go_sem, Oper.upon, Act.eval, Act.put]
            exact Or.inl ⟨_, _, _, _, _, _, _, _, _, _, _, _, _, _, _, _, _, _, rfl, hK.n16 (Below.refl _ _)⟩
          | 17, _ =>
            as_aux_lemma =>
            cases hi
            simp [Region.binds] at hdep
            obtain rfl := hK.f5 (by first | exact hdep | exact hdep.1 | exact hdep.2 | exact hdep.2.1 | exact hdep.2.2 | exact hdep.2.2.1 | exact hdep.2.2.2 | exact hdep.2.2.2.1 | exact hdep.2.2.2.2)
            obtain rfl := hK.f16 (by first | exact hdep | exact hdep.1 | exact hdep.2 | exact hdep.2.1 | exact hdep.2.2 | exact hdep.2.2.1 | exact hdep.2.2.2 | exact hdep.2.2.2.1 | exact hdep.2.2.2.2)
            simp [wpOp, Region.wanted, Oper.wp, execOp, go_sem, Oper.upon, Act.eval, Act.put]
            exact Or.inl ⟨_, _, _, _, _, _, _, _, _, _, _, _, _, _, _, _, _, _, rfl, hK.n17 (Below.refl _ _)⟩
        · intro D c w1 hI hall
          obtain ⟨t54, t55, t56, t57, t58, t59, t60, t61, t62, t63, t64, t65, t66, t67, t68, t69, t70, t71, rfl, hK⟩ := hI
          obtain rfl := hK.f17 (hall _ (by decide))
          go_wp2_with fail
          all_goals go_meet
          exact ⟨rfl, B8.out.trans (hK.bel.mono B8.out.size), V7d.out.on hK.bel⟩
    case rest =>
      obtain ⟨rfl, hB9, hV9⟩ := hcut
      have B9 := hid hB9
      have V9 := hid hV9
      clear hB9 hV9 B8 V7s V7d
      go_upto_region 8 with fail
      go_cut [10] (fun s10 wx => s10 = .bool U ∧ wx = wc)
      case first =>
        as_aux_lemma =>
        go_wp2_with fail
        all_goals go_meet
        all_goals
          obtain ⟨⟨a1, a2⟩, b1, b2⟩ := HAB.out
          have hU := HUU.out
          unfold underB at hU
          refine ⟨congrArg Value.bool ?_, rfl⟩
          rw [hU]
          first
            | (symm; rw [decide_eq_true_eq]; unfold wrap64 at *; omega)
            | (symm; rw [decide_eq_false_iff_not]; unfold wrap64 at *; omega)
            | (rw [decide_eq_decide]; unfold wrap64 at *; omega)
      case rest =>
        obtain ⟨rfl, rfl⟩ := hcut
        go_upto_region 9 with fail
        go_cut [107] (fun s107 wx => s107 = .bool false ∧ Below w.heap.size w wx)
        case first =>
          as_aux_lemma =>
          obtain ⟨_, hk2, hi2⟩ := HK.out
          cases U with
          | true =>
            obtain rfl : k2 = 0 := hk2
            obtain rfl : i2 = 0 := hi2
            refine wp_region_inv (by kernel_rfl) (R9tI (fun t90 t91 t92 t93 t94 t95 t96 t97 t98 t99 t100 t101 t102 t103 t104 t105 t106 t107 => #[.int .i64 a, .int .i64 b, undef, undef, .bool false, .pointer (some ⟨cs, 0, none⟩), .bool true, .pointer (some ⟨cd, 0, none⟩), .bool true, .bool O, .bool true, undef, undef, undef, u14, u15, u16, u17, u18, u19, u20, u21, u22, u23, u24, u25, u26, u27, u28, u29, u30, u31, u32, u33, u34, u35, u36, u37, u38, u39, u40, u41, u42, u43, u44, u45, u46, u47, u48, u49, u50, u51, u52, u53, u54, u55, u56, u57, u58, u59, u60, u61, u62, u63, u64, u65, u66, u67, u68, u69, u70, u71, u72, u73, u74, u75, u76, u77, u78, u79, u80, u81, u82, u83, u84, u85, u86, u87, u88, u89, t90, t91, t92, t93, t94, t95, t96, t97, t98, t99, t100, t101, t102, t103, t104, t105, t106, t107, u108, u109, u110, u111, u112, u113, u114, u115, u116, u117, u118, u119, u120, u121, u122, u123, u124, u125, u126, u127, u128, u129, u130, u131, u132, u133, u134, u135, u136, u137, u138, u139, u140, u141, u142, u143, u144, u145, u146, u147, u148, u149, u150, u151, u152, u153, u154, u155, u156, u157, u158, u159, u160, u161, u162, u163, u164, u165, u166, u167, u168, u169, u170, u171, u172, u173, u174, u175, u176, u177, u178, u179, u180, u181, u182, u183, u184, u185, u186, u187, u188, u189, u190, u191, u192, u193, u194, u195, u196, u197, u198, u199, u200, u201, u202, u203, u204]) wc a b 0) ?_ (by kernel_rfl) ?_ ?_ ?_
            · rintro D D' c w1 hD ⟨t90, t91, t92, t93, t94, t95, t96, t97, t98, t99, t100, t101, t102, t103, t104, t105, t106, t107, h, hK⟩
              have e : D = D' := funext fun j => propext (hD j)
              subst e
              exact ⟨t90, t91, t92, t93, t94, t95, t96, t97, t98, t99, t100, t101, t102, t103, t104, t105, t106, t107, h, hK⟩
            · intro D hD
              exact ⟨_, _, _, _, _, _, _, _, _, _, _, _, _, _, _, _, _, _, rfl, (Below.refl _ _).drew, fun h => absurd h (hD _), fun h => absurd h (hD _), fun h => absurd h (hD _), fun h => absurd h (hD _), fun h => absurd h (hD _), fun h => absurd h (hD _), fun h => absurd h (hD _), fun h => absurd h (hD _), fun h => absurd h (hD _), fun h => absurd h (hD _), fun h => absurd h (hD _), fun h => absurd h (hD _), fun h => absurd h (hD _), fun h => absurd h (hD _), fun h => absurd h (hD _), fun h => absurd h (hD _), fun h => absurd h (hD _), fun h => absurd h (hD _)⟩
            · intro D c w1 hI j o hi hnd hdep
              obtain ⟨t90, t91, t92, t93, t94, t95, t96, t97, t98, t99, t100, t101, t102, t103, t104, t105, t106, t107, rfl, hK⟩ := hI
              have hlt : j < 18 := (Array.getElem?_eq_some_iff.1 hi).1
              match j, hlt with
              | 0, _ =>
                as_aux_lemma =>
                cases hi
                simp [wpOp, Region.wanted, Oper.wp, execOp, go_sem, Oper.upon, Act.eval, Act.put]
                exact Or.inl ⟨_, _, _, _, _, _, _, _, _, _, _, _, _, _, _, _, _, _, rfl, hK.n0 (Below.refl _ _)⟩
              | 1, _ =>
                as_aux_lemma =>
                cases hi
                obtain ⟨y0, y1, y2, y3, _⟩ := V9.out.on hK.bel
                simp [wpOp, Region.wanted, Oper.wp, execOp, go_sem, Oper.upon, Act.eval, Act.put, y0, y1, y2, y3]
                exact Or.inl ⟨_, _, _, _, _, _, _, _, _, _, _, _, _, _, _, _, _, _, rfl, hK.n1 (Below.refl _ _)⟩
              | 2, _ =>
                as_aux_lemma =>
                cases hi
                simp [wpOp, Region.wanted, Oper.wp, execOp, go_sem, Oper.upon, Act.eval, Act.put]
                exact Or.inl ⟨_, _, _, _, _, _, _, _, _, _, _, _, _, _, _, _, _, _, rfl, hK.n2 (Below.refl _ _)⟩
              | 3, _ =>
                as_aux_lemma =>
                cases hi
                simp [Region.binds] at hdep
                obtain rfl := hK.f1 (by first | exact hdep | exact hdep.1 | exact hdep.2 | exact hdep.2.1 | exact hdep.2.2 | exact hdep.2.2.1 | exact hdep.2.2.2 | exact hdep.2.2.2.1 | exact hdep.2.2.2.2)
                obtain rfl := hK.f2 (by first | exact hdep | exact hdep.1 | exact hdep.2 | exact hdep.2.1 | exact hdep.2.2 | exact hdep.2.2.1 | exact hdep.2.2.2 | exact hdep.2.2.2.1 | exact hdep.2.2.2.2)
                simp [wpOp, Region.wanted, Oper.wp, go_sem, Oper.upon, Act.eval, Act.put]
                refine Or.inl ((same_t 0 0 w1).mono ?_)
                rintro e w2 ⟨hb, rfl⟩
                exact ⟨_, _, _, _, _, _, _, _, _, _, _, _, _, _, _, _, _, _, rfl, hK.n3 hb⟩
              | 4, _ =>
                as_aux_lemma =>
                cases hi
                simp [Region.binds] at hdep
                obtain rfl := hK.f0 (by first | exact hdep | exact hdep.1 | exact hdep.2 | exact hdep.2.1 | exact hdep.2.2 | exact hdep.2.2.1 | exact hdep.2.2.2 | exact hdep.2.2.2.1 | exact hdep.2.2.2.2)
                obtain rfl := hK.f3 (by first | exact hdep | exact hdep.1 | exact hdep.2 | exact hdep.2.1 | exact hdep.2.2 | exact hdep.2.2.1 | exact hdep.2.2.2 | exact hdep.2.2.2.1 | exact hdep.2.2.2.2)
                simp [wpOp, Region.wanted, Oper.wp, execOp, go_sem, Oper.upon, Act.eval, Act.put]
                exact Or.inl ⟨_, _, _, _, _, _, _, _, _, _, _, _, _, _, _, _, _, _, rfl, hK.n4 (Below.refl _ _)⟩
              | 5, _ =>
                as_aux_lemma =>
                cases hi
                simp [Region.binds] at hdep
                obtain rfl := hK.f4 (by first | exact hdep | exact hdep.1 | exact hdep.2 | exact hdep.2.1 | exact hdep.2.2 | exact hdep.2.2.1 | exact hdep.2.2.2 | exact hdep.2.2.2.1 | exact hdep.2.2.2.2)
                simp [wpOp, Region.wanted, Oper.wp, execOp, go_sem, Oper.upon, Act.eval, Act.put]
                exact Or.inl ⟨_, _, _, _, _, _, _, _, _, _, _, _, _, _, _, _, _, _, rfl, hK.n5 (Below.refl _ _)⟩
              | 6, _ =>
                as_aux_lemma =>
                cases hi
                simp [Region.binds] at hdep
                obtain rfl := hK.f5 (by first | exact hdep | exact hdep.1 | exact hdep.2 | exact hdep.2.1 | exact hdep.2.2 | exact hdep.2.2.1 | exact hdep.2.2.2 | exact hdep.2.2.2.1 | exact hdep.2.2.2.2)
                simp [wpOp, Region.wanted, yielded, Oper.wp, execOp, go_sem, Oper.upon, Act.eval, Act.put]
                exact Or.inl ⟨_, _, _, _, _, _, _, _, _, _, _, _, _, _, _, _, _, _, rfl, hK.n6 (Below.refl _ _)⟩
              | 7, _ =>
                as_aux_lemma =>
                cases hi
                simp [Region.binds] at hdep
                obtain rfl := hK.f6 (by first | exact hdep | exact hdep.1 | exact hdep.2 | exact hdep.2.1 | exact hdep.2.2 | exact hdep.2.2.1 | exact hdep.2.2.2 | exact hdep.2.2.2.1 | exact hdep.2.2.2.2)
                obtain rfl := hK.f5 (by first | exact hdep | exact hdep.1 | exact hdep.2 | exact hdep.2.1 | exact hdep.2.2 | exact hdep.2.2.1 | exact hdep.2.2.2 | exact hdep.2.2.2.1 | exact hdep.2.2.2.2)
                simp [wpOp, Region.wanted, yielded, Oper.wp, execOp, go_sem, Oper.upon, Act.eval, Act.put]
                exact Or.inl ⟨_, _, _, _, _, _, _, _, _, _, _, _, _, _, _, _, _, _, rfl, hK.n7 (Below.refl _ _)⟩
              | 8, _ =>
                as_aux_lemma =>
                cases hi
                simp [Region.binds] at hdep
                obtain rfl := hK.f7 (by first | exact hdep | exact hdep.1 | exact hdep.2 | exact hdep.2.1 | exact hdep.2.2 | exact hdep.2.2.1 | exact hdep.2.2.2 | exact hdep.2.2.2.1 | exact hdep.2.2.2.2)
                obtain rfl := hK.f5 (by first | exact hdep | exact hdep.1 | exact hdep.2 | exact hdep.2.1 | exact hdep.2.2 | exact hdep.2.2.1 | exact hdep.2.2.2 | exact hdep.2.2.2.1 | exact hdep.2.2.2.2)
                simp [wpOp, Region.wanted, yielded, Oper.wp, execOp, go_sem, Oper.upon, Act.eval, Act.put]
                exact Or.inl ⟨_, _, _, _, _, _, _, _, _, _, _, _, _, _, _, _, _, _, rfl, hK.n8 (Below.refl _ _)⟩
              | 9, _ =>
                as_aux_lemma =>
                cases hi
                simp [Region.binds] at hdep
                obtain rfl := hK.f8 (by first | exact hdep | exact hdep.1 | exact hdep.2 | exact hdep.2.1 | exact hdep.2.2 | exact hdep.2.2.1 | exact hdep.2.2.2 | exact hdep.2.2.2.1 | exact hdep.2.2.2.2)
                simp [wpOp, Region.wanted, yielded, go_sem, Act.put]
                exact ⟨_, _, _, _, _, _, _, _, _, _, _, _, _, _, _, _, _, _, rfl, hK.n9 (Below.refl _ _)⟩
              | 10, _ =>
                as_aux_lemma =>
                cases hi
                simp [Region.binds] at hdep
                obtain rfl := hK.f8 (by first | exact hdep | exact hdep.1 | exact hdep.2 | exact hdep.2.1 | exact hdep.2.2 | exact hdep.2.2.1 | exact hdep.2.2.2 | exact hdep.2.2.2.1 | exact hdep.2.2.2.2)
                simp [wpOp, Region.wanted, yielded, go_sem, Act.put]
                exact ⟨_, _, _, _, _, _, _, _, _, _, _, _, _, _, _, _, _, _, rfl, hK.n10 (Below.refl _ _)⟩
              | 11, _ =>
                as_aux_lemma =>
                cases hi
                simp [Region.binds] at hdep
                obtain rfl := hK.f8 (by first | exact hdep | exact hdep.1 | exact hdep.2 | exact hdep.2.1 | exact hdep.2.2 | exact hdep.2.2.1 | exact hdep.2.2.2 | exact hdep.2.2.2.1 | exact hdep.2.2.2.2)
                simp [wpOp, Region.wanted, yielded, go_sem, Act.put]
                exact ⟨_, _, _, _, _, _, _, _, _, _, _, _, _, _, _, _, _, _, rfl, hK.n11 (Below.refl _ _)⟩
              | 12, _ =>
                as_aux_lemma =>
                cases hi
                simp [Region.binds] at hdep
                obtain rfl := hK.f8 (by first | exact hdep | exact hdep.1 | exact hdep.2 | exact hdep.2.1 | exact hdep.2.2 | exact hdep.2.2.1 | exact hdep.2.2.2 | exact hdep.2.2.2.1 | exact hdep.2.2.2.2)
                simp [wpOp, Region.wanted, yielded, go_sem, Act.put]
                exact ⟨_, _, _, _, _, _, _, _, _, _, _, _, _, _, _, _, _, _, rfl, hK.n12 (Below.refl _ _)⟩
              | 13, _ =>
                as_aux_lemma =>
                cases hi
                simp [Region.binds] at hdep
                obtain rfl := hK.f8 (by first | exact hdep | exact hdep.1 | exact hdep.2 | exact hdep.2.1 | exact hdep.2.2 | exact hdep.2.2.1 | exact hdep.2.2.2 | exact hdep.2.2.2.1 | exact hdep.2.2.2.2)
                simp [wpOp, Region.wanted, yielded, go_sem, Act.put]
                exact ⟨_, _, _, _, _, _, _, _, _, _, _, _, _, _, _, _, _, _, rfl, hK.n13 (Below.refl _ _)⟩
              | 14, _ =>
                as_aux_lemma =>
                cases hi
                simp [Region.binds] at hdep
                obtain rfl := hK.f8 (by first | exact hdep | exact hdep.1 | exact hdep.2 | exact hdep.2.1 | exact hdep.2.2 | exact hdep.2.2.1 | exact hdep.2.2.2 | exact hdep.2.2.2.1 | exact hdep.2.2.2.2)
                simp [wpOp, Region.wanted, yielded, go_sem, Act.put]
                exact ⟨_, _, _, _, _, _, _, _, _, _, _, _, _, _, _, _, _, _, rfl, hK.n14 (Below.refl _ _)⟩
              | 15, _ =>
                as_aux_lemma =>
                cases hi
                simp [Region.binds] at hdep
                obtain rfl := hK.f8 (by first | exact hdep | exact hdep.1 | exact hdep.2 | exact hdep.2.1 | exact hdep.2.2 | exact hdep.2.2.1 | exact hdep.2.2.2 | exact hdep.2.2.2.1 | exact hdep.2.2.2.2)
                simp [wpOp, Region.wanted, yielded, go_sem, Act.put]
                exact ⟨_, _, _, _, _, _, _, _, _, _, _, _, _, _, _, _, _, _, rfl, hK.n15 (Below.refl _ _)⟩
              | 16, _ =>
                as_aux_lemma =>
                cases hi
                simp [Region.binds] at hdep
                obtain rfl := hK.f8 (by first | exact hdep | exact hdep.1 | exact hdep.2 | exact hdep.2.1 | exact hdep.2.2 | exact hdep.2.2.1 | exact hdep.2.2.2 | exact hdep.2.2.2.1 | exact hdep.2.2.2.2)
                obtain rfl := hK.f15 (by first | exact hdep | exact hdep.1 | exact hdep.2 | exact hdep.2.1 | exact hdep.2.2 | exact hdep.2.2.1 | exact hdep.2.2.2 | exact hdep.2.2.2.1 | exact hdep.2.2.2.2)
                obtain rfl := hK.f5 (by first | exact hdep | exact hdep.1 | exact hdep.2 | exact hdep.2.1 | exact hdep.2.2 | exact hdep.2.2.1 | exact hdep.2.2.2 | exact hdep.2.2.2.1 | exact hdep.2.2.2.2)
                simp [wpOp, Region.wanted, yielded, Oper.wp, execOp, go_sem, Oper.upon, Act.eval, Act.put]
                exact Or.inl ⟨_, _, _, _, _, _, _, _, _, _, _, _, _, _, _, _, _, _, rfl, hK.n16 (Below.refl _ _)⟩
              | 17, _ =>
                as_aux_lemma =>
                cases hi
                simp [Region.binds] at hdep
                obtain rfl := hK.f5 (by first | exact hdep | exact hdep.1 | exact hdep.2 | exact hdep.2.1 | exact hdep.2.2 | exact hdep.2.2.1 | exact hdep.2.2.2 | exact hdep.2.2.2.1 | exact hdep.2.2.2.2)
                obtain rfl := hK.f16 (by first | exact hdep | exact hdep.1 | exact hdep.2 | exact hdep.2.1 | exact hdep.2.2 | exact hdep.2.2.1 | exact hdep.2.2.2 | exact hdep.2.2.2.1 | exact hdep.2.2.2.2)
                simp [wpOp, Region.wanted, Oper.wp, execOp, go_sem, Oper.upon, Act.eval, Act.put]
                exact Or.inl ⟨_, _, _, _, _, _, _, _, _, _, _, _, _, _, _, _, _, _, rfl, hK.n17 (Below.refl _ _)⟩
            · intro D c w1 hI hall
              obtain ⟨t90, t91, t92, t93, t94, t95, t96, t97, t98, t99, t100, t101, t102, t103, t104, t105, t106, t107, rfl, hK⟩ := hI
              obtain rfl := hK.f17 (hall _ (by decide))
              go_wp2_with fail
              all_goals go_meet
              exact ⟨rfl, B9.out.trans (hK.bel.mono B9.out.size)⟩
          | false =>
            obtain rfl : k2 = 1 := hk2
            obtain rfl : i2 = wrap64 (a - b) := hi2
            refine wp_region_inv (by kernel_rfl) (R9fI (fun t90 t91 t92 t93 t94 t95 t96 t97 t98 t99 t100 t101 t102 t103 t104 t105 t106 t107 => #[.int .i64 a, .int .i64 b, undef, undef, .bool false, .pointer (some ⟨cs, 0, none⟩), .bool true, .pointer (some ⟨cd, 0, none⟩), .bool true, .bool O, .bool false, undef, undef, undef, u14, u15, u16, u17, u18, u19, u20, u21, u22, u23, u24, u25, u26, u27, u28, u29, u30, u31, u32, u33, u34, u35, u36, u37, u38, u39, u40, u41, u42, u43, u44, u45, u46, u47, u48, u49, u50, u51, u52, u53, u54, u55, u56, u57, u58, u59, u60, u61, u62, u63, u64, u65, u66, u67, u68, u69, u70, u71, u72, u73, u74, u75, u76, u77, u78, u79, u80, u81, u82, u83, u84, u85, u86, u87, u88, u89, t90, t91, t92, t93, t94, t95, t96, t97, t98, t99, t100, t101, t102, t103, t104, t105, t106, t107, u108, u109, u110, u111, u112, u113, u114, u115, u116, u117, u118, u119, u120, u121, u122, u123, u124, u125, u126, u127, u128, u129, u130, u131, u132, u133, u134, u135, u136, u137, u138, u139, u140, u141, u142, u143, u144, u145, u146, u147, u148, u149, u150, u151, u152, u153, u154, u155, u156, u157, u158, u159, u160, u161, u162, u163, u164, u165, u166, u167, u168, u169, u170, u171, u172, u173, u174, u175, u176, u177, u178, u179, u180, u181, u182, u183, u184, u185, u186, u187, u188, u189, u190, u191, u192, u193, u194, u195, u196, u197, u198, u199, u200, u201, u202, u203, u204]) wc a b (wrap64 (a - b))) ?_ (by kernel_rfl) ?_ ?_ ?_
            · rintro D D' c w1 hD ⟨t90, t91, t92, t93, t94, t95, t96, t97, t98, t99, t100, t101, t102, t103, t104, t105, t106, t107, h, hK⟩
              have e : D = D' := funext fun j => propext (hD j)
              subst e
              exact ⟨t90, t91, t92, t93, t94, t95, t96, t97, t98, t99, t100, t101, t102, t103, t104, t105, t106, t107, h, hK⟩
            · intro D hD
              exact ⟨_, _, _, _, _, _, _, _, _, _, _, _, _, _, _, _, _, _, rfl, (Below.refl _ _).drew, fun h => absurd h (hD _), fun h => absurd h (hD _), fun h => absurd h (hD _), fun h => absurd h (hD _), fun h => absurd h (hD _), fun h => absurd h (hD _), fun h => absurd h (hD _), fun h => absurd h (hD _), fun h => absurd h (hD _), fun h => absurd h (hD _), fun h => absurd h (hD _), fun h => absurd h (hD _), fun h => absurd h (hD _), fun h => absurd h (hD _), fun h => absurd h (hD _), fun h => absurd h (hD _), fun h => absurd h (hD _), fun h => absurd h (hD _)⟩
            · intro D c w1 hI j o hi hnd hdep
              obtain ⟨t90, t91, t92, t93, t94, t95, t96, t97, t98, t99, t100, t101, t102, t103, t104, t105, t106, t107, rfl, hK⟩ := hI
              have hlt : j < 18 := (Array.getElem?_eq_some_iff.1 hi).1
              match j, hlt with
              | 0, _ =>
                as_aux_lemma =>
                cases hi
                simp [wpOp, Region.wanted, Oper.wp, execOp, go_sem, Oper.upon, Act.eval, Act.put]
                exact Or.inl ⟨_, _, _, _, _, _, _, _, _, _, _, _, _, _, _, _, _, _, rfl, hK.n0 (Below.refl _ _)⟩
              | 1, _ =>
                as_aux_lemma =>
                cases hi
                obtain ⟨y0, y1, y2, y3, _⟩ := V9.out.on hK.bel
                simp [wpOp, Region.wanted, Oper.wp, execOp, go_sem, Oper.upon, Act.eval, Act.put, y0, y1, y2, y3]
                exact Or.inl ⟨_, _, _, _, _, _, _, _, _, _, _, _, _, _, _, _, _, _, rfl, hK.n1 (Below.refl _ _)⟩
              | 2, _ =>
                as_aux_lemma =>
                cases hi
                simp [wpOp, Region.wanted, Oper.wp, execOp, go_sem, Oper.upon, Act.eval, Act.put]
                exact Or.inl ⟨_, _, _, _, _, _, _, _, _, _, _, _, _, _, _, _, _, _, rfl, hK.n2 (Below.refl _ _)⟩
              | 3, _ =>
                as_aux_lemma =>
                cases hi
                simp [Region.binds] at hdep
                obtain rfl := hK.f1 (by first | exact hdep | exact hdep.1 | exact hdep.2 | exact hdep.2.1 | exact hdep.2.2 | exact hdep.2.2.1 | exact hdep.2.2.2 | exact hdep.2.2.2.1 | exact hdep.2.2.2.2)
                obtain rfl := hK.f2 (by first | exact hdep | exact hdep.1 | exact hdep.2 | exact hdep.2.1 | exact hdep.2.2 | exact hdep.2.2.1 | exact hdep.2.2.2 | exact hdep.2.2.2.1 | exact hdep.2.2.2.2)
                simp [wpOp, Region.wanted, Oper.wp, go_sem, Oper.upon, Act.eval, Act.put]
                refine Or.inl ((same_f _ w1).mono ?_)
                rintro e w2 ⟨hb, rfl⟩
                exact ⟨_, _, _, _, _, _, _, _, _, _, _, _, _, _, _, _, _, _, rfl, hK.n3 hb⟩
              | 4, _ =>
                as_aux_lemma =>
                cases hi
                simp [Region.binds] at hdep
                obtain rfl := hK.f0 (by first | exact hdep | exact hdep.1 | exact hdep.2 | exact hdep.2.1 | exact hdep.2.2 | exact hdep.2.2.1 | exact hdep.2.2.2 | exact hdep.2.2.2.1 | exact hdep.2.2.2.2)
                obtain rfl := hK.f3 (by first | exact hdep | exact hdep.1 | exact hdep.2 | exact hdep.2.1 | exact hdep.2.2 | exact hdep.2.2.1 | exact hdep.2.2.2 | exact hdep.2.2.2.1 | exact hdep.2.2.2.2)
                simp [wpOp, Region.wanted, Oper.wp, execOp, go_sem, Oper.upon, Act.eval, Act.put]
                exact Or.inl ⟨_, _, _, _, _, _, _, _, _, _, _, _, _, _, _, _, _, _, rfl, hK.n4 (Below.refl _ _)⟩
              | 5, _ =>
                as_aux_lemma =>
                cases hi
                simp [Region.binds] at hdep
                obtain rfl := hK.f4 (by first | exact hdep | exact hdep.1 | exact hdep.2 | exact hdep.2.1 | exact hdep.2.2 | exact hdep.2.2.1 | exact hdep.2.2.2 | exact hdep.2.2.2.1 | exact hdep.2.2.2.2)
                simp [wpOp, Region.wanted, Oper.wp, execOp, go_sem, Oper.upon, Act.eval, Act.put]
                exact Or.inl ⟨_, _, _, _, _, _, _, _, _, _, _, _, _, _, _, _, _, _, rfl, hK.n5 (Below.refl _ _)⟩
              | 6, _ =>
                as_aux_lemma =>
                cases hi
                simp [Region.binds] at hdep
                obtain rfl := hK.f5 (by first | exact hdep | exact hdep.1 | exact hdep.2 | exact hdep.2.1 | exact hdep.2.2 | exact hdep.2.2.1 | exact hdep.2.2.2 | exact hdep.2.2.2.1 | exact hdep.2.2.2.2)
                simp [wpOp, Region.wanted, yielded, Oper.wp, execOp, go_sem, Oper.upon, Act.eval, Act.put]
                exact Or.inl ⟨_, _, _, _, _, _, _, _, _, _, _, _, _, _, _, _, _, _, rfl, hK.n6 (Below.refl _ _)⟩
              | 7, _ =>
                as_aux_lemma =>
                cases hi
                simp [Region.binds] at hdep
                obtain rfl := hK.f6 (by first | exact hdep | exact hdep.1 | exact hdep.2 | exact hdep.2.1 | exact hdep.2.2 | exact hdep.2.2.1 | exact hdep.2.2.2 | exact hdep.2.2.2.1 | exact hdep.2.2.2.2)
                obtain rfl := hK.f5 (by first | exact hdep | exact hdep.1 | exact hdep.2 | exact hdep.2.1 | exact hdep.2.2 | exact hdep.2.2.1 | exact hdep.2.2.2 | exact hdep.2.2.2.1 | exact hdep.2.2.2.2)
                simp [wpOp, Region.wanted, yielded, Oper.wp, execOp, go_sem, Oper.upon, Act.eval, Act.put]
                exact Or.inl ⟨_, _, _, _, _, _, _, _, _, _, _, _, _, _, _, _, _, _, rfl, hK.n7 (Below.refl _ _)⟩
              | 8, _ =>
                as_aux_lemma =>
                cases hi
                simp [Region.binds] at hdep
                obtain rfl := hK.f7 (by first | exact hdep | exact hdep.1 | exact hdep.2 | exact hdep.2.1 | exact hdep.2.2 | exact hdep.2.2.1 | exact hdep.2.2.2 | exact hdep.2.2.2.1 | exact hdep.2.2.2.2)
                obtain rfl := hK.f5 (by first | exact hdep | exact hdep.1 | exact hdep.2 | exact hdep.2.1 | exact hdep.2.2 | exact hdep.2.2.1 | exact hdep.2.2.2 | exact hdep.2.2.2.1 | exact hdep.2.2.2.2)
                simp [wpOp, Region.wanted, yielded, Oper.wp, execOp, go_sem, Oper.upon, Act.eval, Act.put]
                exact Or.inl ⟨_, _, _, _, _, _, _, _, _, _, _, _, _, _, _, _, _, _, rfl, hK.n8 (Below.refl _ _)⟩
              | 9, _ =>
                as_aux_lemma =>
                cases hi
                simp [Region.binds] at hdep
                obtain rfl := hK.f8 (by first | exact hdep | exact hdep.1 | exact hdep.2 | exact hdep.2.1 | exact hdep.2.2 | exact hdep.2.2.1 | exact hdep.2.2.2 | exact hdep.2.2.2.1 | exact hdep.2.2.2.2)
                obtain ⟨y0, y1, y2, y3, _⟩ := V9.out.on hK.bel
                simp [wpOp, Region.wanted, yielded, Oper.wp, execOp, go_sem, Oper.upon, Act.eval, Act.put, y0, y1, y2, y3]
                exact Or.inl ⟨_, _, _, _, _, _, _, _, _, _, _, _, _, _, _, _, _, _, rfl, hK.n9 (Below.refl _ _)⟩
              | 10, _ =>
                as_aux_lemma =>
                cases hi
                simp [Region.binds] at hdep
                obtain rfl := hK.f8 (by first | exact hdep | exact hdep.1 | exact hdep.2 | exact hdep.2.1 | exact hdep.2.2 | exact hdep.2.2.1 | exact hdep.2.2.2 | exact hdep.2.2.2.1 | exact hdep.2.2.2.2)
                simp [wpOp, Region.wanted, yielded, Oper.wp, execOp, go_sem, Oper.upon, Act.eval, Act.put]
                exact Or.inl ⟨_, _, _, _, _, _, _, _, _, _, _, _, _, _, _, _, _, _, rfl, hK.n10 (Below.refl _ _)⟩
              | 11, _ =>
                as_aux_lemma =>
                cases hi
                simp [Region.binds] at hdep
                obtain rfl := hK.f8 (by first | exact hdep | exact hdep.1 | exact hdep.2 | exact hdep.2.1 | exact hdep.2.2 | exact hdep.2.2.1 | exact hdep.2.2.2 | exact hdep.2.2.2.1 | exact hdep.2.2.2.2)
                simp [wpOp, Region.wanted, yielded, Oper.wp, execOp, go_sem, Oper.upon, Act.eval, Act.put]
                exact Or.inl ⟨_, _, _, _, _, _, _, _, _, _, _, _, _, _, _, _, _, _, rfl, hK.n11 (Below.refl _ _)⟩
              | 12, _ =>
                as_aux_lemma =>
                cases hi
                simp [Region.binds] at hdep
                obtain rfl := hK.f10 (by first | exact hdep | exact hdep.1 | exact hdep.2 | exact hdep.2.1 | exact hdep.2.2 | exact hdep.2.2.1 | exact hdep.2.2.2 | exact hdep.2.2.2.1 | exact hdep.2.2.2.2)
                obtain rfl := hK.f11 (by first | exact hdep | exact hdep.1 | exact hdep.2 | exact hdep.2.1 | exact hdep.2.2 | exact hdep.2.2.1 | exact hdep.2.2.2 | exact hdep.2.2.2.1 | exact hdep.2.2.2.2)
                obtain rfl := hK.f8 (by first | exact hdep | exact hdep.1 | exact hdep.2 | exact hdep.2.1 | exact hdep.2.2 | exact hdep.2.2.1 | exact hdep.2.2.2 | exact hdep.2.2.2.1 | exact hdep.2.2.2.2)
                simp [wpOp, Region.wanted, yielded, Oper.wp, execOp, go_sem, Oper.upon, Act.eval, Act.put, wrapEq]
                exact Or.inl ⟨_, _, _, _, _, _, _, _, _, _, _, _, _, _, _, _, _, _, rfl, hK.n12 (Below.refl _ _)⟩
              | 13, _ =>
                as_aux_lemma =>
                cases hi
                simp [Region.binds] at hdep
                obtain rfl := hK.f12 (by first | exact hdep | exact hdep.1 | exact hdep.2 | exact hdep.2.1 | exact hdep.2.2 | exact hdep.2.2.1 | exact hdep.2.2.2 | exact hdep.2.2.2.1 | exact hdep.2.2.2.2)
                obtain rfl := hK.f8 (by first | exact hdep | exact hdep.1 | exact hdep.2 | exact hdep.2.1 | exact hdep.2.2 | exact hdep.2.2.1 | exact hdep.2.2.2 | exact hdep.2.2.2.1 | exact hdep.2.2.2.2)
                simp [wpOp, Region.wanted, yielded, Oper.wp, go_sem, Oper.upon, Act.eval, Act.put]
                refine Or.inl ((HN.out _ w1).mono ?_)
                rintro e w2 ⟨hb, rfl⟩
                exact ⟨_, _, _, _, _, _, _, _, _, _, _, _, _, _, _, _, _, _, rfl, hK.n13 hb⟩
              | 14, _ =>
                as_aux_lemma =>
                cases hi
                simp [Region.binds] at hdep
                obtain rfl := hK.f9 (by first | exact hdep | exact hdep.1 | exact hdep.2 | exact hdep.2.1 | exact hdep.2.2 | exact hdep.2.2.1 | exact hdep.2.2.2 | exact hdep.2.2.2.1 | exact hdep.2.2.2.2)
                obtain rfl := hK.f13 (by first | exact hdep | exact hdep.1 | exact hdep.2 | exact hdep.2.1 | exact hdep.2.2 | exact hdep.2.2.1 | exact hdep.2.2.2 | exact hdep.2.2.2.1 | exact hdep.2.2.2.2)
                obtain rfl := hK.f8 (by first | exact hdep | exact hdep.1 | exact hdep.2 | exact hdep.2.1 | exact hdep.2.2 | exact hdep.2.2.1 | exact hdep.2.2.2 | exact hdep.2.2.2.1 | exact hdep.2.2.2.2)
                simp [wpOp, Region.wanted, yielded, Oper.wp, go_sem, Oper.upon, Act.eval, Act.put]
                refine Or.inl ((same_t 1 _ w1).mono ?_)
                rintro e w2 ⟨hb, rfl⟩
                exact ⟨_, _, _, _, _, _, _, _, _, _, _, _, _, _, _, _, _, _, rfl, hK.n14 hb⟩
              | 15, _ =>
                as_aux_lemma =>
                cases hi
                simp [Region.binds] at hdep
                obtain rfl := hK.f14 (by first | exact hdep | exact hdep.1 | exact hdep.2 | exact hdep.2.1 | exact hdep.2.2 | exact hdep.2.2.1 | exact hdep.2.2.2 | exact hdep.2.2.2.1 | exact hdep.2.2.2.2)
                obtain rfl := hK.f8 (by first | exact hdep | exact hdep.1 | exact hdep.2 | exact hdep.2.1 | exact hdep.2.2 | exact hdep.2.2.1 | exact hdep.2.2.2 | exact hdep.2.2.2.1 | exact hdep.2.2.2.2)
                simp [wpOp, Region.wanted, yielded, Oper.wp, execOp, go_sem, Oper.upon, Act.eval, Act.put]
                exact Or.inl ⟨_, _, _, _, _, _, _, _, _, _, _, _, _, _, _, _, _, _, rfl, hK.n15 (Below.refl _ _)⟩
              | 16, _ =>
                as_aux_lemma =>
                cases hi
                simp [Region.binds] at hdep
                obtain rfl := hK.f8 (by first | exact hdep | exact hdep.1 | exact hdep.2 | exact hdep.2.1 | exact hdep.2.2 | exact hdep.2.2.1 | exact hdep.2.2.2 | exact hdep.2.2.2.1 | exact hdep.2.2.2.2)
                obtain rfl := hK.f15 (by first | exact hdep | exact hdep.1 | exact hdep.2 | exact hdep.2.1 | exact hdep.2.2 | exact hdep.2.2.1 | exact hdep.2.2.2 | exact hdep.2.2.2.1 | exact hdep.2.2.2.2)
                obtain rfl := hK.f5 (by first | exact hdep | exact hdep.1 | exact hdep.2 | exact hdep.2.1 | exact hdep.2.2 | exact hdep.2.2.1 | exact hdep.2.2.2 | exact hdep.2.2.2.1 | exact hdep.2.2.2.2)
                simp [wpOp, Region.wanted, yielded, Oper.wp, execOp, go_sem, Oper.upon, Act.eval, Act.put]
                exact Or.inl ⟨_, _, _, _, _, _, _, _, _, _, _, _, _, _, _, _, _, _, rfl, hK.n16 (Below.refl _ _)⟩
              | 17, _ =>
                as_aux_lemma =>
                cases hi
                simp [Region.binds] at hdep
                obtain rfl := hK.f5 (by first | exact hdep | exact hdep.1 | exact hdep.2 | exact hdep.2.1 | exact hdep.2.2 | exact hdep.2.2.1 | exact hdep.2.2.2 | exact hdep.2.2.2.1 | exact hdep.2.2.2.2)
                obtain rfl := hK.f16 (by first | exact hdep | exact hdep.1 | exact hdep.2 | exact hdep.2.1 | exact hdep.2.2 | exact hdep.2.2.1 | exact hdep.2.2.2 | exact hdep.2.2.2.1 | exact hdep.2.2.2.2)
                simp [wpOp, Region.wanted, Oper.wp, execOp, go_sem, Oper.upon, Act.eval, Act.put]
                exact Or.inl ⟨_, _, _, _, _, _, _, _, _, _, _, _, _, _, _, _, _, _, rfl, hK.n17 (Below.refl _ _)⟩
            · intro D c w1 hI hall
              obtain ⟨t90, t91, t92, t93, t94, t95, t96, t97, t98, t99, t100, t101, t102, t103, t104, t105, t106, t107, rfl, hK⟩ := hI
              obtain rfl := hK.f17 (hall _ (by decide))
              go_wp2_with fail
              all_goals go_meet
              exact ⟨rfl, B9.out.trans (hK.bel.mono B9.out.size)⟩
        case rest =>
          obtain ⟨rfl, hB10⟩ := hcut
          have B10 := hid hB10
          clear hB10 B9 V9
          go_wp2_with fail
          refine (HN.out a wc).mono ?_
          rintro e y1 ⟨hb1, rfl⟩
          have C1 := hid (B10.out.trans (hb1.mono B10.out.size))
          clear hb1
          go_wp2_with fail
          refine (HN.out b y1).mono ?_
          rintro e y2 ⟨hb2, rfl⟩
          have C2 := hid (C1.out.trans (hb2.mono C1.out.size))
          clear hb2
          go_wp2_with fail
          refine (H3.out y2).mono ?_
          rintro e y3 ⟨hb3, rfl⟩
          have C3 := hid (C2.out.trans (hb3.mono C2.out.size))
          clear hb3
          rw [show iv k3 i3 = .agg #[.int .i64 k3, .int .i64 i3, .string ⟨#[]⟩, .slice none 0 0] from rfl]
          have W3 := hid (V4.new y3 k3 i3)
          have C4 := hid (C3.out.alloc C3.out.size (.cells #[.int .i64 k3, .int .i64 i3, .string ⟨#[]⟩, .slice none 0 0] 24))
          go_upto_region 12 with fail
          generalize y3.alloc (.cells #[.int .i64 k3, .int .i64 i3, .string ⟨#[]⟩, .slice none 0 0] 24) = y4 at *
          generalize y3.heap.size = cn at *
          go_cut [137] (fun s137 wx => s137 = .bool false ∧ Below w.heap.size w wx)
          case first =>
            as_aux_lemma =>
            obtain ⟨hk3, hi3⟩ := HK3.out
            cases hM : M with
            | true =>
              rw [hM] at hk3 hi3
              obtain rfl : k3 = 0 := hk3
              obtain rfl : i3 = 0 := hi3
              have hMe : (a == -9223372036854775808) = true := HM.out.symm.trans hM
              have hMn : (a != -9223372036854775808) = false := by rw [bne, hMe]; rfl
              refine wp_region_inv (by kernel_rfl) (R12tI (fun t116 t117 t118 t119 t120 t121 t122 t123 t124 t125 t126 t127 t128 t129 t130 t131 t132 t133 t134 t135 t136 t137 => #[.int .i64 a, .int .i64 b, undef, undef, .bool false, .pointer (some ⟨cs, 0, none⟩), .bool true, .pointer (some ⟨cd, 0, none⟩), .bool true, .bool O, .bool U, .pointer (some ⟨cn, 0, none⟩), undef, undef, u14, u15, u16, u17, u18, u19, u20, u21, u22, u23, u24, u25, u26, u27, u28, u29, u30, u31, u32, u33, u34, u35, u36, u37, u38, u39, u40, u41, u42, u43, u44, u45, u46, u47, u48, u49, u50, u51, u52, u53, u54, u55, u56, u57, u58, u59, u60, u61, u62, u63, u64, u65, u66, u67, u68, u69, u70, u71, u72, u73, u74, u75, u76, u77, u78, u79, u80, u81, u82, u83, u84, u85, u86, u87, u88, u89, u90, u91, u92, u93, u94, u95, u96, u97, u98, u99, u100, u101, u102, u103, u104, u105, u106, .bool false, .tuple #[.agg #[.int .i64 0, .int .i64 0, .string ⟨#[]⟩, .slice none 0 0], .bool true], .int .i64 a, iv 1 a, .int .i64 b, iv 1 b, .tuple #[.agg #[.int .i64 0, .int .i64 0, .string ⟨#[]⟩, .slice none 0 0], .bool true], .agg #[.int .i64 0, .int .i64 0, .string ⟨#[]⟩, .slice none 0 0], .bool true, t116, t117, t118, t119, t120, t121, t122, t123, t124, t125, t126, t127, t128, t129, t130, t131, t132, t133, t134, t135, t136, t137, u138, u139, u140, u141, u142, u143, u144, u145, u146, u147, u148, u149, u150, u151, u152, u153, u154, u155, u156, u157, u158, u159, u160, u161, u162, u163, u164, u165, u166, u167, u168, u169, u170, u171, u172, u173, u174, u175, u176, u177, u178, u179, u180, u181, u182, u183, u184, u185, u186, u187, u188, u189, u190, u191, u192, u193, u194, u195, u196, u197, u198, u199, u200, u201, u202, u203, u204]) y4 a 0) ?_ (by kernel_rfl) ?_ ?_ ?_
              · rintro D D' c w1 hD ⟨t116, t117, t118, t119, t120, t121, t122, t123, t124, t125, t126, t127, t128, t129, t130, t131, t132, t133, t134, t135, t136, t137, h, hK⟩
                have e : D = D' := funext fun j => propext (hD j)
                subst e
                exact ⟨t116, t117, t118, t119, t120, t121, t122, t123, t124, t125, t126, t127, t128, t129, t130, t131, t132, t133, t134, t135, t136, t137, h, hK⟩
              · intro D hD
                exact ⟨_, _, _, _, _, _, _, _, _, _, _, _, _, _, _, _, _, _, _, _, _, _, rfl, (Below.refl _ _).drew, fun h => absurd h (hD _), fun h => absurd h (hD _), fun h => absurd h (hD _), fun h => absurd h (hD _), fun h => absurd h (hD _), fun h => absurd h (hD _), fun h => absurd h (hD _), fun h => absurd h (hD _), fun h => absurd h (hD _), fun h => absurd h (hD _), fun h => absurd h (hD _), fun h => absurd h (hD _), fun h => absurd h (hD _), fun h => absurd h (hD _), fun h => absurd h (hD _), fun h => absurd h (hD _), fun h => absurd h (hD _), fun h => absurd h (hD _), fun h => absurd h (hD _), fun h => absurd h (hD _), fun h => absurd h (hD _), fun h => absurd h (hD _)⟩
              · intro D c w1 hI j o hi hnd hdep
                obtain ⟨t116, t117, t118, t119, t120, t121, t122, t123, t124, t125, t126, t127, t128, t129, t130, t131, t132, t133, t134, t135, t136, t137, rfl, hK⟩ := hI
                have hlt : j < 22 := (Array.getElem?_eq_some_iff.1 hi).1
                match j, hlt with
                | 0, _ =>
                  as_aux_lemma =>
                  cases hi
                  simp [wpOp, Region.wanted, Oper.wp, execOp, go_sem, Oper.upon, Act.eval, Act.put]
                  exact Or.inl ⟨_, _, _, _, _, _, _, _, _, _, _, _, _, _, _, _, _, _, _, _, _, _, rfl, hK.n0 (Below.refl _ _)⟩
                | 1, _ =>
                  as_aux_lemma =>
                  cases hi
                  simp [Region.binds] at hdep
                  obtain rfl := hK.f0 (by first | exact hdep | exact hdep.1 | exact hdep.2 | exact hdep.2.1 | exact hdep.2.2 | exact hdep.2.2.1 | exact hdep.2.2.2 | exact hdep.2.2.2.1 | exact hdep.2.2.2.2)
                  simp [wpOp, Region.wanted, Oper.wp, execOp, go_sem, Oper.upon, Act.eval, Act.put]
                  exact Or.inl ⟨_, _, _, _, _, _, _, _, _, _, _, _, _, _, _, _, _, _, _, _, _, _, rfl, hK.n1 (Below.refl _ _)⟩
                | 2, _ =>
                  as_aux_lemma =>
                  cases hi
                  simp [Region.binds] at hdep
                  obtain rfl := hK.f1 (by first | exact hdep | exact hdep.1 | exact hdep.2 | exact hdep.2.1 | exact hdep.2.2 | exact hdep.2.2.1 | exact hdep.2.2.2 | exact hdep.2.2.2.1 | exact hdep.2.2.2.2)
                  simp [wpOp, Region.wanted, Oper.wp, execOp, go_sem, Oper.upon, Act.eval, Act.put]
                  exact Or.inl ⟨_, _, _, _, _, _, _, _, _, _, _, _, _, _, _, _, _, _, _, _, _, _, rfl, hK.n2 (Below.refl _ _)⟩
                | 3, _ =>
                  as_aux_lemma =>
                  cases hi
                  simp [Region.binds] at hdep
                  obtain rfl := hK.f2 (by first | exact hdep | exact hdep.1 | exact hdep.2 | exact hdep.2.1 | exact hdep.2.2 | exact hdep.2.2.1 | exact hdep.2.2.2 | exact hdep.2.2.2.1 | exact hdep.2.2.2.2)
                  simp [wpOp, Region.wanted, yielded, Oper.wp, execOp, go_sem, Oper.upon, Act.eval, Act.put]
                  exact Or.inl ⟨_, _, _, _, _, _, _, _, _, _, _, _, _, _, _, _, _, _, _, _, _, _, rfl, hK.n3 (Below.refl _ _)⟩
                | 4, _ =>
                  as_aux_lemma =>
                  cases hi
                  simp [Region.binds] at hdep
                  obtain rfl := hK.f3 (by first | exact hdep | exact hdep.1 | exact hdep.2 | exact hdep.2.1 | exact hdep.2.2 | exact hdep.2.2.1 | exact hdep.2.2.2 | exact hdep.2.2.2.1 | exact hdep.2.2.2.2)
                  obtain rfl := hK.f2 (by first | exact hdep | exact hdep.1 | exact hdep.2 | exact hdep.2.1 | exact hdep.2.2 | exact hdep.2.2.1 | exact hdep.2.2.2 | exact hdep.2.2.2.1 | exact hdep.2.2.2.2)
                  simp [wpOp, Region.wanted, yielded, Oper.wp, execOp, go_sem, Oper.upon, Act.eval, Act.put, hMe]
                  exact Or.inl ⟨_, _, _, _, _, _, _, _, _, _, _, _, _, _, _, _, _, _, _, _, _, _, rfl, hK.n4 (Below.refl _ _)⟩
                | 5, _ =>
                  as_aux_lemma =>
                  cases hi
                  simp [Region.binds] at hdep
                  obtain rfl := hK.f2 (by first | exact hdep | exact hdep.1 | exact hdep.2 | exact hdep.2.1 | exact hdep.2.2 | exact hdep.2.2.1 | exact hdep.2.2.2 | exact hdep.2.2.2.1 | exact hdep.2.2.2.2)
                  obtain ⟨y0, y1, y2, y3, _⟩ := W3.out.on hK.bel
                  simp [wpOp, Region.wanted, yielded, Oper.wp, execOp, go_sem, Oper.upon, Act.eval, Act.put, y0, y1, y2, y3]
                  exact Or.inl ⟨_, _, _, _, _, _, _, _, _, _, _, _, _, _, _, _, _, _, _, _, _, _, rfl, hK.n5 (Below.refl _ _)⟩
                | 6, _ =>
                  as_aux_lemma =>
                  cases hi
                  simp [Region.binds] at hdep
                  obtain rfl := hK.f2 (by first | exact hdep | exact hdep.1 | exact hdep.2 | exact hdep.2.1 | exact hdep.2.2 | exact hdep.2.2.1 | exact hdep.2.2.2 | exact hdep.2.2.2.1 | exact hdep.2.2.2.2)
                  simp [wpOp, Region.wanted, yielded, Oper.wp, execOp, go_sem, Oper.upon, Act.eval, Act.put]
                  exact Or.inl ⟨_, _, _, _, _, _, _, _, _, _, _, _, _, _, _, _, _, _, _, _, _, _, rfl, hK.n6 (Below.refl _ _)⟩
                | 7, _ =>
                  as_aux_lemma =>
                  cases hi
                  simp [Region.binds] at hdep
                  obtain rfl := hK.f5 (by first | exact hdep | exact hdep.1 | exact hdep.2 | exact hdep.2.1 | exact hdep.2.2 | exact hdep.2.2.1 | exact hdep.2.2.2 | exact hdep.2.2.2.1 | exact hdep.2.2.2.2)
                  obtain rfl := hK.f6 (by first | exact hdep | exact hdep.1 | exact hdep.2 | exact hdep.2.1 | exact hdep.2.2 | exact hdep.2.2.1 | exact hdep.2.2.2 | exact hdep.2.2.2.1 | exact hdep.2.2.2.2)
                  obtain rfl := hK.f2 (by first | exact hdep | exact hdep.1 | exact hdep.2 | exact hdep.2.1 | exact hdep.2.2 | exact hdep.2.2.1 | exact hdep.2.2.2 | exact hdep.2.2.2.1 | exact hdep.2.2.2.2)
                  simp [wpOp, Region.wanted, yielded, Oper.wp, go_sem, Oper.upon, Act.eval, Act.put]
                  refine Or.inl ((same_t 0 0 w1).mono ?_)
                  rintro e w2 ⟨hb, rfl⟩
                  exact ⟨_, _, _, _, _, _, _, _, _, _, _, _, _, _, _, _, _, _, _, _, _, _, rfl, hK.n7 hb⟩
                | 8, _ =>
                  as_aux_lemma =>
                  cases hi
                  simp [Region.binds] at hdep
                  obtain rfl := hK.f4 (by first | exact hdep | exact hdep.1 | exact hdep.2 | exact hdep.2.1 | exact hdep.2.2 | exact hdep.2.2.1 | exact hdep.2.2.2 | exact hdep.2.2.2.1 | exact hdep.2.2.2.2)
                  obtain rfl := hK.f7 (by first | exact hdep | exact hdep.1 | exact hdep.2 | exact hdep.2.1 | exact hdep.2.2 | exact hdep.2.2.1 | exact hdep.2.2.2 | exact hdep.2.2.2.1 | exact hdep.2.2.2.2)
                  obtain rfl := hK.f2 (by first | exact hdep | exact hdep.1 | exact hdep.2 | exact hdep.2.1 | exact hdep.2.2 | exact hdep.2.2.1 | exact hdep.2.2.2 | exact hdep.2.2.2.1 | exact hdep.2.2.2.2)
                  simp [wpOp, Region.wanted, yielded, Oper.wp, execOp, go_sem, Oper.upon, Act.eval, Act.put]
                  exact Or.inl ⟨_, _, _, _, _, _, _, _, _, _, _, _, _, _, _, _, _, _, _, _, _, _, rfl, hK.n8 (Below.refl _ _)⟩
                | 9, _ =>
                  as_aux_lemma =>
                  cases hi
                  simp [Region.binds] at hdep
                  obtain rfl := hK.f2 (by first | exact hdep | exact hdep.1 | exact hdep.2 | exact hdep.2.1 | exact hdep.2.2 | exact hdep.2.2.1 | exact hdep.2.2.2 | exact hdep.2.2.2.1 | exact hdep.2.2.2.2)
                  obtain rfl := hK.f8 (by first | exact hdep | exact hdep.1 | exact hdep.2 | exact hdep.2.1 | exact hdep.2.2 | exact hdep.2.2.1 | exact hdep.2.2.2 | exact hdep.2.2.2.1 | exact hdep.2.2.2.2)
                  simp [wpOp, Region.wanted, Oper.wp, execOp, go_sem, Oper.upon, Act.eval, Act.put]
                  exact Or.inl ⟨_, _, _, _, _, _, _, _, _, _, _, _, _, _, _, _, _, _, _, _, _, _, rfl, hK.n9 (Below.refl _ _)⟩
                | 10, _ =>
                  as_aux_lemma =>
                  cases hi
                  simp [Region.binds] at hdep
                  obtain rfl := hK.f9 (by first | exact hdep | exact hdep.1 | exact hdep.2 | exact hdep.2.1 | exact hdep.2.2 | exact hdep.2.2.1 | exact hdep.2.2.2 | exact hdep.2.2.2.1 | exact hdep.2.2.2.2)
                  simp [wpOp, Region.wanted, Oper.wp, execOp, go_sem, Oper.upon, Act.eval, Act.put]
                  exact Or.inl ⟨_, _, _, _, _, _, _, _, _, _, _, _, _, _, _, _, _, _, _, _, _, _, rfl, hK.n10 (Below.refl _ _)⟩
                | 11, _ =>
                  as_aux_lemma =>
                  cases hi
                  simp [Region.binds] at hdep
                  obtain rfl := hK.f10 (by first | exact hdep | exact hdep.1 | exact hdep.2 | exact hdep.2.1 | exact hdep.2.2 | exact hdep.2.2.1 | exact hdep.2.2.2 | exact hdep.2.2.2.1 | exact hdep.2.2.2.2)
                  simp [wpOp, Region.wanted, yielded, Oper.wp, execOp, go_sem, Oper.upon, Act.eval, Act.put]
                  exact Or.inl ⟨_, _, _, _, _, _, _, _, _, _, _, _, _, _, _, _, _, _, _, _, _, _, rfl, hK.n11 (Below.refl _ _)⟩
                | 12, _ =>
                  as_aux_lemma =>
                  cases hi
                  simp [Region.binds] at hdep
                  obtain rfl := hK.f11 (by first | exact hdep | exact hdep.1 | exact hdep.2 | exact hdep.2.1 | exact hdep.2.2 | exact hdep.2.2.1 | exact hdep.2.2.2 | exact hdep.2.2.2.1 | exact hdep.2.2.2.2)
                  obtain rfl := hK.f10 (by first | exact hdep | exact hdep.1 | exact hdep.2 | exact hdep.2.1 | exact hdep.2.2 | exact hdep.2.2.1 | exact hdep.2.2.2 | exact hdep.2.2.2.1 | exact hdep.2.2.2.2)
                  simp [wpOp, Region.wanted, yielded, Oper.wp, execOp, go_sem, Oper.upon, Act.eval, Act.put, hMn]
                  exact Or.inl ⟨_, _, _, _, _, _, _, _, _, _, _, _, _, _, _, _, _, _, _, _, _, _, rfl, hK.n12 (Below.refl _ _)⟩
                | 13, _ =>
                  as_aux_lemma =>
                  cases hi
                  simp [Region.binds] at hdep
                  obtain rfl := hK.f12 (by first | exact hdep | exact hdep.1 | exact hdep.2 | exact hdep.2.1 | exact hdep.2.2 | exact hdep.2.2.1 | exact hdep.2.2.2 | exact hdep.2.2.2.1 | exact hdep.2.2.2.2)
                  obtain rfl := hK.f10 (by first | exact hdep | exact hdep.1 | exact hdep.2 | exact hdep.2.1 | exact hdep.2.2 | exact hdep.2.2.1 | exact hdep.2.2.2 | exact hdep.2.2.2.1 | exact hdep.2.2.2.2)
                  simp [wpOp, Region.wanted, yielded, Oper.wp, execOp, go_sem, Oper.upon, Act.eval, Act.put]
                  exact Or.inl ⟨_, _, _, _, _, _, _, _, _, _, _, _, _, _, _, _, _, _, _, _, _, _, rfl, hK.n13 (Below.refl _ _)⟩
                | 14, _ =>
                  as_aux_lemma =>
                  cases hi
                  simp [Region.binds] at hdep
                  obtain rfl := hK.f13 (by first | exact hdep | exact hdep.1 | exact hdep.2 | exact hdep.2.1 | exact hdep.2.2 | exact hdep.2.2.1 | exact hdep.2.2.2 | exact hdep.2.2.2.1 | exact hdep.2.2.2.2)
                  simp [wpOp, Region.wanted, yielded, go_sem, Act.put]
                  exact ⟨_, _, _, _, _, _, _, _, _, _, _, _, _, _, _, _, _, _, _, _, _, _, rfl, hK.n14 (Below.refl _ _)⟩
                | 15, _ =>
                  as_aux_lemma =>
                  cases hi
                  simp [Region.binds] at hdep
                  obtain rfl := hK.f13 (by first | exact hdep | exact hdep.1 | exact hdep.2 | exact hdep.2.1 | exact hdep.2.2 | exact hdep.2.2.1 | exact hdep.2.2.2 | exact hdep.2.2.2.1 | exact hdep.2.2.2.2)
                  simp [wpOp, Region.wanted, yielded, go_sem, Act.put]
                  exact ⟨_, _, _, _, _, _, _, _, _, _, _, _, _, _, _, _, _, _, _, _, _, _, rfl, hK.n15 (Below.refl _ _)⟩
                | 16, _ =>
                  as_aux_lemma =>
                  cases hi
                  simp [Region.binds] at hdep
                  obtain rfl := hK.f13 (by first | exact hdep | exact hdep.1 | exact hdep.2 | exact hdep.2.1 | exact hdep.2.2 | exact hdep.2.2.1 | exact hdep.2.2.2 | exact hdep.2.2.2.1 | exact hdep.2.2.2.2)
                  simp [wpOp, Region.wanted, yielded, go_sem, Act.put]
                  exact ⟨_, _, _, _, _, _, _, _, _, _, _, _, _, _, _, _, _, _, _, _, _, _, rfl, hK.n16 (Below.refl _ _)⟩
                | 17, _ =>
                  as_aux_lemma =>
                  cases hi
                  simp [Region.binds] at hdep
                  obtain rfl := hK.f13 (by first | exact hdep | exact hdep.1 | exact hdep.2 | exact hdep.2.1 | exact hdep.2.2 | exact hdep.2.2.1 | exact hdep.2.2.2 | exact hdep.2.2.2.1 | exact hdep.2.2.2.2)
                  simp [wpOp, Region.wanted, yielded, go_sem, Act.put]
                  exact ⟨_, _, _, _, _, _, _, _, _, _, _, _, _, _, _, _, _, _, _, _, _, _, rfl, hK.n17 (Below.refl _ _)⟩
                | 18, _ =>
                  as_aux_lemma =>
                  cases hi
                  simp [Region.binds] at hdep
                  obtain rfl := hK.f13 (by first | exact hdep | exact hdep.1 | exact hdep.2 | exact hdep.2.1 | exact hdep.2.2 | exact hdep.2.2.1 | exact hdep.2.2.2 | exact hdep.2.2.2.1 | exact hdep.2.2.2.2)
                  simp [wpOp, Region.wanted, yielded, go_sem, Act.put]
                  exact ⟨_, _, _, _, _, _, _, _, _, _, _, _, _, _, _, _, _, _, _, _, _, _, rfl, hK.n18 (Below.refl _ _)⟩
                | 19, _ =>
                  as_aux_lemma =>
                  cases hi
                  simp [Region.binds] at hdep
                  obtain rfl := hK.f13 (by first | exact hdep | exact hdep.1 | exact hdep.2 | exact hdep.2.1 | exact hdep.2.2 | exact hdep.2.2.1 | exact hdep.2.2.2 | exact hdep.2.2.2.1 | exact hdep.2.2.2.2)
                  simp [wpOp, Region.wanted, yielded, go_sem, Act.put]
                  exact ⟨_, _, _, _, _, _, _, _, _, _, _, _, _, _, _, _, _, _, _, _, _, _, rfl, hK.n19 (Below.refl _ _)⟩
                | 20, _ =>
                  as_aux_lemma =>
                  cases hi
                  simp [Region.binds] at hdep
                  obtain rfl := hK.f13 (by first | exact hdep | exact hdep.1 | exact hdep.2 | exact hdep.2.1 | exact hdep.2.2 | exact hdep.2.2.1 | exact hdep.2.2.2 | exact hdep.2.2.2.1 | exact hdep.2.2.2.2)
                  obtain rfl := hK.f19 (by first | exact hdep | exact hdep.1 | exact hdep.2 | exact hdep.2.1 | exact hdep.2.2 | exact hdep.2.2.1 | exact hdep.2.2.2 | exact hdep.2.2.2.1 | exact hdep.2.2.2.2)
                  obtain rfl := hK.f10 (by first | exact hdep | exact hdep.1 | exact hdep.2 | exact hdep.2.1 | exact hdep.2.2 | exact hdep.2.2.1 | exact hdep.2.2.2 | exact hdep.2.2.2.1 | exact hdep.2.2.2.2)
                  simp [wpOp, Region.wanted, yielded, Oper.wp, execOp, go_sem, Oper.upon, Act.eval, Act.put]
                  exact Or.inl ⟨_, _, _, _, _, _, _, _, _, _, _, _, _, _, _, _, _, _, _, _, _, _, rfl, hK.n20 (Below.refl _ _)⟩
                | 21, _ =>
                  as_aux_lemma =>
                  cases hi
                  simp [Region.binds] at hdep
                  obtain rfl := hK.f10 (by first | exact hdep | exact hdep.1 | exact hdep.2 | exact hdep.2.1 | exact hdep.2.2 | exact hdep.2.2.1 | exact hdep.2.2.2 | exact hdep.2.2.2.1 | exact hdep.2.2.2.2)
                  obtain rfl := hK.f20 (by first | exact hdep | exact hdep.1 | exact hdep.2 | exact hdep.2.1 | exact hdep.2.2 | exact hdep.2.2.1 | exact hdep.2.2.2 | exact hdep.2.2.2.1 | exact hdep.2.2.2.2)
                  simp [wpOp, Region.wanted, Oper.wp, execOp, go_sem, Oper.upon, Act.eval, Act.put]
                  exact Or.inl ⟨_, _, _, _, _, _, _, _, _, _, _, _, _, _, _, _, _, _, _, _, _, _, rfl, hK.n21 (Below.refl _ _)⟩
              · intro D c w1 hI hall
                obtain ⟨t116, t117, t118, t119, t120, t121, t122, t123, t124, t125, t126, t127, t128, t129, t130, t131, t132, t133, t134, t135, t136, t137, rfl, hK⟩ := hI
                obtain rfl := hK.f21 (hall _ (by decide))
                go_wp2_with fail
                all_goals go_meet
                exact ⟨rfl, C4.out.trans (hK.bel.mono C4.out.size)⟩
            | false =>
              rw [hM] at hk3 hi3
              obtain rfl : k3 = 1 := hk3
              obtain rfl : i3 = wrap64 (-a) := hi3
              have hMe : (a == -9223372036854775808) = false := HM.out.symm.trans hM
              have hMn : (a != -9223372036854775808) = true := by rw [bne, hMe]; rfl
              refine wp_region_inv (by kernel_rfl) (R12fI (fun t116 t117 t118 t119 t120 t121 t122 t123 t124 t125 t126 t127 t128 t129 t130 t131 t132 t133 t134 t135 t136 t137 => #[.int .i64 a, .int .i64 b, undef, undef, .bool false, .pointer (some ⟨cs, 0, none⟩), .bool true, .pointer (some ⟨cd, 0, none⟩), .bool true, .bool O, .bool U, .pointer (some ⟨cn, 0, none⟩), undef, undef, u14, u15, u16, u17, u18, u19, u20, u21, u22, u23, u24, u25, u26, u27, u28, u29, u30, u31, u32, u33, u34, u35, u36, u37, u38, u39, u40, u41, u42, u43, u44, u45, u46, u47, u48, u49, u50, u51, u52, u53, u54, u55, u56, u57, u58, u59, u60, u61, u62, u63, u64, u65, u66, u67, u68, u69, u70, u71, u72, u73, u74, u75, u76, u77, u78, u79, u80, u81, u82, u83, u84, u85, u86, u87, u88, u89, u90, u91, u92, u93, u94, u95, u96, u97, u98, u99, u100, u101, u102, u103, u104, u105, u106, .bool false, .tuple #[.agg #[.int .i64 1, .int .i64 (wrap64 (-a)), .string ⟨#[]⟩, .slice none 0 0], .bool true], .int .i64 a, iv 1 a, .int .i64 b, iv 1 b, .tuple #[.agg #[.int .i64 1, .int .i64 (wrap64 (-a)), .string ⟨#[]⟩, .slice none 0 0], .bool true], .agg #[.int .i64 1, .int .i64 (wrap64 (-a)), .string ⟨#[]⟩, .slice none 0 0], .bool true, t116, t117, t118, t119, t120, t121, t122, t123, t124, t125, t126, t127, t128, t129, t130, t131, t132, t133, t134, t135, t136, t137, u138, u139, u140, u141, u142, u143, u144, u145, u146, u147, u148, u149, u150, u151, u152, u153, u154, u155, u156, u157, u158, u159, u160, u161, u162, u163, u164, u165, u166, u167, u168, u169, u170, u171, u172, u173, u174, u175, u176, u177, u178, u179, u180, u181, u182, u183, u184, u185, u186, u187, u188, u189, u190, u191, u192, u193, u194, u195, u196, u197, u198, u199, u200, u201, u202, u203, u204]) y4 a (wrap64 (-a))) ?_ (by kernel_rfl) ?_ ?_ ?_
              · rintro D D' c w1 hD ⟨t116, t117, t118, t119, t120, t121, t122, t123, t124, t125, t126, t127, t128, t129, t130, t131, t132, t133, t134, t135, t136, t137, h, hK⟩
                have e : D = D' := funext fun j => propext (hD j)
                subst e
                exact ⟨t116, t117, t118, t119, t120, t121, t122, t123, t124, t125, t126, t127, t128, t129, t130, t131, t132, t133, t134, t135, t136, t137, h, hK⟩
              · intro D hD
                exact ⟨_, _, _, _, _, _, _, _, _, _, _, _, _, _, _, _, _, _, _, _, _, _, rfl, (Below.refl _ _).drew, fun h => absurd h (hD _), fun h => absurd h (hD _), fun h => absurd h (hD _), fun h => absurd h (hD _), fun h => absurd h (hD _), fun h => absurd h (hD _), fun h => absurd h (hD _), fun h => absurd h (hD _), fun h => absurd h (hD _), fun h => absurd h (hD _), fun h => absurd h (hD _), fun h => absurd h (hD _), fun h => absurd h (hD _), fun h => absurd h (hD _), fun h => absurd h (hD _), fun h => absurd h (hD _), fun h => absurd h (hD _), fun h => absurd h (hD _), fun h => absurd h (hD _), fun h => absurd h (hD _), fun h => absurd h (hD _), fun h => absurd h (hD _)⟩
              · intro D c w1 hI j o hi hnd hdep
                obtain ⟨t116, t117, t118, t119, t120, t121, t122, t123, t124, t125, t126, t127, t128, t129, t130, t131, t132, t133, t134, t135, t136, t137, rfl, hK⟩ := hI
                have hlt : j < 22 := (Array.getElem?_eq_some_iff.1 hi).1
                match j, hlt with
                | 0, _ =>
                  as_aux_lemma =>
                  cases hi
                  simp [wpOp, Region.wanted, Oper.wp, execOp, go_sem, Oper.upon, Act.eval, Act.put]
                  exact Or.inl ⟨_, _, _, _, _, _, _, _, _, _, _, _, _, _, _, _, _, _, _, _, _, _, rfl, hK.n0 (Below.refl _ _)⟩
                | 1, _ =>
                  as_aux_lemma =>
                  cases hi
                  simp [Region.binds] at hdep
                  obtain rfl := hK.f0 (by first | exact hdep | exact hdep.1 | exact hdep.2 | exact hdep.2.1 | exact hdep.2.2 | exact hdep.2.2.1 | exact hdep.2.2.2 | exact hdep.2.2.2.1 | exact hdep.2.2.2.2)
                  simp [wpOp, Region.wanted, Oper.wp, execOp, go_sem, Oper.upon, Act.eval, Act.put]
                  exact Or.inl ⟨_, _, _, _, _, _, _, _, _, _, _, _, _, _, _, _, _, _, _, _, _, _, rfl, hK.n1 (Below.refl _ _)⟩
                | 2, _ =>
                  as_aux_lemma =>
                  cases hi
                  simp [Region.binds] at hdep
                  obtain rfl := hK.f1 (by first | exact hdep | exact hdep.1 | exact hdep.2 | exact hdep.2.1 | exact hdep.2.2 | exact hdep.2.2.1 | exact hdep.2.2.2 | exact hdep.2.2.2.1 | exact hdep.2.2.2.2)
                  simp [wpOp, Region.wanted, Oper.wp, execOp, go_sem, Oper.upon, Act.eval, Act.put]
                  exact Or.inl ⟨_, _, _, _, _, _, _, _, _, _, _, _, _, _, _, _, _, _, _, _, _, _, rfl, hK.n2 (Below.refl _ _)⟩
                | 3, _ =>
                  as_aux_lemma =>
                  cases hi
                  simp [Region.binds] at hdep
                  obtain rfl := hK.f2 (by first | exact hdep | exact hdep.1 | exact hdep.2 | exact hdep.2.1 | exact hdep.2.2 | exact hdep.2.2.1 | exact hdep.2.2.2 | exact hdep.2.2.2.1 | exact hdep.2.2.2.2)
                  simp [wpOp, Region.wanted, yielded, Oper.wp, execOp, go_sem, Oper.upon, Act.eval, Act.put]
                  exact Or.inl ⟨_, _, _, _, _, _, _, _, _, _, _, _, _, _, _, _, _, _, _, _, _, _, rfl, hK.n3 (Below.refl _ _)⟩
                | 4, _ =>
                  as_aux_lemma =>
                  cases hi
                  simp [Region.binds] at hdep
                  obtain rfl := hK.f3 (by first | exact hdep | exact hdep.1 | exact hdep.2 | exact hdep.2.1 | exact hdep.2.2 | exact hdep.2.2.1 | exact hdep.2.2.2 | exact hdep.2.2.2.1 | exact hdep.2.2.2.2)
                  obtain rfl := hK.f2 (by first | exact hdep | exact hdep.1 | exact hdep.2 | exact hdep.2.1 | exact hdep.2.2 | exact hdep.2.2.1 | exact hdep.2.2.2 | exact hdep.2.2.2.1 | exact hdep.2.2.2.2)
                  simp [wpOp, Region.wanted, yielded, Oper.wp, execOp, go_sem, Oper.upon, Act.eval, Act.put, hMe]
                  exact Or.inl ⟨_, _, _, _, _, _, _, _, _, _, _, _, _, _, _, _, _, _, _, _, _, _, rfl, hK.n4 (Below.refl _ _)⟩
                | 5, _ =>
                  as_aux_lemma =>
                  cases hi
                  simp [Region.binds] at hdep
                  obtain rfl := hK.f2 (by first | exact hdep | exact hdep.1 | exact hdep.2 | exact hdep.2.1 | exact hdep.2.2 | exact hdep.2.2.1 | exact hdep.2.2.2 | exact hdep.2.2.2.1 | exact hdep.2.2.2.2)
                  obtain ⟨y0, y1, y2, y3, _⟩ := W3.out.on hK.bel
                  simp [wpOp, Region.wanted, yielded, Oper.wp, execOp, go_sem, Oper.upon, Act.eval, Act.put, y0, y1, y2, y3]
                  exact Or.inl ⟨_, _, _, _, _, _, _, _, _, _, _, _, _, _, _, _, _, _, _, _, _, _, rfl, hK.n5 (Below.refl _ _)⟩
                | 6, _ =>
                  as_aux_lemma =>
                  cases hi
                  simp [Region.binds] at hdep
                  obtain rfl := hK.f2 (by first | exact hdep | exact hdep.1 | exact hdep.2 | exact hdep.2.1 | exact hdep.2.2 | exact hdep.2.2.1 | exact hdep.2.2.2 | exact hdep.2.2.2.1 | exact hdep.2.2.2.2)
                  simp [wpOp, Region.wanted, yielded, Oper.wp, execOp, go_sem, Oper.upon, Act.eval, Act.put]
                  exact Or.inl ⟨_, _, _, _, _, _, _, _, _, _, _, _, _, _, _, _, _, _, _, _, _, _, rfl, hK.n6 (Below.refl _ _)⟩
                | 7, _ =>
                  as_aux_lemma =>
                  cases hi
                  simp [Region.binds] at hdep
                  obtain rfl := hK.f5 (by first | exact hdep | exact hdep.1 | exact hdep.2 | exact hdep.2.1 | exact hdep.2.2 | exact hdep.2.2.1 | exact hdep.2.2.2 | exact hdep.2.2.2.1 | exact hdep.2.2.2.2)
                  obtain rfl := hK.f6 (by first | exact hdep | exact hdep.1 | exact hdep.2 | exact hdep.2.1 | exact hdep.2.2 | exact hdep.2.2.1 | exact hdep.2.2.2 | exact hdep.2.2.2.1 | exact hdep.2.2.2.2)
                  obtain rfl := hK.f2 (by first | exact hdep | exact hdep.1 | exact hdep.2 | exact hdep.2.1 | exact hdep.2.2 | exact hdep.2.2.1 | exact hdep.2.2.2 | exact hdep.2.2.2.1 | exact hdep.2.2.2.2)
                  simp [wpOp, Region.wanted, yielded, Oper.wp, go_sem, Oper.upon, Act.eval, Act.put]
                  refine Or.inl ((same_f _ w1).mono ?_)
                  rintro e w2 ⟨hb, rfl⟩
                  exact ⟨_, _, _, _, _, _, _, _, _, _, _, _, _, _, _, _, _, _, _, _, _, _, rfl, hK.n7 hb⟩
                | 8, _ =>
                  as_aux_lemma =>
                  cases hi
                  simp [Region.binds] at hdep
                  obtain rfl := hK.f4 (by first | exact hdep | exact hdep.1 | exact hdep.2 | exact hdep.2.1 | exact hdep.2.2 | exact hdep.2.2.1 | exact hdep.2.2.2 | exact hdep.2.2.2.1 | exact hdep.2.2.2.2)
                  obtain rfl := hK.f7 (by first | exact hdep | exact hdep.1 | exact hdep.2 | exact hdep.2.1 | exact hdep.2.2 | exact hdep.2.2.1 | exact hdep.2.2.2 | exact hdep.2.2.2.1 | exact hdep.2.2.2.2)
                  obtain rfl := hK.f2 (by first | exact hdep | exact hdep.1 | exact hdep.2 | exact hdep.2.1 | exact hdep.2.2 | exact hdep.2.2.1 | exact hdep.2.2.2 | exact hdep.2.2.2.1 | exact hdep.2.2.2.2)
                  simp [wpOp, Region.wanted, yielded, Oper.wp, execOp, go_sem, Oper.upon, Act.eval, Act.put]
                  exact Or.inl ⟨_, _, _, _, _, _, _, _, _, _, _, _, _, _, _, _, _, _, _, _, _, _, rfl, hK.n8 (Below.refl _ _)⟩
                | 9, _ =>
                  as_aux_lemma =>
                  cases hi
                  simp [Region.binds] at hdep
                  obtain rfl := hK.f2 (by first | exact hdep | exact hdep.1 | exact hdep.2 | exact hdep.2.1 | exact hdep.2.2 | exact hdep.2.2.1 | exact hdep.2.2.2 | exact hdep.2.2.2.1 | exact hdep.2.2.2.2)
                  obtain rfl := hK.f8 (by first | exact hdep | exact hdep.1 | exact hdep.2 | exact hdep.2.1 | exact hdep.2.2 | exact hdep.2.2.1 | exact hdep.2.2.2 | exact hdep.2.2.2.1 | exact hdep.2.2.2.2)
                  simp [wpOp, Region.wanted, Oper.wp, execOp, go_sem, Oper.upon, Act.eval, Act.put]
                  exact Or.inl ⟨_, _, _, _, _, _, _, _, _, _, _, _, _, _, _, _, _, _, _, _, _, _, rfl, hK.n9 (Below.refl _ _)⟩
                | 10, _ =>
                  as_aux_lemma =>
                  cases hi
                  simp [Region.binds] at hdep
                  obtain rfl := hK.f9 (by first | exact hdep | exact hdep.1 | exact hdep.2 | exact hdep.2.1 | exact hdep.2.2 | exact hdep.2.2.1 | exact hdep.2.2.2 | exact hdep.2.2.2.1 | exact hdep.2.2.2.2)
                  simp [wpOp, Region.wanted, Oper.wp, execOp, go_sem, Oper.upon, Act.eval, Act.put]
                  exact Or.inl ⟨_, _, _, _, _, _, _, _, _, _, _, _, _, _, _, _, _, _, _, _, _, _, rfl, hK.n10 (Below.refl _ _)⟩
                | 11, _ =>
                  as_aux_lemma =>
                  cases hi
                  simp [Region.binds] at hdep
                  obtain rfl := hK.f10 (by first | exact hdep | exact hdep.1 | exact hdep.2 | exact hdep.2.1 | exact hdep.2.2 | exact hdep.2.2.1 | exact hdep.2.2.2 | exact hdep.2.2.2.1 | exact hdep.2.2.2.2)
                  simp [wpOp, Region.wanted, yielded, Oper.wp, execOp, go_sem, Oper.upon, Act.eval, Act.put]
                  exact Or.inl ⟨_, _, _, _, _, _, _, _, _, _, _, _, _, _, _, _, _, _, _, _, _, _, rfl, hK.n11 (Below.refl _ _)⟩
                | 12, _ =>
                  as_aux_lemma =>
                  cases hi
                  simp [Region.binds] at hdep
                  obtain rfl := hK.f11 (by first | exact hdep | exact hdep.1 | exact hdep.2 | exact hdep.2.1 | exact hdep.2.2 | exact hdep.2.2.1 | exact hdep.2.2.2 | exact hdep.2.2.2.1 | exact hdep.2.2.2.2)
                  obtain rfl := hK.f10 (by first | exact hdep | exact hdep.1 | exact hdep.2 | exact hdep.2.1 | exact hdep.2.2 | exact hdep.2.2.1 | exact hdep.2.2.2 | exact hdep.2.2.2.1 | exact hdep.2.2.2.2)
                  simp [wpOp, Region.wanted, yielded, Oper.wp, execOp, go_sem, Oper.upon, Act.eval, Act.put, hMn]
                  exact Or.inl ⟨_, _, _, _, _, _, _, _, _, _, _, _, _, _, _, _, _, _, _, _, _, _, rfl, hK.n12 (Below.refl _ _)⟩
                | 13, _ =>
                  as_aux_lemma =>
                  cases hi
                  simp [Region.binds] at hdep
                  obtain rfl := hK.f12 (by first | exact hdep | exact hdep.1 | exact hdep.2 | exact hdep.2.1 | exact hdep.2.2 | exact hdep.2.2.1 | exact hdep.2.2.2 | exact hdep.2.2.2.1 | exact hdep.2.2.2.2)
                  obtain rfl := hK.f10 (by first | exact hdep | exact hdep.1 | exact hdep.2 | exact hdep.2.1 | exact hdep.2.2 | exact hdep.2.2.1 | exact hdep.2.2.2 | exact hdep.2.2.2.1 | exact hdep.2.2.2.2)
                  simp [wpOp, Region.wanted, yielded, Oper.wp, execOp, go_sem, Oper.upon, Act.eval, Act.put]
                  exact Or.inl ⟨_, _, _, _, _, _, _, _, _, _, _, _, _, _, _, _, _, _, _, _, _, _, rfl, hK.n13 (Below.refl _ _)⟩
                | 14, _ =>
                  as_aux_lemma =>
                  cases hi
                  simp [Region.binds] at hdep
                  obtain rfl := hK.f13 (by first | exact hdep | exact hdep.1 | exact hdep.2 | exact hdep.2.1 | exact hdep.2.2 | exact hdep.2.2.1 | exact hdep.2.2.2 | exact hdep.2.2.2.1 | exact hdep.2.2.2.2)
                  obtain ⟨y0, y1, y2, y3, _⟩ := W3.out.on hK.bel
                  simp [wpOp, Region.wanted, yielded, Oper.wp, execOp, go_sem, Oper.upon, Act.eval, Act.put, y0, y1, y2, y3]
                  exact Or.inl ⟨_, _, _, _, _, _, _, _, _, _, _, _, _, _, _, _, _, _, _, _, _, _, rfl, hK.n14 (Below.refl _ _)⟩
                | 15, _ =>
                  as_aux_lemma =>
                  cases hi
                  simp [Region.binds] at hdep
                  obtain rfl := hK.f13 (by first | exact hdep | exact hdep.1 | exact hdep.2 | exact hdep.2.1 | exact hdep.2.2 | exact hdep.2.2.1 | exact hdep.2.2.2 | exact hdep.2.2.2.1 | exact hdep.2.2.2.2)
                  simp [wpOp, Region.wanted, yielded, Oper.wp, execOp, go_sem, Oper.upon, Act.eval, Act.put]
                  exact Or.inl ⟨_, _, _, _, _, _, _, _, _, _, _, _, _, _, _, _, _, _, _, _, _, _, rfl, hK.n15 (Below.refl _ _)⟩
                | 16, _ =>
                  as_aux_lemma =>
                  cases hi
                  simp [Region.binds] at hdep
                  obtain rfl := hK.f15 (by first | exact hdep | exact hdep.1 | exact hdep.2 | exact hdep.2.1 | exact hdep.2.2 | exact hdep.2.2.1 | exact hdep.2.2.2 | exact hdep.2.2.2.1 | exact hdep.2.2.2.2)
                  obtain rfl := hK.f13 (by first | exact hdep | exact hdep.1 | exact hdep.2 | exact hdep.2.1 | exact hdep.2.2 | exact hdep.2.2.1 | exact hdep.2.2.2 | exact hdep.2.2.2.1 | exact hdep.2.2.2.2)
                  simp [wpOp, Region.wanted, yielded, Oper.wp, execOp, go_sem, Oper.upon, Act.eval, Act.put, wrapEq]
                  exact Or.inl ⟨_, _, _, _, _, _, _, _, _, _, _, _, _, _, _, _, _, _, _, _, _, _, rfl, hK.n16 (Below.refl _ _)⟩
                | 17, _ =>
                  as_aux_lemma =>
                  cases hi
                  simp [Region.binds] at hdep
                  obtain rfl := hK.f16 (by first | exact hdep | exact hdep.1 | exact hdep.2 | exact hdep.2.1 | exact hdep.2.2 | exact hdep.2.2.1 | exact hdep.2.2.2 | exact hdep.2.2.2.1 | exact hdep.2.2.2.2)
                  obtain rfl := hK.f13 (by first | exact hdep | exact hdep.1 | exact hdep.2 | exact hdep.2.1 | exact hdep.2.2 | exact hdep.2.2.1 | exact hdep.2.2.2 | exact hdep.2.2.2.1 | exact hdep.2.2.2.2)
                  simp [wpOp, Region.wanted, yielded, Oper.wp, go_sem, Oper.upon, Act.eval, Act.put]
                  refine Or.inl ((HN.out _ w1).mono ?_)
                  rintro e w2 ⟨hb, rfl⟩
                  exact ⟨_, _, _, _, _, _, _, _, _, _, _, _, _, _, _, _, _, _, _, _, _, _, rfl, hK.n17 hb⟩
                | 18, _ =>
                  as_aux_lemma =>
                  cases hi
                  simp [Region.binds] at hdep
                  obtain rfl := hK.f14 (by first | exact hdep | exact hdep.1 | exact hdep.2 | exact hdep.2.1 | exact hdep.2.2 | exact hdep.2.2.1 | exact hdep.2.2.2 | exact hdep.2.2.2.1 | exact hdep.2.2.2.2)
                  obtain rfl := hK.f17 (by first | exact hdep | exact hdep.1 | exact hdep.2 | exact hdep.2.1 | exact hdep.2.2 | exact hdep.2.2.1 | exact hdep.2.2.2 | exact hdep.2.2.2.1 | exact hdep.2.2.2.2)
                  obtain rfl := hK.f13 (by first | exact hdep | exact hdep.1 | exact hdep.2 | exact hdep.2.1 | exact hdep.2.2 | exact hdep.2.2.1 | exact hdep.2.2.2 | exact hdep.2.2.2.1 | exact hdep.2.2.2.2)
                  simp [wpOp, Region.wanted, yielded, Oper.wp, go_sem, Oper.upon, Act.eval, Act.put]
                  refine Or.inl ((same_t 1 _ w1).mono ?_)
                  rintro e w2 ⟨hb, rfl⟩
                  exact ⟨_, _, _, _, _, _, _, _, _, _, _, _, _, _, _, _, _, _, _, _, _, _, rfl, hK.n18 hb⟩
                | 19, _ =>
                  as_aux_lemma =>
                  cases hi
                  simp [Region.binds] at hdep
                  obtain rfl := hK.f18 (by first | exact hdep | exact hdep.1 | exact hdep.2 | exact hdep.2.1 | exact hdep.2.2 | exact hdep.2.2.1 | exact hdep.2.2.2 | exact hdep.2.2.2.1 | exact hdep.2.2.2.2)
                  obtain rfl := hK.f13 (by first | exact hdep | exact hdep.1 | exact hdep.2 | exact hdep.2.1 | exact hdep.2.2 | exact hdep.2.2.1 | exact hdep.2.2.2 | exact hdep.2.2.2.1 | exact hdep.2.2.2.2)
                  simp [wpOp, Region.wanted, yielded, Oper.wp, execOp, go_sem, Oper.upon, Act.eval, Act.put]
                  exact Or.inl ⟨_, _, _, _, _, _, _, _, _, _, _, _, _, _, _, _, _, _, _, _, _, _, rfl, hK.n19 (Below.refl _ _)⟩
                | 20, _ =>
                  as_aux_lemma =>
                  cases hi
                  simp [Region.binds] at hdep
                  obtain rfl := hK.f13 (by first | exact hdep | exact hdep.1 | exact hdep.2 | exact hdep.2.1 | exact hdep.2.2 | exact hdep.2.2.1 | exact hdep.2.2.2 | exact hdep.2.2.2.1 | exact hdep.2.2.2.2)
                  obtain rfl := hK.f19 (by first | exact hdep | exact hdep.1 | exact hdep.2 | exact hdep.2.1 | exact hdep.2.2 | exact hdep.2.2.1 | exact hdep.2.2.2 | exact hdep.2.2.2.1 | exact hdep.2.2.2.2)
                  obtain rfl := hK.f10 (by first | exact hdep | exact hdep.1 | exact hdep.2 | exact hdep.2.1 | exact hdep.2.2 | exact hdep.2.2.1 | exact hdep.2.2.2 | exact hdep.2.2.2.1 | exact hdep.2.2.2.2)
                  simp [wpOp, Region.wanted, yielded, Oper.wp, execOp, go_sem, Oper.upon, Act.eval, Act.put]
                  exact Or.inl ⟨_, _, _, _, _, _, _, _, _, _, _, _, _, _, _, _, _, _, _, _, _, _, rfl, hK.n20 (Below.refl _ _)⟩
                | 21, _ =>
                  as_aux_lemma =>
                  cases hi
                  simp [Region.binds] at hdep
                  obtain rfl := hK.f10 (by first | exact hdep | exact hdep.1 | exact hdep.2 | exact hdep.2.1 | exact hdep.2.2 | exact hdep.2.2.1 | exact hdep.2.2.2 | exact hdep.2.2.2.1 | exact hdep.2.2.2.2)
                  obtain rfl := hK.f20 (by first | exact hdep | exact hdep.1 | exact hdep.2 | exact hdep.2.1 | exact hdep.2.2 | exact hdep.2.2.1 | exact hdep.2.2.2 | exact hdep.2.2.2.1 | exact hdep.2.2.2.2)
                  simp [wpOp, Region.wanted, Oper.wp, execOp, go_sem, Oper.upon, Act.eval, Act.put]
                  exact Or.inl ⟨_, _, _, _, _, _, _, _, _, _, _, _, _, _, _, _, _, _, _, _, _, _, rfl, hK.n21 (Below.refl _ _)⟩
              · intro D c w1 hI hall
                obtain ⟨t116, t117, t118, t119, t120, t121, t122, t123, t124, t125, t126, t127, t128, t129, t130, t131, t132, t133, t134, t135, t136, t137, rfl, hK⟩ := hI
                obtain rfl := hK.f21 (hall _ (by decide))
                go_wp2_with fail
                all_goals go_meet
                exact ⟨rfl, C4.out.trans (hK.bel.mono C4.out.size)⟩
          case rest =>
            obtain ⟨rfl, hB12⟩ := hcut
            have B12 := hid hB12
            clear hB12 B10 C1 C2 C3 C4 W3
            go_wp2_with fail
            refine (HN.out a wc).mono ?_
            rintro e z1 ⟨hb1, rfl⟩
            have C1 := hid (B12.out.trans (hb1.mono B12.out.size))
            clear hb1
            go_wp2_with fail
            refine (HN.out b z1).mono ?_
            rintro e z2 ⟨hb2, rfl⟩
            have C2 := hid (C1.out.trans (hb2.mono C1.out.size))
            clear hb2
            go_wp2_with fail
            refine (H4.out z2).mono ?_
            rintro e z3 ⟨hb3, rfl⟩
            have C3 := hid (C2.out.trans (hb3.mono C2.out.size))
            clear hb3
            rw [show iv k4 i4 = .agg #[.int .i64 k4, .int .i64 i4, .string ⟨#[]⟩, .slice none 0 0] from rfl]
            have W4 := hid (V4.new z3 k4 i4)
            have C4 := hid (C3.out.alloc C3.out.size (.cells #[.int .i64 k4, .int .i64 i4, .string ⟨#[]⟩, .slice none 0 0] 24))
            go_upto_region 17 with fail
            generalize z3.alloc (.cells #[.int .i64 k4, .int .i64 i4, .string ⟨#[]⟩, .slice none 0 0] 24) = z4 at *
            generalize z3.heap.size = cp at *
            have hZ := HZ.out
            rcases HP.out with ⟨hz, hk4, hi4⟩ | ⟨hz, hk4, hi4, hOut⟩ | ⟨hz, hk4, hi4, h0b, hA2, hX, hQ⟩
            · obtain rfl : k4 = 1 := hk4
              obtain rfl : i4 = 0 := hi4
              cases hza : (a == 0) with
              | true =>
                clear hz hZ
                go_cut [153] (fun s153 wx => s153 = .bool true ∧ wx = z4)
                case first =>
                  as_aux_lemma =>
                  go_wp2_with fail
                  all_goals go_meet
                  exact ⟨rfl, rfl⟩
                case rest =>
                  obtain ⟨rfl, rfl⟩ := hcut
                  go_upto_region 18 with fail
                  refine wp_region_inv (by kernel_rfl) (R18I (fun t154 t155 t156 t4 => #[.int .i64 a, .int .i64 b, undef, undef, t4, .pointer (some ⟨cs, 0, none⟩), .bool true, .pointer (some ⟨cd, 0, none⟩), .bool true, .bool O, .bool U, .pointer (some ⟨cn, 0, none⟩), .pointer (some ⟨cp, 0, none⟩), undef, u14, u15, u16, u17, u18, u19, u20, u21, u22, u23, u24, u25, u26, u27, u28, u29, u30, u31, u32, u33, u34, u35, u36, u37, u38, u39, u40, u41, u42, u43, u44, u45, u46, u47, u48, u49, u50, u51, u52, u53, u54, u55, u56, u57, u58, u59, u60, u61, u62, u63, u64, u65, u66, u67, u68, u69, u70, u71, u72, u73, u74, u75, u76, u77, u78, u79, u80, u81, u82, u83, u84, u85, u86, u87, u88, u89, u90, u91, u92, u93, u94, u95, u96, u97, u98, u99, u100, u101, u102, u103, u104, u105, u106, u107, u108, u109, u110, u111, u112, u113, u114, u115, u116, u117, u118, u119, u120, u121, u122, u123, u124, u125, u126, u127, u128, u129, u130, u131, u132, u133, u134, u135, u136, u137, u138, u139, u140, u141, u142, u143, u144, u145, u146, u147, u148, u149, u150, u151, u152, .bool true, t154, t155, t156, u157, u158, u159, u160, u161, u162, u163, u164, u165, u166, u167, u168, u169, u170, u171, u172, u173, u174, u175, u176, u177, u178, u179, u180, u181, u182, u183, u184, u185, u186, u187, u188, u189, u190, u191, u192, u193, u194, u195, u196, u197, u198, u199, u200, u201, u202, u203, u204]) wc a) ?_ (by kernel_rfl) ?_ ?_ ?_
                  · rintro D D' c w1 hD ⟨t154, t155, t156, t4, h, hK⟩
                    have e : D = D' := funext fun j => propext (hD j)
                    subst e
                    exact ⟨t154, t155, t156, t4, h, hK⟩
                  · intro D hD
                    exact ⟨_, _, _, _, rfl, (Below.refl _ _).drew, fun h => absurd h (hD _), fun h => absurd h (hD _), fun h => absurd h (hD _), fun h => absurd h (hD _)⟩
                  · intro D c w1 hI j o hi hnd hdep
                    obtain ⟨t154, t155, t156, t4, rfl, hK⟩ := hI
                    have hlt : j < 4 := (Array.getElem?_eq_some_iff.1 hi).1
                    match j, hlt with
                    | 0, _ =>
                      as_aux_lemma =>
                      cases hi
                      obtain ⟨y0, y1, y2, y3, _⟩ := W4.out.on hK.bel
                      simp [wpOp, Region.wanted, Oper.wp, execOp, go_sem, Oper.upon, Act.eval, Act.put, y0, y1, y2, y3]
                      exact Or.inl ⟨_, _, _, _, rfl, hK.n0 (Below.refl _ _)⟩
                    | 1, _ =>
                      as_aux_lemma =>
                      cases hi
                      simp [wpOp, Region.wanted, Oper.wp, go_sem, Oper.upon, Act.eval, Act.put]
                      refine Or.inl ((HN.out 0 w1).mono ?_)
                      rintro e w2 ⟨hb, rfl⟩
                      exact ⟨_, _, _, _, rfl, hK.n1 hb⟩
                    | 2, _ =>
                      as_aux_lemma =>
                      cases hi
                      simp [Region.binds] at hdep
                      obtain rfl := hK.f0 (by first | exact hdep | exact hdep.1 | exact hdep.2 | exact hdep.2.1 | exact hdep.2.2 | exact hdep.2.2.1 | exact hdep.2.2.2 | exact hdep.2.2.2.1 | exact hdep.2.2.2.2)
                      obtain rfl := hK.f1 (by first | exact hdep | exact hdep.1 | exact hdep.2 | exact hdep.2.1 | exact hdep.2.2 | exact hdep.2.2.1 | exact hdep.2.2.2 | exact hdep.2.2.2.1 | exact hdep.2.2.2.2)
                      simp [wpOp, Region.wanted, Oper.wp, go_sem, Oper.upon, Act.eval, Act.put]
                      refine Or.inl ((same_t 1 0 w1).mono ?_)
                      rintro e w2 ⟨hb, rfl⟩
                      exact ⟨_, _, _, _, rfl, hK.n2 hb⟩
                    | 3, _ =>
                      as_aux_lemma =>
                      cases hi
                      simp [Region.binds] at hdep
                      obtain rfl := hK.f2 (by first | exact hdep | exact hdep.1 | exact hdep.2 | exact hdep.2.1 | exact hdep.2.2 | exact hdep.2.2.1 | exact hdep.2.2.2 | exact hdep.2.2.2.1 | exact hdep.2.2.2.2)
                      simp [wpOp, Region.wanted, Oper.wp, execOp, go_sem, Oper.upon, Act.eval, Act.put]
                      exact Or.inl ⟨_, _, _, _, rfl, hK.n3 (Below.refl _ _)⟩
                  · intro D c w1 hI hall
                    obtain ⟨t154, t155, t156, t4, rfl, hK⟩ := hI
                    obtain rfl := hK.f3 (hall _ (by decide))
                    go_wp2_with fail
                    go_ret
                    exact ⟨rfl, C4.out.trans (hK.bel.mono C4.out.size)⟩
              | false =>
                have hzb : (b == 0) = true := by rw [hz, hza] at hZ; simpa using hZ.symm
                clear hz hZ
                go_cut [153] (fun s153 wx => s153 = .bool true ∧ wx = z4)
                case first =>
                  as_aux_lemma =>
                  go_wp2_with fail
                  all_goals go_meet
                  exact ⟨rfl, rfl⟩
                case rest =>
                  obtain ⟨rfl, rfl⟩ := hcut
                  go_upto_region 18 with fail
                  refine wp_region_inv (by kernel_rfl) (R18I (fun t154 t155 t156 t4 => #[.int .i64 a, .int .i64 b, undef, undef, t4, .pointer (some ⟨cs, 0, none⟩), .bool true, .pointer (some ⟨cd, 0, none⟩), .bool true, .bool O, .bool U, .pointer (some ⟨cn, 0, none⟩), .pointer (some ⟨cp, 0, none⟩), undef, u14, u15, u16, u17, u18, u19, u20, u21, u22, u23, u24, u25, u26, u27, u28, u29, u30, u31, u32, u33, u34, u35, u36, u37, u38, u39, u40, u41, u42, u43, u44, u45, u46, u47, u48, u49, u50, u51, u52, u53, u54, u55, u56, u57, u58, u59, u60, u61, u62, u63, u64, u65, u66, u67, u68, u69, u70, u71, u72, u73, u74, u75, u76, u77, u78, u79, u80, u81, u82, u83, u84, u85, u86, u87, u88, u89, u90, u91, u92, u93, u94, u95, u96, u97, u98, u99, u100, u101, u102, u103, u104, u105, u106, u107, u108, u109, u110, u111, u112, u113, u114, u115, u116, u117, u118, u119, u120, u121, u122, u123, u124, u125, u126, u127, u128, u129, u130, u131, u132, u133, u134, u135, u136, u137, u138, u139, u140, u141, u142, u143, u144, u145, u146, u147, u148, u149, u150, u151, u152, .bool true, t154, t155, t156, u157, u158, u159, u160, u161, u162, u163, u164, u165, u166, u167, u168, u169, u170, u171, u172, u173, u174, u175, u176, u177, u178, u179, u180, u181, u182, u183, u184, u185, u186, u187, u188, u189, u190, u191, u192, u193, u194, u195, u196, u197, u198, u199, u200, u201, u202, u203, u204]) wc a) ?_ (by kernel_rfl) ?_ ?_ ?_
                  · rintro D D' c w1 hD ⟨t154, t155, t156, t4, h, hK⟩
                    have e : D = D' := funext fun j => propext (hD j)
                    subst e
                    exact ⟨t154, t155, t156, t4, h, hK⟩
                  · intro D hD
                    exact ⟨_, _, _, _, rfl, (Below.refl _ _).drew, fun h => absurd h (hD _), fun h => absurd h (hD _), fun h => absurd h (hD _), fun h => absurd h (hD _)⟩
                  · intro D c w1 hI j o hi hnd hdep
                    obtain ⟨t154, t155, t156, t4, rfl, hK⟩ := hI
                    have hlt : j < 4 := (Array.getElem?_eq_some_iff.1 hi).1
                    match j, hlt with
                    | 0, _ =>
                      as_aux_lemma =>
                      cases hi
                      obtain ⟨y0, y1, y2, y3, _⟩ := W4.out.on hK.bel
                      simp [wpOp, Region.wanted, Oper.wp, execOp, go_sem, Oper.upon, Act.eval, Act.put, y0, y1, y2, y3]
                      exact Or.inl ⟨_, _, _, _, rfl, hK.n0 (Below.refl _ _)⟩
                    | 1, _ =>
                      as_aux_lemma =>
                      cases hi
                      simp [wpOp, Region.wanted, Oper.wp, go_sem, Oper.upon, Act.eval, Act.put]
                      refine Or.inl ((HN.out 0 w1).mono ?_)
                      rintro e w2 ⟨hb, rfl⟩
                      exact ⟨_, _, _, _, rfl, hK.n1 hb⟩
                    | 2, _ =>
                      as_aux_lemma =>
                      cases hi
                      simp [Region.binds] at hdep
                      obtain rfl := hK.f0 (by first | exact hdep | exact hdep.1 | exact hdep.2 | exact hdep.2.1 | exact hdep.2.2 | exact hdep.2.2.1 | exact hdep.2.2.2 | exact hdep.2.2.2.1 | exact hdep.2.2.2.2)
                      obtain rfl := hK.f1 (by first | exact hdep | exact hdep.1 | exact hdep.2 | exact hdep.2.1 | exact hdep.2.2 | exact hdep.2.2.1 | exact hdep.2.2.2 | exact hdep.2.2.2.1 | exact hdep.2.2.2.2)
                      simp [wpOp, Region.wanted, Oper.wp, go_sem, Oper.upon, Act.eval, Act.put]
                      refine Or.inl ((same_t 1 0 w1).mono ?_)
                      rintro e w2 ⟨hb, rfl⟩
                      exact ⟨_, _, _, _, rfl, hK.n2 hb⟩
                    | 3, _ =>
                      as_aux_lemma =>
                      cases hi
                      simp [Region.binds] at hdep
                      obtain rfl := hK.f2 (by first | exact hdep | exact hdep.1 | exact hdep.2 | exact hdep.2.1 | exact hdep.2.2 | exact hdep.2.2.1 | exact hdep.2.2.2 | exact hdep.2.2.2.1 | exact hdep.2.2.2.2)
                      simp [wpOp, Region.wanted, Oper.wp, execOp, go_sem, Oper.upon, Act.eval, Act.put]
                      exact Or.inl ⟨_, _, _, _, rfl, hK.n3 (Below.refl _ _)⟩
                  · intro D c w1 hI hall
                    obtain ⟨t154, t155, t156, t4, rfl, hK⟩ := hI
                    obtain rfl := hK.f3 (hall _ (by decide))
                    go_wp2_with fail
                    go_ret
                    exact ⟨rfl, C4.out.trans (hK.bel.mono C4.out.size)⟩
            · obtain rfl : k4 = 0 := hk4
              obtain rfl : i4 = 0 := hi4
              have hza : (a == 0) = false := by rw [hz] at hZ; revert hZ; cases (a == 0) <;> simp
              have hzb : (b == 0) = false := by rw [hz] at hZ; revert hZ; cases (b == 0) <;> simp
              clear hz hZ
              have HOut := hid hOut
              clear hOut
              go_cut [153] (fun s153 wx => s153 = .bool false ∧ wx = z4)
              case first =>
                as_aux_lemma =>
                go_wp2_with fail
                all_goals go_meet
                exact ⟨rfl, rfl⟩
              case rest =>
                obtain ⟨rfl, rfl⟩ := hcut
                obtain ⟨y0, y1, y2, y3, _⟩ := W4.out
                go_wp2_with fail
                refine (same_t 0 0 wc).mono ?_
                rintro e x1 ⟨hb1, rfl⟩
                have E1 := hid (C4.out.trans (hb1.mono C4.out.size))
                clear hb1
                go_wp2_with fail
                refine (HOut.out x1).mono ?_
                rintro e x2 ⟨hb2, rfl⟩
                have E2 := hid (E1.out.trans (hb2.mono E1.out.size))
                clear hb2
                go_wp2_with fail
                go_ret
                exact ⟨rfl, E2.out⟩
            · obtain rfl : k4 = 1 := hk4
              obtain rfl : i4 = wrap64 (a * b) := hi4
              have hza : (a == 0) = false := by rw [hz] at hZ; revert hZ; cases (a == 0) <;> simp
              have hzb : (b == 0) = false := by rw [hz] at hZ; revert hZ; cases (b == 0) <;> simp
              clear hz hZ
              go_cut [153] (fun s153 wx => s153 = .bool false ∧ wx = z4)
              case first =>
                as_aux_lemma =>
                go_wp2_with fail
                all_goals go_meet
                exact ⟨rfl, rfl⟩
              case rest =>
                obtain ⟨rfl, rfl⟩ := hcut
                obtain ⟨y0, y1, y2, y3, _⟩ := W4.out
                go_upto_region 22 with fail
                clear y0 y1 y2 y3
                cases hA : (a != -1) with
                | true =>
                  cases hB : (b != -1) with
                  | true =>
                    refine wp_region_inv (by kernel_rfl) (R2211I (fun t174 t175 t176 t177 t178 t179 t180 t181 t182 t183 t184 t185 t186 t187 t188 t189 t190 t191 t192 t193 t194 t195 t196 t197 t198 t199 t200 t201 t202 t203 t204 t4 => #[.int .i64 a, .int .i64 b, undef, undef, t4, .pointer (some ⟨cs, 0, none⟩), .bool true, .pointer (some ⟨cd, 0, none⟩), .bool true, .bool O, .bool U, .pointer (some ⟨cn, 0, none⟩), .pointer (some ⟨cp, 0, none⟩), undef, u14, u15, u16, u17, u18, u19, u20, u21, u22, u23, u24, u25, u26, u27, u28, u29, u30, u31, u32, u33, u34, u35, u36, u37, u38, u39, u40, u41, u42, u43, u44, u45, u46, u47, u48, u49, u50, u51, u52, u53, u54, u55, u56, u57, u58, u59, u60, u61, u62, u63, u64, u65, u66, u67, u68, u69, u70, u71, u72, u73, u74, u75, u76, u77, u78, u79, u80, u81, u82, u83, u84, u85, u86, u87, u88, u89, u90, u91, u92, u93, u94, u95, u96, u97, u98, u99, u100, u101, u102, u103, u104, u105, u106, u107, u108, u109, u110, u111, u112, u113, u114, u115, u116, u117, u118, u119, u120, u121, u122, u123, u124, u125, u126, u127, u128, u129, u130, u131, u132, u133, u134, u135, u136, u137, u138, u139, u140, u141, u142, u143, u144, u145, u146, u147, u148, u149, u150, u151, u152, .bool false, u154, u155, u156, .pointer (some ⟨cp, 0, none⟩), .int .i64 1, .bool false, u160, u161, u162, u163, u164, u165, u166, u167, u168, u169, u170, u171, u172, u173, t174, t175, t176, t177, t178, t179, t180, t181, t182, t183, t184, t185, t186, t187, t188, t189, t190, t191, t192, t193, t194, t195, t196, t197, t198, t199, t200, t201, t202, t203, t204]) wc a b (wrap64 (a * b))) ?_ (by kernel_rfl) ?_ ?_ ?_
                    · rintro D D' c w1 hD ⟨t174, t175, t176, t177, t178, t179, t180, t181, t182, t183, t184, t185, t186, t187, t188, t189, t190, t191, t192, t193, t194, t195, t196, t197, t198, t199, t200, t201, t202, t203, t204, t4, h, hK⟩
                      have e : D = D' := funext fun j => propext (hD j)
                      subst e
                      exact ⟨t174, t175, t176, t177, t178, t179, t180, t181, t182, t183, t184, t185, t186, t187, t188, t189, t190, t191, t192, t193, t194, t195, t196, t197, t198, t199, t200, t201, t202, t203, t204, t4, h, hK⟩
                    · intro D hD
                      exact ⟨_, _, _, _, _, _, _, _, _, _, _, _, _, _, _, _, _, _, _, _, _, _, _, _, _, _, _, _, _, _, _, _, rfl, (Below.refl _ _).drew, fun h => absurd h (hD _), fun h => absurd h (hD _), fun h => absurd h (hD _), fun h => absurd h (hD _), fun h => absurd h (hD _), fun h => absurd h (hD _), fun h => absurd h (hD _), fun h => absurd h (hD _), fun h => absurd h (hD _), fun h => absurd h (hD _), fun h => absurd h (hD _), fun h => absurd h (hD _), fun h => absurd h (hD _), fun h => absurd h (hD _), fun h => absurd h (hD _), fun h => absurd h (hD _), fun h => absurd h (hD _), fun h => absurd h (hD _), fun h => absurd h (hD _), fun h => absurd h (hD _), fun h => absurd h (hD _), fun h => absurd h (hD _), fun h => absurd h (hD _), fun h => absurd h (hD _), fun h => absurd h (hD _), fun h => absurd h (hD _), fun h => absurd h (hD _), fun h => absurd h (hD _), fun h => absurd h (hD _), fun h => absurd h (hD _), fun h => absurd h (hD _), fun h => absurd h (hD _)⟩
                    · intro D c w1 hI j o hi hnd hdep
                      obtain ⟨t174, t175, t176, t177, t178, t179, t180, t181, t182, t183, t184, t185, t186, t187, t188, t189, t190, t191, t192, t193, t194, t195, t196, t197, t198, t199, t200, t201, t202, t203, t204, t4, rfl, hK⟩ := hI
                      have hlt : j < 32 := (Array.getElem?_eq_some_iff.1 hi).1
                      match j, hlt with
                      | 0, _ =>
                        as_aux_lemma =>
                        cases hi
                        obtain ⟨y0, y1, y2, y3, _⟩ := W4.out.on hK.bel
                        simp [wpOp, Region.wanted, Oper.wp, execOp, go_sem, Oper.upon, Act.eval, Act.put, y0, y1, y2, y3]
                        exact Or.inl ⟨_, _, _, _, _, _, _, _, _, _, _, _, _, _, _, _, _, _, _, _, _, _, _, _, _, _, _, _, _, _, _, _, rfl, hK.n0 (Below.refl _ _)⟩
                      | 1, _ =>
                        as_aux_lemma =>
                        cases hi
                        simp [wpOp, Region.wanted, Oper.wp, execOp, go_sem, Oper.upon, Act.eval, Act.put]
                        exact Or.inl ⟨_, _, _, _, _, _, _, _, _, _, _, _, _, _, _, _, _, _, _, _, _, _, _, _, _, _, _, _, _, _, _, _, rfl, hK.n1 (Below.refl _ _)⟩
                      | 2, _ =>
                        as_aux_lemma =>
                        cases hi
                        simp [wpOp, Region.wanted, Oper.wp, execOp, go_sem, Oper.upon, Act.eval, Act.put]
                        exact Or.inl ⟨_, _, _, _, _, _, _, _, _, _, _, _, _, _, _, _, _, _, _, _, _, _, _, _, _, _, _, _, _, _, _, _, rfl, hK.n2 (Below.refl _ _)⟩
                      | 3, _ =>
                        as_aux_lemma =>
                        cases hi
                        simp [Region.binds] at hdep
                        obtain rfl := hK.f1 (by first | exact hdep | exact hdep.1 | exact hdep.2 | exact hdep.2.1 | exact hdep.2.2 | exact hdep.2.2.1 | exact hdep.2.2.2 | exact hdep.2.2.2.1 | exact hdep.2.2.2.2)
                        obtain rfl := hK.f2 (by first | exact hdep | exact hdep.1 | exact hdep.2 | exact hdep.2.1 | exact hdep.2.2 | exact hdep.2.2.1 | exact hdep.2.2.2 | exact hdep.2.2.2.1 | exact hdep.2.2.2.2)
                        simp [wpOp, Region.wanted, Oper.wp, execOp, go_sem, Oper.upon, Act.eval, Act.put, wrapEq]
                        exact Or.inl ⟨_, _, _, _, _, _, _, _, _, _, _, _, _, _, _, _, _, _, _, _, _, _, _, _, _, _, _, _, _, _, _, _, rfl, hK.n3 (Below.refl _ _)⟩
                      | 4, _ =>
                        as_aux_lemma =>
                        cases hi
                        simp [Region.binds] at hdep
                        obtain rfl := hK.f3 (by first | exact hdep | exact hdep.1 | exact hdep.2 | exact hdep.2.1 | exact hdep.2.2 | exact hdep.2.2.1 | exact hdep.2.2.2 | exact hdep.2.2.2.1 | exact hdep.2.2.2.2)
                        simp [wpOp, Region.wanted, Oper.wp, go_sem, Oper.upon, Act.eval, Act.put]
                        refine Or.inl ((HN.out _ w1).mono ?_)
                        rintro e w2 ⟨hb, rfl⟩
                        exact ⟨_, _, _, _, _, _, _, _, _, _, _, _, _, _, _, _, _, _, _, _, _, _, _, _, _, _, _, _, _, _, _, _, rfl, hK.n4 hb⟩
                      | 5, _ =>
                        as_aux_lemma =>
                        cases hi
                        simp [Region.binds] at hdep
                        obtain rfl := hK.f0 (by first | exact hdep | exact hdep.1 | exact hdep.2 | exact hdep.2.1 | exact hdep.2.2 | exact hdep.2.2.1 | exact hdep.2.2.2 | exact hdep.2.2.2.1 | exact hdep.2.2.2.2)
                        obtain rfl := hK.f4 (by first | exact hdep | exact hdep.1 | exact hdep.2 | exact hdep.2.1 | exact hdep.2.2 | exact hdep.2.2.1 | exact hdep.2.2.2 | exact hdep.2.2.2.1 | exact hdep.2.2.2.2)
                        simp [wpOp, Region.wanted, Oper.wp, go_sem, Oper.upon, Act.eval, Act.put]
                        refine Or.inl ((same_t 1 _ w1).mono ?_)
                        rintro e w2 ⟨hb, rfl⟩
                        exact ⟨_, _, _, _, _, _, _, _, _, _, _, _, _, _, _, _, _, _, _, _, _, _, _, _, _, _, _, _, _, _, _, _, rfl, hK.n5 hb⟩
                      | 6, _ =>
                        as_aux_lemma =>
                        cases hi
                        simp [Region.binds] at hdep
                        obtain rfl := hK.f5 (by first | exact hdep | exact hdep.1 | exact hdep.2 | exact hdep.2.1 | exact hdep.2.2 | exact hdep.2.2.1 | exact hdep.2.2.2 | exact hdep.2.2.2.1 | exact hdep.2.2.2.2)
                        simp [wpOp, Region.wanted, Oper.wp, execOp, go_sem, Oper.upon, Act.eval, Act.put]
                        exact Or.inl ⟨_, _, _, _, _, _, _, _, _, _, _, _, _, _, _, _, _, _, _, _, _, _, _, _, _, _, _, _, _, _, _, _, rfl, hK.n6 (Below.refl _ _)⟩
                      | 7, _ =>
                        as_aux_lemma =>
                        cases hi
                        simp [Region.binds] at hdep
                        obtain rfl := hK.f6 (by first | exact hdep | exact hdep.1 | exact hdep.2 | exact hdep.2.1 | exact hdep.2.2 | exact hdep.2.2.1 | exact hdep.2.2.2 | exact hdep.2.2.2.1 | exact hdep.2.2.2.2)
                        simp [wpOp, Region.wanted, yielded, Oper.wp, execOp, go_sem, Oper.upon, Act.eval, Act.put]
                        exact Or.inl ⟨_, _, _, _, _, _, _, _, _, _, _, _, _, _, _, _, _, _, _, _, _, _, _, _, _, _, _, _, _, _, _, _, rfl, hK.n7 (Below.refl _ _)⟩
                      | 8, _ =>
                        as_aux_lemma =>
                        cases hi
                        simp [Region.binds] at hdep
                        obtain rfl := hK.f7 (by first | exact hdep | exact hdep.1 | exact hdep.2 | exact hdep.2.1 | exact hdep.2.2 | exact hdep.2.2.1 | exact hdep.2.2.2 | exact hdep.2.2.2.1 | exact hdep.2.2.2.2)
                        obtain rfl := hK.f6 (by first | exact hdep | exact hdep.1 | exact hdep.2 | exact hdep.2.1 | exact hdep.2.2 | exact hdep.2.2.1 | exact hdep.2.2.2 | exact hdep.2.2.2.1 | exact hdep.2.2.2.2)
                        simp [wpOp, Region.wanted, yielded, Oper.wp, execOp, go_sem, Oper.upon, Act.eval, Act.put, hA]
                        exact Or.inl ⟨_, _, _, _, _, _, _, _, _, _, _, _, _, _, _, _, _, _, _, _, _, _, _, _, _, _, _, _, _, _, _, _, rfl, hK.n8 (Below.refl _ _)⟩
                      | 9, _ =>
                        as_aux_lemma =>
                        cases hi
                        simp [Region.binds] at hdep
                        obtain rfl := hK.f8 (by first | exact hdep | exact hdep.1 | exact hdep.2 | exact hdep.2.1 | exact hdep.2.2 | exact hdep.2.2.1 | exact hdep.2.2.2 | exact hdep.2.2.2.1 | exact hdep.2.2.2.2)
                        obtain rfl := hK.f6 (by first | exact hdep | exact hdep.1 | exact hdep.2 | exact hdep.2.1 | exact hdep.2.2 | exact hdep.2.2.1 | exact hdep.2.2.2 | exact hdep.2.2.2.1 | exact hdep.2.2.2.2)
                        simp [wpOp, Region.wanted, yielded, Oper.wp, execOp, go_sem, Oper.upon, Act.eval, Act.put]
                        exact Or.inl ⟨_, _, _, _, _, _, _, _, _, _, _, _, _, _, _, _, _, _, _, _, _, _, _, _, _, _, _, _, _, _, _, _, rfl, hK.n9 (Below.refl _ _)⟩
                      | 10, _ =>
                        as_aux_lemma =>
                        cases hi
                        simp [Region.binds] at hdep
                        obtain rfl := hK.f9 (by first | exact hdep | exact hdep.1 | exact hdep.2 | exact hdep.2.1 | exact hdep.2.2 | exact hdep.2.2.1 | exact hdep.2.2.2 | exact hdep.2.2.2.1 | exact hdep.2.2.2.2)
                        simp [wpOp, Region.wanted, yielded, go_sem, Act.put]
                        exact ⟨_, _, _, _, _, _, _, _, _, _, _, _, _, _, _, _, _, _, _, _, _, _, _, _, _, _, _, _, _, _, _, _, rfl, hK.n10 (Below.refl _ _)⟩
                      | 11, _ =>
                        as_aux_lemma =>
                        cases hi
                        simp [Region.binds] at hdep
                        obtain rfl := hK.f9 (by first | exact hdep | exact hdep.1 | exact hdep.2 | exact hdep.2.1 | exact hdep.2.2 | exact hdep.2.2.1 | exact hdep.2.2.2 | exact hdep.2.2.2.1 | exact hdep.2.2.2.2)
                        simp [wpOp, Region.wanted, yielded, go_sem, Act.put]
                        exact ⟨_, _, _, _, _, _, _, _, _, _, _, _, _, _, _, _, _, _, _, _, _, _, _, _, _, _, _, _, _, _, _, _, rfl, hK.n11 (Below.refl _ _)⟩
                      | 12, _ =>
                        as_aux_lemma =>
                        cases hi
                        simp [Region.binds] at hdep
                        obtain rfl := hK.f9 (by first | exact hdep | exact hdep.1 | exact hdep.2 | exact hdep.2.1 | exact hdep.2.2 | exact hdep.2.2.1 | exact hdep.2.2.2 | exact hdep.2.2.2.1 | exact hdep.2.2.2.2)
                        obtain rfl := hK.f11 (by first | exact hdep | exact hdep.1 | exact hdep.2 | exact hdep.2.1 | exact hdep.2.2 | exact hdep.2.2.1 | exact hdep.2.2.2 | exact hdep.2.2.2.1 | exact hdep.2.2.2.2)
                        obtain rfl := hK.f6 (by first | exact hdep | exact hdep.1 | exact hdep.2 | exact hdep.2.1 | exact hdep.2.2 | exact hdep.2.2.1 | exact hdep.2.2.2 | exact hdep.2.2.2.1 | exact hdep.2.2.2.2)
                        simp [wpOp, Region.wanted, yielded, Oper.wp, execOp, go_sem, Oper.upon, Act.eval, Act.put]
                        exact Or.inl ⟨_, _, _, _, _, _, _, _, _, _, _, _, _, _, _, _, _, _, _, _, _, _, _, _, _, _, _, _, _, _, _, _, rfl, hK.n12 (Below.refl _ _)⟩
                      | 13, _ =>
                        as_aux_lemma =>
                        cases hi
                        simp [Region.binds] at hdep
                        obtain rfl := hK.f6 (by first | exact hdep | exact hdep.1 | exact hdep.2 | exact hdep.2.1 | exact hdep.2.2 | exact hdep.2.2.1 | exact hdep.2.2.2 | exact hdep.2.2.2.1 | exact hdep.2.2.2.2)
                        obtain rfl := hK.f12 (by first | exact hdep | exact hdep.1 | exact hdep.2 | exact hdep.2.1 | exact hdep.2.2 | exact hdep.2.2.1 | exact hdep.2.2.2 | exact hdep.2.2.2.1 | exact hdep.2.2.2.2)
                        simp [wpOp, Region.wanted, Oper.wp, execOp, go_sem, Oper.upon, Act.eval, Act.put]
                        exact Or.inl ⟨_, _, _, _, _, _, _, _, _, _, _, _, _, _, _, _, _, _, _, _, _, _, _, _, _, _, _, _, _, _, _, _, rfl, hK.n13 (Below.refl _ _)⟩
                      | 14, _ =>
                        as_aux_lemma =>
                        cases hi
                        simp [Region.binds] at hdep
                        obtain rfl := hK.f13 (by first | exact hdep | exact hdep.1 | exact hdep.2 | exact hdep.2.1 | exact hdep.2.2 | exact hdep.2.2.1 | exact hdep.2.2.2 | exact hdep.2.2.2.1 | exact hdep.2.2.2.2)
                        simp [wpOp, Region.wanted, Oper.wp, execOp, go_sem, Oper.upon, Act.eval, Act.put]
                        exact Or.inl ⟨_, _, _, _, _, _, _, _, _, _, _, _, _, _, _, _, _, _, _, _, _, _, _, _, _, _, _, _, _, _, _, _, rfl, hK.n14 (Below.refl _ _)⟩
                      | 15, _ =>
                        as_aux_lemma =>
                        cases hi
                        simp [Region.binds] at hdep
                        obtain rfl := hK.f14 (by first | exact hdep | exact hdep.1 | exact hdep.2 | exact hdep.2.1 | exact hdep.2.2 | exact hdep.2.2.1 | exact hdep.2.2.2 | exact hdep.2.2.2.1 | exact hdep.2.2.2.2)
                        simp [wpOp, Region.wanted, yielded, Oper.wp, execOp, go_sem, Oper.upon, Act.eval, Act.put]
                        exact Or.inl ⟨_, _, _, _, _, _, _, _, _, _, _, _, _, _, _, _, _, _, _, _, _, _, _, _, _, _, _, _, _, _, _, _, rfl, hK.n15 (Below.refl _ _)⟩
                      | 16, _ =>
                        as_aux_lemma =>
                        cases hi
                        simp [Region.binds] at hdep
                        obtain rfl := hK.f15 (by first | exact hdep | exact hdep.1 | exact hdep.2 | exact hdep.2.1 | exact hdep.2.2 | exact hdep.2.2.1 | exact hdep.2.2.2 | exact hdep.2.2.2.1 | exact hdep.2.2.2.2)
                        obtain rfl := hK.f14 (by first | exact hdep | exact hdep.1 | exact hdep.2 | exact hdep.2.1 | exact hdep.2.2 | exact hdep.2.2.1 | exact hdep.2.2.2 | exact hdep.2.2.2.1 | exact hdep.2.2.2.2)
                        simp [wpOp, Region.wanted, yielded, Oper.wp, execOp, go_sem, Oper.upon, Act.eval, Act.put, hB]
                        exact Or.inl ⟨_, _, _, _, _, _, _, _, _, _, _, _, _, _, _, _, _, _, _, _, _, _, _, _, _, _, _, _, _, _, _, _, rfl, hK.n16 (Below.refl _ _)⟩
                      | 17, _ =>
                        as_aux_lemma =>
                        cases hi
                        simp [Region.binds] at hdep
                        obtain rfl := hK.f16 (by first | exact hdep | exact hdep.1 | exact hdep.2 | exact hdep.2.1 | exact hdep.2.2 | exact hdep.2.2.1 | exact hdep.2.2.2 | exact hdep.2.2.2.1 | exact hdep.2.2.2.2)
                        obtain rfl := hK.f14 (by first | exact hdep | exact hdep.1 | exact hdep.2 | exact hdep.2.1 | exact hdep.2.2 | exact hdep.2.2.1 | exact hdep.2.2.2 | exact hdep.2.2.2.1 | exact hdep.2.2.2.2)
                        simp [wpOp, Region.wanted, yielded, Oper.wp, execOp, go_sem, Oper.upon, Act.eval, Act.put]
                        exact Or.inl ⟨_, _, _, _, _, _, _, _, _, _, _, _, _, _, _, _, _, _, _, _, _, _, _, _, _, _, _, _, _, _, _, _, rfl, hK.n17 (Below.refl _ _)⟩
                      | 18, _ =>
                        as_aux_lemma =>
                        cases hi
                        simp [Region.binds] at hdep
                        obtain rfl := hK.f17 (by first | exact hdep | exact hdep.1 | exact hdep.2 | exact hdep.2.1 | exact hdep.2.2 | exact hdep.2.2.1 | exact hdep.2.2.2 | exact hdep.2.2.2.1 | exact hdep.2.2.2.2)
                        simp [wpOp, Region.wanted, yielded, go_sem, Act.put]
                        exact ⟨_, _, _, _, _, _, _, _, _, _, _, _, _, _, _, _, _, _, _, _, _, _, _, _, _, _, _, _, _, _, _, _, rfl, hK.n18 (Below.refl _ _)⟩
                      | 19, _ =>
                        as_aux_lemma =>
                        cases hi
                        simp [Region.binds] at hdep
                        obtain rfl := hK.f17 (by first | exact hdep | exact hdep.1 | exact hdep.2 | exact hdep.2.1 | exact hdep.2.2 | exact hdep.2.2.1 | exact hdep.2.2.2 | exact hdep.2.2.2.1 | exact hdep.2.2.2.2)
                        simp [wpOp, Region.wanted, yielded, go_sem, Act.put]
                        exact ⟨_, _, _, _, _, _, _, _, _, _, _, _, _, _, _, _, _, _, _, _, _, _, _, _, _, _, _, _, _, _, _, _, rfl, hK.n19 (Below.refl _ _)⟩
                      | 20, _ =>
                        as_aux_lemma =>
                        cases hi
                        simp [Region.binds] at hdep
                        obtain rfl := hK.f17 (by first | exact hdep | exact hdep.1 | exact hdep.2 | exact hdep.2.1 | exact hdep.2.2 | exact hdep.2.2.1 | exact hdep.2.2.2 | exact hdep.2.2.2.1 | exact hdep.2.2.2.2)
                        obtain rfl := hK.f19 (by first | exact hdep | exact hdep.1 | exact hdep.2 | exact hdep.2.1 | exact hdep.2.2 | exact hdep.2.2.1 | exact hdep.2.2.2 | exact hdep.2.2.2.1 | exact hdep.2.2.2.2)
                        obtain rfl := hK.f14 (by first | exact hdep | exact hdep.1 | exact hdep.2 | exact hdep.2.1 | exact hdep.2.2 | exact hdep.2.2.1 | exact hdep.2.2.2 | exact hdep.2.2.2.1 | exact hdep.2.2.2.2)
                        simp [wpOp, Region.wanted, yielded, Oper.wp, execOp, go_sem, Oper.upon, Act.eval, Act.put]
                        exact Or.inl ⟨_, _, _, _, _, _, _, _, _, _, _, _, _, _, _, _, _, _, _, _, _, _, _, _, _, _, _, _, _, _, _, _, rfl, hK.n20 (Below.refl _ _)⟩
                      | 21, _ =>
                        as_aux_lemma =>
                        cases hi
                        simp [Region.binds] at hdep
                        obtain rfl := hK.f14 (by first | exact hdep | exact hdep.1 | exact hdep.2 | exact hdep.2.1 | exact hdep.2.2 | exact hdep.2.2.1 | exact hdep.2.2.2 | exact hdep.2.2.2.1 | exact hdep.2.2.2.2)
                        obtain rfl := hK.f20 (by first | exact hdep | exact hdep.1 | exact hdep.2 | exact hdep.2.1 | exact hdep.2.2 | exact hdep.2.2.1 | exact hdep.2.2.2 | exact hdep.2.2.2.1 | exact hdep.2.2.2.2)
                        simp [wpOp, Region.wanted, Oper.wp, execOp, go_sem, Oper.upon, Act.eval, Act.put]
                        exact Or.inl ⟨_, _, _, _, _, _, _, _, _, _, _, _, _, _, _, _, _, _, _, _, _, _, _, _, _, _, _, _, _, _, _, _, rfl, hK.n21 (Below.refl _ _)⟩
                      | 22, _ =>
                        as_aux_lemma =>
                        cases hi
                        simp [Region.binds] at hdep
                        obtain rfl := hK.f21 (by first | exact hdep | exact hdep.1 | exact hdep.2 | exact hdep.2.1 | exact hdep.2.2 | exact hdep.2.2.1 | exact hdep.2.2.2 | exact hdep.2.2.2.1 | exact hdep.2.2.2.2)
                        simp [wpOp, Region.wanted, Oper.wp, execOp, go_sem, Oper.upon, Act.eval, Act.put]
                        exact Or.inl ⟨_, _, _, _, _, _, _, _, _, _, _, _, _, _, _, _, _, _, _, _, _, _, _, _, _, _, _, _, _, _, _, _, rfl, hK.n22 (Below.refl _ _)⟩
                      | 23, _ =>
                        as_aux_lemma =>
                        cases hi
                        simp [Region.binds] at hdep
                        obtain rfl := hK.f22 (by first | exact hdep | exact hdep.1 | exact hdep.2 | exact hdep.2.1 | exact hdep.2.2 | exact hdep.2.2.1 | exact hdep.2.2.2 | exact hdep.2.2.2.1 | exact hdep.2.2.2.2)
                        simp [wpOp, Region.wanted, yielded, Oper.wp, execOp, go_sem, Oper.upon, Act.eval, Act.put]
                        exact Or.inl ⟨_, _, _, _, _, _, _, _, _, _, _, _, _, _, _, _, _, _, _, _, _, _, _, _, _, _, _, _, _, _, _, _, rfl, hK.n23 (Below.refl _ _)⟩
                      | 24, _ =>
                        as_aux_lemma =>
                        cases hi
                        simp [Region.binds] at hdep
                        obtain rfl := hK.f22 (by first | exact hdep | exact hdep.1 | exact hdep.2 | exact hdep.2.1 | exact hdep.2.2 | exact hdep.2.2.1 | exact hdep.2.2.2 | exact hdep.2.2.2.1 | exact hdep.2.2.2.2)
                        simp [wpOp, Region.wanted, yielded, Oper.wp, execOp, go_sem, Oper.upon, Act.eval, Act.put]
                        exact Or.inl ⟨_, _, _, _, _, _, _, _, _, _, _, _, _, _, _, _, _, _, _, _, _, _, _, _, _, _, _, _, _, _, _, _, rfl, hK.n24 (Below.refl _ _)⟩
                      | 25, _ =>
                        as_aux_lemma =>
                        cases hi
                        simp [Region.binds] at hdep
                        obtain rfl := hK.f23 (by first | exact hdep | exact hdep.1 | exact hdep.2 | exact hdep.2.1 | exact hdep.2.2 | exact hdep.2.2.1 | exact hdep.2.2.2 | exact hdep.2.2.2.1 | exact hdep.2.2.2.2)
                        obtain rfl := hK.f24 (by first | exact hdep | exact hdep.1 | exact hdep.2 | exact hdep.2.1 | exact hdep.2.2 | exact hdep.2.2.1 | exact hdep.2.2.2 | exact hdep.2.2.2.1 | exact hdep.2.2.2.2)
                        obtain rfl := hK.f22 (by first | exact hdep | exact hdep.1 | exact hdep.2 | exact hdep.2.1 | exact hdep.2.2 | exact hdep.2.2.1 | exact hdep.2.2.2 | exact hdep.2.2.2.1 | exact hdep.2.2.2.2)
                        simp [wpOp, Region.wanted, yielded, Oper.wp, execOp, go_sem, Oper.upon, Act.eval, Act.put, wrapEq]
                        exact Or.inl ⟨_, _, _, _, _, _, _, _, _, _, _, _, _, _, _, _, _, _, _, _, _, _, _, _, _, _, _, _, _, _, _, _, rfl, hK.n25 (Below.refl _ _)⟩
                      | 26, _ =>
                        as_aux_lemma =>
                        cases hi
                        simp [Region.binds] at hdep
                        obtain rfl := hK.f22 (by first | exact hdep | exact hdep.1 | exact hdep.2 | exact hdep.2.1 | exact hdep.2.2 | exact hdep.2.2.1 | exact hdep.2.2.2 | exact hdep.2.2.2.1 | exact hdep.2.2.2.2)
                        simp [wpOp, Region.wanted, yielded, Oper.wp, execOp, go_sem, Oper.upon, Act.eval, Act.put]
                        exact Or.inl ⟨_, _, _, _, _, _, _, _, _, _, _, _, _, _, _, _, _, _, _, _, _, _, _, _, _, _, _, _, _, _, _, _, rfl, hK.n26 (Below.refl _ _)⟩
                      | 27, _ =>
                        as_aux_lemma =>
                        cases hi
                        simp [Region.binds] at hdep
                        obtain rfl := hK.f25 (by first | exact hdep | exact hdep.1 | exact hdep.2 | exact hdep.2.1 | exact hdep.2.2 | exact hdep.2.2.1 | exact hdep.2.2.2 | exact hdep.2.2.2.1 | exact hdep.2.2.2.2)
                        obtain rfl := hK.f26 (by first | exact hdep | exact hdep.1 | exact hdep.2 | exact hdep.2.1 | exact hdep.2.2 | exact hdep.2.2.1 | exact hdep.2.2.2 | exact hdep.2.2.2.1 | exact hdep.2.2.2.2)
                        obtain rfl := hK.f22 (by first | exact hdep | exact hdep.1 | exact hdep.2 | exact hdep.2.1 | exact hdep.2.2 | exact hdep.2.2.1 | exact hdep.2.2.2 | exact hdep.2.2.2.1 | exact hdep.2.2.2.2)
                        simp [wpOp, Region.wanted, yielded, Oper.wp, execOp, go_sem, Oper.upon, Act.eval, Act.put, wrapEq, h0b, hQ]
                        exact Or.inl ⟨_, _, _, _, _, _, _, _, _, _, _, _, _, _, _, _, _, _, _, _, _, _, _, _, _, _, _, _, _, _, _, _, rfl, hK.n27 (Below.refl _ _)⟩
                      | 28, _ =>
                        as_aux_lemma =>
                        cases hi
                        simp [Region.binds] at hdep
                        obtain rfl := hK.f22 (by first | exact hdep | exact hdep.1 | exact hdep.2 | exact hdep.2.1 | exact hdep.2.2 | exact hdep.2.2.1 | exact hdep.2.2.2 | exact hdep.2.2.2.1 | exact hdep.2.2.2.2)
                        simp [wpOp, Region.wanted, yielded, Oper.wp, execOp, go_sem, Oper.upon, Act.eval, Act.put]
                        exact Or.inl ⟨_, _, _, _, _, _, _, _, _, _, _, _, _, _, _, _, _, _, _, _, _, _, _, _, _, _, _, _, _, _, _, _, rfl, hK.n28 (Below.refl _ _)⟩
                      | 29, _ =>
                        as_aux_lemma =>
                        cases hi
                        simp [Region.binds] at hdep
                        obtain rfl := hK.f27 (by first | exact hdep | exact hdep.1 | exact hdep.2 | exact hdep.2.1 | exact hdep.2.2 | exact hdep.2.2.1 | exact hdep.2.2.2 | exact hdep.2.2.2.1 | exact hdep.2.2.2.2)
                        obtain rfl := hK.f28 (by first | exact hdep | exact hdep.1 | exact hdep.2 | exact hdep.2.1 | exact hdep.2.2 | exact hdep.2.2.1 | exact hdep.2.2.2 | exact hdep.2.2.2.1 | exact hdep.2.2.2.2)
                        obtain rfl := hK.f22 (by first | exact hdep | exact hdep.1 | exact hdep.2 | exact hdep.2.1 | exact hdep.2.2 | exact hdep.2.2.1 | exact hdep.2.2.2 | exact hdep.2.2.2.1 | exact hdep.2.2.2.2)
                        simp [wpOp, Region.wanted, yielded, Oper.wp, execOp, go_sem, Oper.upon, Act.eval, Act.put]
                        exact Or.inl ⟨_, _, _, _, _, _, _, _, _, _, _, _, _, _, _, _, _, _, _, _, _, _, _, _, _, _, _, _, _, _, _, _, rfl, hK.n29 (Below.refl _ _)⟩
                      | 30, _ =>
                        as_aux_lemma =>
                        cases hi
                        simp [Region.binds] at hdep
                        obtain rfl := hK.f22 (by first | exact hdep | exact hdep.1 | exact hdep.2 | exact hdep.2.1 | exact hdep.2.2 | exact hdep.2.2.1 | exact hdep.2.2.2 | exact hdep.2.2.2.1 | exact hdep.2.2.2.2)
                        obtain rfl := hK.f29 (by first | exact hdep | exact hdep.1 | exact hdep.2 | exact hdep.2.1 | exact hdep.2.2 | exact hdep.2.2.1 | exact hdep.2.2.2 | exact hdep.2.2.2.1 | exact hdep.2.2.2.2)
                        simp [wpOp, Region.wanted, Oper.wp, execOp, go_sem, Oper.upon, Act.eval, Act.put]
                        exact Or.inl ⟨_, _, _, _, _, _, _, _, _, _, _, _, _, _, _, _, _, _, _, _, _, _, _, _, _, _, _, _, _, _, _, _, rfl, hK.n30 (Below.refl _ _)⟩
                      | 31, _ =>
                        as_aux_lemma =>
                        cases hi
                        simp [Region.binds] at hdep
                        obtain rfl := hK.f30 (by first | exact hdep | exact hdep.1 | exact hdep.2 | exact hdep.2.1 | exact hdep.2.2 | exact hdep.2.2.1 | exact hdep.2.2.2 | exact hdep.2.2.2.1 | exact hdep.2.2.2.2)
                        simp [wpOp, Region.wanted, Oper.wp, execOp, go_sem, Oper.upon, Act.eval, Act.put]
                        exact Or.inl ⟨_, _, _, _, _, _, _, _, _, _, _, _, _, _, _, _, _, _, _, _, _, _, _, _, _, _, _, _, _, _, _, _, rfl, hK.n31 (Below.refl _ _)⟩
                    · intro D c w1 hI hall
                      obtain ⟨t174, t175, t176, t177, t178, t179, t180, t181, t182, t183, t184, t185, t186, t187, t188, t189, t190, t191, t192, t193, t194, t195, t196, t197, t198, t199, t200, t201, t202, t203, t204, t4, rfl, hK⟩ := hI
                      obtain rfl := hK.f31 (hall _ (by decide))
                      go_wp2_with fail
                      go_ret
                      exact ⟨rfl, C4.out.trans (hK.bel.mono C4.out.size)⟩
                  | false =>
                    have hA2 := hX hB
                    refine wp_region_inv (by kernel_rfl) (R2210I (fun t174 t175 t176 t177 t178 t179 t180 t181 t182 t183 t184 t185 t186 t187 t188 t189 t190 t191 t192 t193 t194 t195 t196 t197 t198 t199 t200 t201 t202 t203 t204 t4 => #[.int .i64 a, .int .i64 b, undef, undef, t4, .pointer (some ⟨cs, 0, none⟩), .bool true, .pointer (some ⟨cd, 0, none⟩), .bool true, .bool O, .bool U, .pointer (some ⟨cn, 0, none⟩), .pointer (some ⟨cp, 0, none⟩), undef, u14, u15, u16, u17, u18, u19, u20, u21, u22, u23, u24, u25, u26, u27, u28, u29, u30, u31, u32, u33, u34, u35, u36, u37, u38, u39, u40, u41, u42, u43, u44, u45, u46, u47, u48, u49, u50, u51, u52, u53, u54, u55, u56, u57, u58, u59, u60, u61, u62, u63, u64, u65, u66, u67, u68, u69, u70, u71, u72, u73, u74, u75, u76, u77, u78, u79, u80, u81, u82, u83, u84, u85, u86, u87, u88, u89, u90, u91, u92, u93, u94, u95, u96, u97, u98, u99, u100, u101, u102, u103, u104, u105, u106, u107, u108, u109, u110, u111, u112, u113, u114, u115, u116, u117, u118, u119, u120, u121, u122, u123, u124, u125, u126, u127, u128, u129, u130, u131, u132, u133, u134, u135, u136, u137, u138, u139, u140, u141, u142, u143, u144, u145, u146, u147, u148, u149, u150, u151, u152, .bool false, u154, u155, u156, .pointer (some ⟨cp, 0, none⟩), .int .i64 1, .bool false, u160, u161, u162, u163, u164, u165, u166, u167, u168, u169, u170, u171, u172, u173, t174, t175, t176, t177, t178, t179, t180, t181, t182, t183, t184, t185, t186, t187, t188, t189, t190, t191, t192, t193, t194, t195, t196, t197, t198, t199, t200, t201, t202, t203, t204]) wc a b (wrap64 (a * b))) ?_ (by kernel_rfl) ?_ ?_ ?_
                    · rintro D D' c w1 hD ⟨t174, t175, t176, t177, t178, t179, t180, t181, t182, t183, t184, t185, t186, t187, t188, t189, t190, t191, t192, t193, t194, t195, t196, t197, t198, t199, t200, t201, t202, t203, t204, t4, h, hK⟩
                      have e : D = D' := funext fun j => propext (hD j)
                      subst e
                      exact ⟨t174, t175, t176, t177, t178, t179, t180, t181, t182, t183, t184, t185, t186, t187, t188, t189, t190, t191, t192, t193, t194, t195, t196, t197, t198, t199, t200, t201, t202, t203, t204, t4, h, hK⟩
                    · intro D hD
                      exact ⟨_, _, _, _, _, _, _, _, _, _, _, _, _, _, _, _, _, _, _, _, _, _, _, _, _, _, _, _, _, _, _, _, rfl, (Below.refl _ _).drew, fun h => absurd h (hD _), fun h => absurd h (hD _), fun h => absurd h (hD _), fun h => absurd h (hD _), fun h => absurd h (hD _), fun h => absurd h (hD _), fun h => absurd h (hD _), fun h => absurd h (hD _), fun h => absurd h (hD _), fun h => absurd h (hD _), fun h => absurd h (hD _), fun h => absurd h (hD _), fun h => absurd h (hD _), fun h => absurd h (hD _), fun h => absurd h (hD _), fun h => absurd h (hD _), fun h => absurd h (hD _), fun h => absurd h (hD _), fun h => absurd h (hD _), fun h => absurd h (hD _), fun h => absurd h (hD _), fun h => absurd h (hD _), fun h => absurd h (hD _), fun h => absurd h (hD _), fun h => absurd h (hD _), fun h => absurd h (hD _), fun h => absurd h (hD _), fun h => absurd h (hD _), fun h => absurd h (hD _), fun h => absurd h (hD _), fun h => absurd h (hD _), fun h => absurd h (hD _)⟩
                    · intro D c w1 hI j o hi hnd hdep
                      obtain ⟨t174, t175, t176, t177, t178, t179, t180, t181, t182, t183, t184, t185, t186, t187, t188, t189, t190, t191, t192, t193, t194, t195, t196, t197, t198, t199, t200, t201, t202, t203, t204, t4, rfl, hK⟩ := hI
                      have hlt : j < 32 := (Array.getElem?_eq_some_iff.1 hi).1
                      match j, hlt with
                      | 0, _ =>
                        as_aux_lemma =>
                        cases hi
                        obtain ⟨y0, y1, y2, y3, _⟩ := W4.out.on hK.bel
                        simp [wpOp, Region.wanted, Oper.wp, execOp, go_sem, Oper.upon, Act.eval, Act.put, y0, y1, y2, y3]
                        exact Or.inl ⟨_, _, _, _, _, _, _, _, _, _, _, _, _, _, _, _, _, _, _, _, _, _, _, _, _, _, _, _, _, _, _, _, rfl, hK.n0 (Below.refl _ _)⟩
                      | 1, _ =>
                        as_aux_lemma =>
                        cases hi
                        simp [wpOp, Region.wanted, Oper.wp, execOp, go_sem, Oper.upon, Act.eval, Act.put]
                        exact Or.inl ⟨_, _, _, _, _, _, _, _, _, _, _, _, _, _, _, _, _, _, _, _, _, _, _, _, _, _, _, _, _, _, _, _, rfl, hK.n1 (Below.refl _ _)⟩
                      | 2, _ =>
                        as_aux_lemma =>
                        cases hi
                        simp [wpOp, Region.wanted, Oper.wp, execOp, go_sem, Oper.upon, Act.eval, Act.put]
                        exact Or.inl ⟨_, _, _, _, _, _, _, _, _, _, _, _, _, _, _, _, _, _, _, _, _, _, _, _, _, _, _, _, _, _, _, _, rfl, hK.n2 (Below.refl _ _)⟩
                      | 3, _ =>
                        as_aux_lemma =>
                        cases hi
                        simp [Region.binds] at hdep
                        obtain rfl := hK.f1 (by first | exact hdep | exact hdep.1 | exact hdep.2 | exact hdep.2.1 | exact hdep.2.2 | exact hdep.2.2.1 | exact hdep.2.2.2 | exact hdep.2.2.2.1 | exact hdep.2.2.2.2)
                        obtain rfl := hK.f2 (by first | exact hdep | exact hdep.1 | exact hdep.2 | exact hdep.2.1 | exact hdep.2.2 | exact hdep.2.2.1 | exact hdep.2.2.2 | exact hdep.2.2.2.1 | exact hdep.2.2.2.2)
                        simp [wpOp, Region.wanted, Oper.wp, execOp, go_sem, Oper.upon, Act.eval, Act.put, wrapEq]
                        exact Or.inl ⟨_, _, _, _, _, _, _, _, _, _, _, _, _, _, _, _, _, _, _, _, _, _, _, _, _, _, _, _, _, _, _, _, rfl, hK.n3 (Below.refl _ _)⟩
                      | 4, _ =>
                        as_aux_lemma =>
                        cases hi
                        simp [Region.binds] at hdep
                        obtain rfl := hK.f3 (by first | exact hdep | exact hdep.1 | exact hdep.2 | exact hdep.2.1 | exact hdep.2.2 | exact hdep.2.2.1 | exact hdep.2.2.2 | exact hdep.2.2.2.1 | exact hdep.2.2.2.2)
                        simp [wpOp, Region.wanted, Oper.wp, go_sem, Oper.upon, Act.eval, Act.put]
                        refine Or.inl ((HN.out _ w1).mono ?_)
                        rintro e w2 ⟨hb, rfl⟩
                        exact ⟨_, _, _, _, _, _, _, _, _, _, _, _, _, _, _, _, _, _, _, _, _, _, _, _, _, _, _, _, _, _, _, _, rfl, hK.n4 hb⟩
                      | 5, _ =>
                        as_aux_lemma =>
                        cases hi
                        simp [Region.binds] at hdep
                        obtain rfl := hK.f0 (by first | exact hdep | exact hdep.1 | exact hdep.2 | exact hdep.2.1 | exact hdep.2.2 | exact hdep.2.2.1 | exact hdep.2.2.2 | exact hdep.2.2.2.1 | exact hdep.2.2.2.2)
                        obtain rfl := hK.f4 (by first | exact hdep | exact hdep.1 | exact hdep.2 | exact hdep.2.1 | exact hdep.2.2 | exact hdep.2.2.1 | exact hdep.2.2.2 | exact hdep.2.2.2.1 | exact hdep.2.2.2.2)
                        simp [wpOp, Region.wanted, Oper.wp, go_sem, Oper.upon, Act.eval, Act.put]
                        refine Or.inl ((same_t 1 _ w1).mono ?_)
                        rintro e w2 ⟨hb, rfl⟩
                        exact ⟨_, _, _, _, _, _, _, _, _, _, _, _, _, _, _, _, _, _, _, _, _, _, _, _, _, _, _, _, _, _, _, _, rfl, hK.n5 hb⟩
                      | 6, _ =>
                        as_aux_lemma =>
                        cases hi
                        simp [Region.binds] at hdep
                        obtain rfl := hK.f5 (by first | exact hdep | exact hdep.1 | exact hdep.2 | exact hdep.2.1 | exact hdep.2.2 | exact hdep.2.2.1 | exact hdep.2.2.2 | exact hdep.2.2.2.1 | exact hdep.2.2.2.2)
                        simp [wpOp, Region.wanted, Oper.wp, execOp, go_sem, Oper.upon, Act.eval, Act.put]
                        exact Or.inl ⟨_, _, _, _, _, _, _, _, _, _, _, _, _, _, _, _, _, _, _, _, _, _, _, _, _, _, _, _, _, _, _, _, rfl, hK.n6 (Below.refl _ _)⟩
                      | 7, _ =>
                        as_aux_lemma =>
                        cases hi
                        simp [Region.binds] at hdep
                        obtain rfl := hK.f6 (by first | exact hdep | exact hdep.1 | exact hdep.2 | exact hdep.2.1 | exact hdep.2.2 | exact hdep.2.2.1 | exact hdep.2.2.2 | exact hdep.2.2.2.1 | exact hdep.2.2.2.2)
                        simp [wpOp, Region.wanted, yielded, Oper.wp, execOp, go_sem, Oper.upon, Act.eval, Act.put]
                        exact Or.inl ⟨_, _, _, _, _, _, _, _, _, _, _, _, _, _, _, _, _, _, _, _, _, _, _, _, _, _, _, _, _, _, _, _, rfl, hK.n7 (Below.refl _ _)⟩
                      | 8, _ =>
                        as_aux_lemma =>
                        cases hi
                        simp [Region.binds] at hdep
                        obtain rfl := hK.f7 (by first | exact hdep | exact hdep.1 | exact hdep.2 | exact hdep.2.1 | exact hdep.2.2 | exact hdep.2.2.1 | exact hdep.2.2.2 | exact hdep.2.2.2.1 | exact hdep.2.2.2.2)
                        obtain rfl := hK.f6 (by first | exact hdep | exact hdep.1 | exact hdep.2 | exact hdep.2.1 | exact hdep.2.2 | exact hdep.2.2.1 | exact hdep.2.2.2 | exact hdep.2.2.2.1 | exact hdep.2.2.2.2)
                        simp [wpOp, Region.wanted, yielded, Oper.wp, execOp, go_sem, Oper.upon, Act.eval, Act.put, hA]
                        exact Or.inl ⟨_, _, _, _, _, _, _, _, _, _, _, _, _, _, _, _, _, _, _, _, _, _, _, _, _, _, _, _, _, _, _, _, rfl, hK.n8 (Below.refl _ _)⟩
                      | 9, _ =>
                        as_aux_lemma =>
                        cases hi
                        simp [Region.binds] at hdep
                        obtain rfl := hK.f8 (by first | exact hdep | exact hdep.1 | exact hdep.2 | exact hdep.2.1 | exact hdep.2.2 | exact hdep.2.2.1 | exact hdep.2.2.2 | exact hdep.2.2.2.1 | exact hdep.2.2.2.2)
                        obtain rfl := hK.f6 (by first | exact hdep | exact hdep.1 | exact hdep.2 | exact hdep.2.1 | exact hdep.2.2 | exact hdep.2.2.1 | exact hdep.2.2.2 | exact hdep.2.2.2.1 | exact hdep.2.2.2.2)
                        simp [wpOp, Region.wanted, yielded, Oper.wp, execOp, go_sem, Oper.upon, Act.eval, Act.put]
                        exact Or.inl ⟨_, _, _, _, _, _, _, _, _, _, _, _, _, _, _, _, _, _, _, _, _, _, _, _, _, _, _, _, _, _, _, _, rfl, hK.n9 (Below.refl _ _)⟩
                      | 10, _ =>
                        as_aux_lemma =>
                        cases hi
                        simp [Region.binds] at hdep
                        obtain rfl := hK.f9 (by first | exact hdep | exact hdep.1 | exact hdep.2 | exact hdep.2.1 | exact hdep.2.2 | exact hdep.2.2.1 | exact hdep.2.2.2 | exact hdep.2.2.2.1 | exact hdep.2.2.2.2)
                        simp [wpOp, Region.wanted, yielded, go_sem, Act.put]
                        exact ⟨_, _, _, _, _, _, _, _, _, _, _, _, _, _, _, _, _, _, _, _, _, _, _, _, _, _, _, _, _, _, _, _, rfl, hK.n10 (Below.refl _ _)⟩
                      | 11, _ =>
                        as_aux_lemma =>
                        cases hi
                        simp [Region.binds] at hdep
                        obtain rfl := hK.f9 (by first | exact hdep | exact hdep.1 | exact hdep.2 | exact hdep.2.1 | exact hdep.2.2 | exact hdep.2.2.1 | exact hdep.2.2.2 | exact hdep.2.2.2.1 | exact hdep.2.2.2.2)
                        simp [wpOp, Region.wanted, yielded, go_sem, Act.put]
                        exact ⟨_, _, _, _, _, _, _, _, _, _, _, _, _, _, _, _, _, _, _, _, _, _, _, _, _, _, _, _, _, _, _, _, rfl, hK.n11 (Below.refl _ _)⟩
                      | 12, _ =>
                        as_aux_lemma =>
                        cases hi
                        simp [Region.binds] at hdep
                        obtain rfl := hK.f9 (by first | exact hdep | exact hdep.1 | exact hdep.2 | exact hdep.2.1 | exact hdep.2.2 | exact hdep.2.2.1 | exact hdep.2.2.2 | exact hdep.2.2.2.1 | exact hdep.2.2.2.2)
                        obtain rfl := hK.f11 (by first | exact hdep | exact hdep.1 | exact hdep.2 | exact hdep.2.1 | exact hdep.2.2 | exact hdep.2.2.1 | exact hdep.2.2.2 | exact hdep.2.2.2.1 | exact hdep.2.2.2.2)
                        obtain rfl := hK.f6 (by first | exact hdep | exact hdep.1 | exact hdep.2 | exact hdep.2.1 | exact hdep.2.2 | exact hdep.2.2.1 | exact hdep.2.2.2 | exact hdep.2.2.2.1 | exact hdep.2.2.2.2)
                        simp [wpOp, Region.wanted, yielded, Oper.wp, execOp, go_sem, Oper.upon, Act.eval, Act.put]
                        exact Or.inl ⟨_, _, _, _, _, _, _, _, _, _, _, _, _, _, _, _, _, _, _, _, _, _, _, _, _, _, _, _, _, _, _, _, rfl, hK.n12 (Below.refl _ _)⟩
                      | 13, _ =>
                        as_aux_lemma =>
                        cases hi
                        simp [Region.binds] at hdep
                        obtain rfl := hK.f6 (by first | exact hdep | exact hdep.1 | exact hdep.2 | exact hdep.2.1 | exact hdep.2.2 | exact hdep.2.2.1 | exact hdep.2.2.2 | exact hdep.2.2.2.1 | exact hdep.2.2.2.2)
                        obtain rfl := hK.f12 (by first | exact hdep | exact hdep.1 | exact hdep.2 | exact hdep.2.1 | exact hdep.2.2 | exact hdep.2.2.1 | exact hdep.2.2.2 | exact hdep.2.2.2.1 | exact hdep.2.2.2.2)
                        simp [wpOp, Region.wanted, Oper.wp, execOp, go_sem, Oper.upon, Act.eval, Act.put]
                        exact Or.inl ⟨_, _, _, _, _, _, _, _, _, _, _, _, _, _, _, _, _, _, _, _, _, _, _, _, _, _, _, _, _, _, _, _, rfl, hK.n13 (Below.refl _ _)⟩
                      | 14, _ =>
                        as_aux_lemma =>
                        cases hi
                        simp [Region.binds] at hdep
                        obtain rfl := hK.f13 (by first | exact hdep | exact hdep.1 | exact hdep.2 | exact hdep.2.1 | exact hdep.2.2 | exact hdep.2.2.1 | exact hdep.2.2.2 | exact hdep.2.2.2.1 | exact hdep.2.2.2.2)
                        simp [wpOp, Region.wanted, Oper.wp, execOp, go_sem, Oper.upon, Act.eval, Act.put]
                        exact Or.inl ⟨_, _, _, _, _, _, _, _, _, _, _, _, _, _, _, _, _, _, _, _, _, _, _, _, _, _, _, _, _, _, _, _, rfl, hK.n14 (Below.refl _ _)⟩
                      | 15, _ =>
                        as_aux_lemma =>
                        cases hi
                        simp [Region.binds] at hdep
                        obtain rfl := hK.f14 (by first | exact hdep | exact hdep.1 | exact hdep.2 | exact hdep.2.1 | exact hdep.2.2 | exact hdep.2.2.1 | exact hdep.2.2.2 | exact hdep.2.2.2.1 | exact hdep.2.2.2.2)
                        simp [wpOp, Region.wanted, yielded, Oper.wp, execOp, go_sem, Oper.upon, Act.eval, Act.put]
                        exact Or.inl ⟨_, _, _, _, _, _, _, _, _, _, _, _, _, _, _, _, _, _, _, _, _, _, _, _, _, _, _, _, _, _, _, _, rfl, hK.n15 (Below.refl _ _)⟩
                      | 16, _ =>
                        as_aux_lemma =>
                        cases hi
                        simp [Region.binds] at hdep
                        obtain rfl := hK.f15 (by first | exact hdep | exact hdep.1 | exact hdep.2 | exact hdep.2.1 | exact hdep.2.2 | exact hdep.2.2.1 | exact hdep.2.2.2 | exact hdep.2.2.2.1 | exact hdep.2.2.2.2)
                        obtain rfl := hK.f14 (by first | exact hdep | exact hdep.1 | exact hdep.2 | exact hdep.2.1 | exact hdep.2.2 | exact hdep.2.2.1 | exact hdep.2.2.2 | exact hdep.2.2.2.1 | exact hdep.2.2.2.2)
                        simp [wpOp, Region.wanted, yielded, Oper.wp, execOp, go_sem, Oper.upon, Act.eval, Act.put, hB]
                        exact Or.inl ⟨_, _, _, _, _, _, _, _, _, _, _, _, _, _, _, _, _, _, _, _, _, _, _, _, _, _, _, _, _, _, _, _, rfl, hK.n16 (Below.refl _ _)⟩
                      | 17, _ =>
                        as_aux_lemma =>
                        cases hi
                        simp [Region.binds] at hdep
                        obtain rfl := hK.f16 (by first | exact hdep | exact hdep.1 | exact hdep.2 | exact hdep.2.1 | exact hdep.2.2 | exact hdep.2.2.1 | exact hdep.2.2.2 | exact hdep.2.2.2.1 | exact hdep.2.2.2.2)
                        obtain rfl := hK.f14 (by first | exact hdep | exact hdep.1 | exact hdep.2 | exact hdep.2.1 | exact hdep.2.2 | exact hdep.2.2.1 | exact hdep.2.2.2 | exact hdep.2.2.2.1 | exact hdep.2.2.2.2)
                        simp [wpOp, Region.wanted, yielded, Oper.wp, execOp, go_sem, Oper.upon, Act.eval, Act.put]
                        exact Or.inl ⟨_, _, _, _, _, _, _, _, _, _, _, _, _, _, _, _, _, _, _, _, _, _, _, _, _, _, _, _, _, _, _, _, rfl, hK.n17 (Below.refl _ _)⟩
                      | 18, _ =>
                        as_aux_lemma =>
                        cases hi
                        simp [Region.binds] at hdep
                        obtain rfl := hK.f17 (by first | exact hdep | exact hdep.1 | exact hdep.2 | exact hdep.2.1 | exact hdep.2.2 | exact hdep.2.2.1 | exact hdep.2.2.2 | exact hdep.2.2.2.1 | exact hdep.2.2.2.2)
                        simp [wpOp, Region.wanted, yielded, Oper.wp, execOp, go_sem, Oper.upon, Act.eval, Act.put]
                        exact Or.inl ⟨_, _, _, _, _, _, _, _, _, _, _, _, _, _, _, _, _, _, _, _, _, _, _, _, _, _, _, _, _, _, _, _, rfl, hK.n18 (Below.refl _ _)⟩
                      | 19, _ =>
                        as_aux_lemma =>
                        cases hi
                        simp [Region.binds] at hdep
                        obtain rfl := hK.f18 (by first | exact hdep | exact hdep.1 | exact hdep.2 | exact hdep.2.1 | exact hdep.2.2 | exact hdep.2.2.1 | exact hdep.2.2.2 | exact hdep.2.2.2.1 | exact hdep.2.2.2.2)
                        obtain rfl := hK.f17 (by first | exact hdep | exact hdep.1 | exact hdep.2 | exact hdep.2.1 | exact hdep.2.2 | exact hdep.2.2.1 | exact hdep.2.2.2 | exact hdep.2.2.2.1 | exact hdep.2.2.2.2)
                        simp [wpOp, Region.wanted, yielded, Oper.wp, execOp, go_sem, Oper.upon, Act.eval, Act.put, hA2]
                        exact Or.inl ⟨_, _, _, _, _, _, _, _, _, _, _, _, _, _, _, _, _, _, _, _, _, _, _, _, _, _, _, _, _, _, _, _, rfl, hK.n19 (Below.refl _ _)⟩
                      | 20, _ =>
                        as_aux_lemma =>
                        cases hi
                        simp [Region.binds] at hdep
                        obtain rfl := hK.f17 (by first | exact hdep | exact hdep.1 | exact hdep.2 | exact hdep.2.1 | exact hdep.2.2 | exact hdep.2.2.1 | exact hdep.2.2.2 | exact hdep.2.2.2.1 | exact hdep.2.2.2.2)
                        obtain rfl := hK.f19 (by first | exact hdep | exact hdep.1 | exact hdep.2 | exact hdep.2.1 | exact hdep.2.2 | exact hdep.2.2.1 | exact hdep.2.2.2 | exact hdep.2.2.2.1 | exact hdep.2.2.2.2)
                        obtain rfl := hK.f14 (by first | exact hdep | exact hdep.1 | exact hdep.2 | exact hdep.2.1 | exact hdep.2.2 | exact hdep.2.2.1 | exact hdep.2.2.2 | exact hdep.2.2.2.1 | exact hdep.2.2.2.2)
                        simp [wpOp, Region.wanted, yielded, Oper.wp, execOp, go_sem, Oper.upon, Act.eval, Act.put]
                        exact Or.inl ⟨_, _, _, _, _, _, _, _, _, _, _, _, _, _, _, _, _, _, _, _, _, _, _, _, _, _, _, _, _, _, _, _, rfl, hK.n20 (Below.refl _ _)⟩
                      | 21, _ =>
                        as_aux_lemma =>
                        cases hi
                        simp [Region.binds] at hdep
                        obtain rfl := hK.f14 (by first | exact hdep | exact hdep.1 | exact hdep.2 | exact hdep.2.1 | exact hdep.2.2 | exact hdep.2.2.1 | exact hdep.2.2.2 | exact hdep.2.2.2.1 | exact hdep.2.2.2.2)
                        obtain rfl := hK.f20 (by first | exact hdep | exact hdep.1 | exact hdep.2 | exact hdep.2.1 | exact hdep.2.2 | exact hdep.2.2.1 | exact hdep.2.2.2 | exact hdep.2.2.2.1 | exact hdep.2.2.2.2)
                        simp [wpOp, Region.wanted, Oper.wp, execOp, go_sem, Oper.upon, Act.eval, Act.put]
                        exact Or.inl ⟨_, _, _, _, _, _, _, _, _, _, _, _, _, _, _, _, _, _, _, _, _, _, _, _, _, _, _, _, _, _, _, _, rfl, hK.n21 (Below.refl _ _)⟩
                      | 22, _ =>
                        as_aux_lemma =>
                        cases hi
                        simp [Region.binds] at hdep
                        obtain rfl := hK.f21 (by first | exact hdep | exact hdep.1 | exact hdep.2 | exact hdep.2.1 | exact hdep.2.2 | exact hdep.2.2.1 | exact hdep.2.2.2 | exact hdep.2.2.2.1 | exact hdep.2.2.2.2)
                        simp [wpOp, Region.wanted, Oper.wp, execOp, go_sem, Oper.upon, Act.eval, Act.put]
                        exact Or.inl ⟨_, _, _, _, _, _, _, _, _, _, _, _, _, _, _, _, _, _, _, _, _, _, _, _, _, _, _, _, _, _, _, _, rfl, hK.n22 (Below.refl _ _)⟩
                      | 23, _ =>
                        as_aux_lemma =>
                        cases hi
                        simp [Region.binds] at hdep
                        obtain rfl := hK.f22 (by first | exact hdep | exact hdep.1 | exact hdep.2 | exact hdep.2.1 | exact hdep.2.2 | exact hdep.2.2.1 | exact hdep.2.2.2 | exact hdep.2.2.2.1 | exact hdep.2.2.2.2)
                        simp [wpOp, Region.wanted, yielded, Oper.wp, execOp, go_sem, Oper.upon, Act.eval, Act.put]
                        exact Or.inl ⟨_, _, _, _, _, _, _, _, _, _, _, _, _, _, _, _, _, _, _, _, _, _, _, _, _, _, _, _, _, _, _, _, rfl, hK.n23 (Below.refl _ _)⟩
                      | 24, _ =>
                        as_aux_lemma =>
                        cases hi
                        simp [Region.binds] at hdep
                        obtain rfl := hK.f22 (by first | exact hdep | exact hdep.1 | exact hdep.2 | exact hdep.2.1 | exact hdep.2.2 | exact hdep.2.2.1 | exact hdep.2.2.2 | exact hdep.2.2.2.1 | exact hdep.2.2.2.2)
                        simp [wpOp, Region.wanted, yielded, Oper.wp, execOp, go_sem, Oper.upon, Act.eval, Act.put]
                        exact Or.inl ⟨_, _, _, _, _, _, _, _, _, _, _, _, _, _, _, _, _, _, _, _, _, _, _, _, _, _, _, _, _, _, _, _, rfl, hK.n24 (Below.refl _ _)⟩
                      | 25, _ =>
                        as_aux_lemma =>
                        cases hi
                        simp [Region.binds] at hdep
                        obtain rfl := hK.f23 (by first | exact hdep | exact hdep.1 | exact hdep.2 | exact hdep.2.1 | exact hdep.2.2 | exact hdep.2.2.1 | exact hdep.2.2.2 | exact hdep.2.2.2.1 | exact hdep.2.2.2.2)
                        obtain rfl := hK.f24 (by first | exact hdep | exact hdep.1 | exact hdep.2 | exact hdep.2.1 | exact hdep.2.2 | exact hdep.2.2.1 | exact hdep.2.2.2 | exact hdep.2.2.2.1 | exact hdep.2.2.2.2)
                        obtain rfl := hK.f22 (by first | exact hdep | exact hdep.1 | exact hdep.2 | exact hdep.2.1 | exact hdep.2.2 | exact hdep.2.2.1 | exact hdep.2.2.2 | exact hdep.2.2.2.1 | exact hdep.2.2.2.2)
                        simp [wpOp, Region.wanted, yielded, Oper.wp, execOp, go_sem, Oper.upon, Act.eval, Act.put, wrapEq]
                        exact Or.inl ⟨_, _, _, _, _, _, _, _, _, _, _, _, _, _, _, _, _, _, _, _, _, _, _, _, _, _, _, _, _, _, _, _, rfl, hK.n25 (Below.refl _ _)⟩
                      | 26, _ =>
                        as_aux_lemma =>
                        cases hi
                        simp [Region.binds] at hdep
                        obtain rfl := hK.f22 (by first | exact hdep | exact hdep.1 | exact hdep.2 | exact hdep.2.1 | exact hdep.2.2 | exact hdep.2.2.1 | exact hdep.2.2.2 | exact hdep.2.2.2.1 | exact hdep.2.2.2.2)
                        simp [wpOp, Region.wanted, yielded, Oper.wp, execOp, go_sem, Oper.upon, Act.eval, Act.put]
                        exact Or.inl ⟨_, _, _, _, _, _, _, _, _, _, _, _, _, _, _, _, _, _, _, _, _, _, _, _, _, _, _, _, _, _, _, _, rfl, hK.n26 (Below.refl _ _)⟩
                      | 27, _ =>
                        as_aux_lemma =>
                        cases hi
                        simp [Region.binds] at hdep
                        obtain rfl := hK.f25 (by first | exact hdep | exact hdep.1 | exact hdep.2 | exact hdep.2.1 | exact hdep.2.2 | exact hdep.2.2.1 | exact hdep.2.2.2 | exact hdep.2.2.2.1 | exact hdep.2.2.2.2)
                        obtain rfl := hK.f26 (by first | exact hdep | exact hdep.1 | exact hdep.2 | exact hdep.2.1 | exact hdep.2.2 | exact hdep.2.2.1 | exact hdep.2.2.2 | exact hdep.2.2.2.1 | exact hdep.2.2.2.2)
                        obtain rfl := hK.f22 (by first | exact hdep | exact hdep.1 | exact hdep.2 | exact hdep.2.1 | exact hdep.2.2 | exact hdep.2.2.1 | exact hdep.2.2.2 | exact hdep.2.2.2.1 | exact hdep.2.2.2.2)
                        simp [wpOp, Region.wanted, yielded, Oper.wp, execOp, go_sem, Oper.upon, Act.eval, Act.put, wrapEq, h0b, hQ]
                        exact Or.inl ⟨_, _, _, _, _, _, _, _, _, _, _, _, _, _, _, _, _, _, _, _, _, _, _, _, _, _, _, _, _, _, _, _, rfl, hK.n27 (Below.refl _ _)⟩
                      | 28, _ =>
                        as_aux_lemma =>
                        cases hi
                        simp [Region.binds] at hdep
                        obtain rfl := hK.f22 (by first | exact hdep | exact hdep.1 | exact hdep.2 | exact hdep.2.1 | exact hdep.2.2 | exact hdep.2.2.1 | exact hdep.2.2.2 | exact hdep.2.2.2.1 | exact hdep.2.2.2.2)
                        simp [wpOp, Region.wanted, yielded, Oper.wp, execOp, go_sem, Oper.upon, Act.eval, Act.put]
                        exact Or.inl ⟨_, _, _, _, _, _, _, _, _, _, _, _, _, _, _, _, _, _, _, _, _, _, _, _, _, _, _, _, _, _, _, _, rfl, hK.n28 (Below.refl _ _)⟩
                      | 29, _ =>
                        as_aux_lemma =>
                        cases hi
                        simp [Region.binds] at hdep
                        obtain rfl := hK.f27 (by first | exact hdep | exact hdep.1 | exact hdep.2 | exact hdep.2.1 | exact hdep.2.2 | exact hdep.2.2.1 | exact hdep.2.2.2 | exact hdep.2.2.2.1 | exact hdep.2.2.2.2)
                        obtain rfl := hK.f28 (by first | exact hdep | exact hdep.1 | exact hdep.2 | exact hdep.2.1 | exact hdep.2.2 | exact hdep.2.2.1 | exact hdep.2.2.2 | exact hdep.2.2.2.1 | exact hdep.2.2.2.2)
                        obtain rfl := hK.f22 (by first | exact hdep | exact hdep.1 | exact hdep.2 | exact hdep.2.1 | exact hdep.2.2 | exact hdep.2.2.1 | exact hdep.2.2.2 | exact hdep.2.2.2.1 | exact hdep.2.2.2.2)
                        simp [wpOp, Region.wanted, yielded, Oper.wp, execOp, go_sem, Oper.upon, Act.eval, Act.put]
                        exact Or.inl ⟨_, _, _, _, _, _, _, _, _, _, _, _, _, _, _, _, _, _, _, _, _, _, _, _, _, _, _, _, _, _, _, _, rfl, hK.n29 (Below.refl _ _)⟩
                      | 30, _ =>
                        as_aux_lemma =>
                        cases hi
                        simp [Region.binds] at hdep
                        obtain rfl := hK.f22 (by first | exact hdep | exact hdep.1 | exact hdep.2 | exact hdep.2.1 | exact hdep.2.2 | exact hdep.2.2.1 | exact hdep.2.2.2 | exact hdep.2.2.2.1 | exact hdep.2.2.2.2)
                        obtain rfl := hK.f29 (by first | exact hdep | exact hdep.1 | exact hdep.2 | exact hdep.2.1 | exact hdep.2.2 | exact hdep.2.2.1 | exact hdep.2.2.2 | exact hdep.2.2.2.1 | exact hdep.2.2.2.2)
                        simp [wpOp, Region.wanted, Oper.wp, execOp, go_sem, Oper.upon, Act.eval, Act.put]
                        exact Or.inl ⟨_, _, _, _, _, _, _, _, _, _, _, _, _, _, _, _, _, _, _, _, _, _, _, _, _, _, _, _, _, _, _, _, rfl, hK.n30 (Below.refl _ _)⟩
                      | 31, _ =>
                        as_aux_lemma =>
                        cases hi
                        simp [Region.binds] at hdep
                        obtain rfl := hK.f30 (by first | exact hdep | exact hdep.1 | exact hdep.2 | exact hdep.2.1 | exact hdep.2.2 | exact hdep.2.2.1 | exact hdep.2.2.2 | exact hdep.2.2.2.1 | exact hdep.2.2.2.2)
                        simp [wpOp, Region.wanted, Oper.wp, execOp, go_sem, Oper.upon, Act.eval, Act.put]
                        exact Or.inl ⟨_, _, _, _, _, _, _, _, _, _, _, _, _, _, _, _, _, _, _, _, _, _, _, _, _, _, _, _, _, _, _, _, rfl, hK.n31 (Below.refl _ _)⟩
                    · intro D c w1 hI hall
                      obtain ⟨t174, t175, t176, t177, t178, t179, t180, t181, t182, t183, t184, t185, t186, t187, t188, t189, t190, t191, t192, t193, t194, t195, t196, t197, t198, t199, t200, t201, t202, t203, t204, t4, rfl, hK⟩ := hI
                      obtain rfl := hK.f31 (hall _ (by decide))
                      go_wp2_with fail
                      go_ret
                      exact ⟨rfl, C4.out.trans (hK.bel.mono C4.out.size)⟩
                | false =>
                  have hB2 := hA2 hA
                  cases hB : (b != -1) with
                  | true =>
                    refine wp_region_inv (by kernel_rfl) (R2201I (fun t174 t175 t176 t177 t178 t179 t180 t181 t182 t183 t184 t185 t186 t187 t188 t189 t190 t191 t192 t193 t194 t195 t196 t197 t198 t199 t200 t201 t202 t203 t204 t4 => #[.int .i64 a, .int .i64 b, undef, undef, t4, .pointer (some ⟨cs, 0, none⟩), .bool true, .pointer (some ⟨cd, 0, none⟩), .bool true, .bool O, .bool U, .pointer (some ⟨cn, 0, none⟩), .pointer (some ⟨cp, 0, none⟩), undef, u14, u15, u16, u17, u18, u19, u20, u21, u22, u23, u24, u25, u26, u27, u28, u29, u30, u31, u32, u33, u34, u35, u36, u37, u38, u39, u40, u41, u42, u43, u44, u45, u46, u47, u48, u49, u50, u51, u52, u53, u54, u55, u56, u57, u58, u59, u60, u61, u62, u63, u64, u65, u66, u67, u68, u69, u70, u71, u72, u73, u74, u75, u76, u77, u78, u79, u80, u81, u82, u83, u84, u85, u86, u87, u88, u89, u90, u91, u92, u93, u94, u95, u96, u97, u98, u99, u100, u101, u102, u103, u104, u105, u106, u107, u108, u109, u110, u111, u112, u113, u114, u115, u116, u117, u118, u119, u120, u121, u122, u123, u124, u125, u126, u127, u128, u129, u130, u131, u132, u133, u134, u135, u136, u137, u138, u139, u140, u141, u142, u143, u144, u145, u146, u147, u148, u149, u150, u151, u152, .bool false, u154, u155, u156, .pointer (some ⟨cp, 0, none⟩), .int .i64 1, .bool false, u160, u161, u162, u163, u164, u165, u166, u167, u168, u169, u170, u171, u172, u173, t174, t175, t176, t177, t178, t179, t180, t181, t182, t183, t184, t185, t186, t187, t188, t189, t190, t191, t192, t193, t194, t195, t196, t197, t198, t199, t200, t201, t202, t203, t204]) wc a b (wrap64 (a * b))) ?_ (by kernel_rfl) ?_ ?_ ?_
                    · rintro D D' c w1 hD ⟨t174, t175, t176, t177, t178, t179, t180, t181, t182, t183, t184, t185, t186, t187, t188, t189, t190, t191, t192, t193, t194, t195, t196, t197, t198, t199, t200, t201, t202, t203, t204, t4, h, hK⟩
                      have e : D = D' := funext fun j => propext (hD j)
                      subst e
                      exact ⟨t174, t175, t176, t177, t178, t179, t180, t181, t182, t183, t184, t185, t186, t187, t188, t189, t190, t191, t192, t193, t194, t195, t196, t197, t198, t199, t200, t201, t202, t203, t204, t4, h, hK⟩
                    · intro D hD
                      exact ⟨_, _, _, _, _, _, _, _, _, _, _, _, _, _, _, _, _, _, _, _, _, _, _, _, _, _, _, _, _, _, _, _, rfl, (Below.refl _ _).drew, fun h => absurd h (hD _), fun h => absurd h (hD _), fun h => absurd h (hD _), fun h => absurd h (hD _), fun h => absurd h (hD _), fun h => absurd h (hD _), fun h => absurd h (hD _), fun h => absurd h (hD _), fun h => absurd h (hD _), fun h => absurd h (hD _), fun h => absurd h (hD _), fun h => absurd h (hD _), fun h => absurd h (hD _), fun h => absurd h (hD _), fun h => absurd h (hD _), fun h => absurd h (hD _), fun h => absurd h (hD _), fun h => absurd h (hD _), fun h => absurd h (hD _), fun h => absurd h (hD _), fun h => absurd h (hD _), fun h => absurd h (hD _), fun h => absurd h (hD _), fun h => absurd h (hD _), fun h => absurd h (hD _), fun h => absurd h (hD _), fun h => absurd h (hD _), fun h => absurd h (hD _), fun h => absurd h (hD _), fun h => absurd h (hD _), fun h => absurd h (hD _), fun h => absurd h (hD _)⟩
                    · intro D c w1 hI j o hi hnd hdep
                      obtain ⟨t174, t175, t176, t177, t178, t179, t180, t181, t182, t183, t184, t185, t186, t187, t188, t189, t190, t191, t192, t193, t194, t195, t196, t197, t198, t199, t200, t201, t202, t203, t204, t4, rfl, hK⟩ := hI
                      have hlt : j < 32 := (Array.getElem?_eq_some_iff.1 hi).1
                      match j, hlt with
                      | 0, _ =>
                        as_aux_lemma =>
                        cases hi
                        obtain ⟨y0, y1, y2, y3, _⟩ := W4.out.on hK.bel
                        simp [wpOp, Region.wanted, Oper.wp, execOp, go_sem, Oper.upon, Act.eval, Act.put, y0, y1, y2, y3]
                        exact Or.inl ⟨_, _, _, _, _, _, _, _, _, _, _, _, _, _, _, _, _, _, _, _, _, _, _, _, _, _, _, _, _, _, _, _, rfl, hK.n0 (Below.refl _ _)⟩
                      | 1, _ =>
                        as_aux_lemma =>
                        cases hi
                        simp [wpOp, Region.wanted, Oper.wp, execOp, go_sem, Oper.upon, Act.eval, Act.put]
                        exact Or.inl ⟨_, _, _, _, _, _, _, _, _, _, _, _, _, _, _, _, _, _, _, _, _, _, _, _, _, _, _, _, _, _, _, _, rfl, hK.n1 (Below.refl _ _)⟩
                      | 2, _ =>
                        as_aux_lemma =>
                        cases hi
                        simp [wpOp, Region.wanted, Oper.wp, execOp, go_sem, Oper.upon, Act.eval, Act.put]
                        exact Or.inl ⟨_, _, _, _, _, _, _, _, _, _, _, _, _, _, _, _, _, _, _, _, _, _, _, _, _, _, _, _, _, _, _, _, rfl, hK.n2 (Below.refl _ _)⟩
                      | 3, _ =>
                        as_aux_lemma =>
                        cases hi
                        simp [Region.binds] at hdep
                        obtain rfl := hK.f1 (by first | exact hdep | exact hdep.1 | exact hdep.2 | exact hdep.2.1 | exact hdep.2.2 | exact hdep.2.2.1 | exact hdep.2.2.2 | exact hdep.2.2.2.1 | exact hdep.2.2.2.2)
                        obtain rfl := hK.f2 (by first | exact hdep | exact hdep.1 | exact hdep.2 | exact hdep.2.1 | exact hdep.2.2 | exact hdep.2.2.1 | exact hdep.2.2.2 | exact hdep.2.2.2.1 | exact hdep.2.2.2.2)
                        simp [wpOp, Region.wanted, Oper.wp, execOp, go_sem, Oper.upon, Act.eval, Act.put, wrapEq]
                        exact Or.inl ⟨_, _, _, _, _, _, _, _, _, _, _, _, _, _, _, _, _, _, _, _, _, _, _, _, _, _, _, _, _, _, _, _, rfl, hK.n3 (Below.refl _ _)⟩
                      | 4, _ =>
                        as_aux_lemma =>
                        cases hi
                        simp [Region.binds] at hdep
                        obtain rfl := hK.f3 (by first | exact hdep | exact hdep.1 | exact hdep.2 | exact hdep.2.1 | exact hdep.2.2 | exact hdep.2.2.1 | exact hdep.2.2.2 | exact hdep.2.2.2.1 | exact hdep.2.2.2.2)
                        simp [wpOp, Region.wanted, Oper.wp, go_sem, Oper.upon, Act.eval, Act.put]
                        refine Or.inl ((HN.out _ w1).mono ?_)
                        rintro e w2 ⟨hb, rfl⟩
                        exact ⟨_, _, _, _, _, _, _, _, _, _, _, _, _, _, _, _, _, _, _, _, _, _, _, _, _, _, _, _, _, _, _, _, rfl, hK.n4 hb⟩
                      | 5, _ =>
                        as_aux_lemma =>
                        cases hi
                        simp [Region.binds] at hdep
                        obtain rfl := hK.f0 (by first | exact hdep | exact hdep.1 | exact hdep.2 | exact hdep.2.1 | exact hdep.2.2 | exact hdep.2.2.1 | exact hdep.2.2.2 | exact hdep.2.2.2.1 | exact hdep.2.2.2.2)
                        obtain rfl := hK.f4 (by first | exact hdep | exact hdep.1 | exact hdep.2 | exact hdep.2.1 | exact hdep.2.2 | exact hdep.2.2.1 | exact hdep.2.2.2 | exact hdep.2.2.2.1 | exact hdep.2.2.2.2)
                        simp [wpOp, Region.wanted, Oper.wp, go_sem, Oper.upon, Act.eval, Act.put]
                        refine Or.inl ((same_t 1 _ w1).mono ?_)
                        rintro e w2 ⟨hb, rfl⟩
                        exact ⟨_, _, _, _, _, _, _, _, _, _, _, _, _, _, _, _, _, _, _, _, _, _, _, _, _, _, _, _, _, _, _, _, rfl, hK.n5 hb⟩
                      | 6, _ =>
                        as_aux_lemma =>
                        cases hi
                        simp [Region.binds] at hdep
                        obtain rfl := hK.f5 (by first | exact hdep | exact hdep.1 | exact hdep.2 | exact hdep.2.1 | exact hdep.2.2 | exact hdep.2.2.1 | exact hdep.2.2.2 | exact hdep.2.2.2.1 | exact hdep.2.2.2.2)
                        simp [wpOp, Region.wanted, Oper.wp, execOp, go_sem, Oper.upon, Act.eval, Act.put]
                        exact Or.inl ⟨_, _, _, _, _, _, _, _, _, _, _, _, _, _, _, _, _, _, _, _, _, _, _, _, _, _, _, _, _, _, _, _, rfl, hK.n6 (Below.refl _ _)⟩
                      | 7, _ =>
                        as_aux_lemma =>
                        cases hi
                        simp [Region.binds] at hdep
                        obtain rfl := hK.f6 (by first | exact hdep | exact hdep.1 | exact hdep.2 | exact hdep.2.1 | exact hdep.2.2 | exact hdep.2.2.1 | exact hdep.2.2.2 | exact hdep.2.2.2.1 | exact hdep.2.2.2.2)
                        simp [wpOp, Region.wanted, yielded, Oper.wp, execOp, go_sem, Oper.upon, Act.eval, Act.put]
                        exact Or.inl ⟨_, _, _, _, _, _, _, _, _, _, _, _, _, _, _, _, _, _, _, _, _, _, _, _, _, _, _, _, _, _, _, _, rfl, hK.n7 (Below.refl _ _)⟩
                      | 8, _ =>
                        as_aux_lemma =>
                        cases hi
                        simp [Region.binds] at hdep
                        obtain rfl := hK.f7 (by first | exact hdep | exact hdep.1 | exact hdep.2 | exact hdep.2.1 | exact hdep.2.2 | exact hdep.2.2.1 | exact hdep.2.2.2 | exact hdep.2.2.2.1 | exact hdep.2.2.2.2)
                        obtain rfl := hK.f6 (by first | exact hdep | exact hdep.1 | exact hdep.2 | exact hdep.2.1 | exact hdep.2.2 | exact hdep.2.2.1 | exact hdep.2.2.2 | exact hdep.2.2.2.1 | exact hdep.2.2.2.2)
                        simp [wpOp, Region.wanted, yielded, Oper.wp, execOp, go_sem, Oper.upon, Act.eval, Act.put, hA]
                        exact Or.inl ⟨_, _, _, _, _, _, _, _, _, _, _, _, _, _, _, _, _, _, _, _, _, _, _, _, _, _, _, _, _, _, _, _, rfl, hK.n8 (Below.refl _ _)⟩
                      | 9, _ =>
                        as_aux_lemma =>
                        cases hi
                        simp [Region.binds] at hdep
                        obtain rfl := hK.f8 (by first | exact hdep | exact hdep.1 | exact hdep.2 | exact hdep.2.1 | exact hdep.2.2 | exact hdep.2.2.1 | exact hdep.2.2.2 | exact hdep.2.2.2.1 | exact hdep.2.2.2.2)
                        obtain rfl := hK.f6 (by first | exact hdep | exact hdep.1 | exact hdep.2 | exact hdep.2.1 | exact hdep.2.2 | exact hdep.2.2.1 | exact hdep.2.2.2 | exact hdep.2.2.2.1 | exact hdep.2.2.2.2)
                        simp [wpOp, Region.wanted, yielded, Oper.wp, execOp, go_sem, Oper.upon, Act.eval, Act.put]
                        exact Or.inl ⟨_, _, _, _, _, _, _, _, _, _, _, _, _, _, _, _, _, _, _, _, _, _, _, _, _, _, _, _, _, _, _, _, rfl, hK.n9 (Below.refl _ _)⟩
                      | 10, _ =>
                        as_aux_lemma =>
                        cases hi
                        simp [Region.binds] at hdep
                        obtain rfl := hK.f9 (by first | exact hdep | exact hdep.1 | exact hdep.2 | exact hdep.2.1 | exact hdep.2.2 | exact hdep.2.2.1 | exact hdep.2.2.2 | exact hdep.2.2.2.1 | exact hdep.2.2.2.2)
                        simp [wpOp, Region.wanted, yielded, Oper.wp, execOp, go_sem, Oper.upon, Act.eval, Act.put]
                        exact Or.inl ⟨_, _, _, _, _, _, _, _, _, _, _, _, _, _, _, _, _, _, _, _, _, _, _, _, _, _, _, _, _, _, _, _, rfl, hK.n10 (Below.refl _ _)⟩
                      | 11, _ =>
                        as_aux_lemma =>
                        cases hi
                        simp [Region.binds] at hdep
                        obtain rfl := hK.f10 (by first | exact hdep | exact hdep.1 | exact hdep.2 | exact hdep.2.1 | exact hdep.2.2 | exact hdep.2.2.1 | exact hdep.2.2.2 | exact hdep.2.2.2.1 | exact hdep.2.2.2.2)
                        obtain rfl := hK.f9 (by first | exact hdep | exact hdep.1 | exact hdep.2 | exact hdep.2.1 | exact hdep.2.2 | exact hdep.2.2.1 | exact hdep.2.2.2 | exact hdep.2.2.2.1 | exact hdep.2.2.2.2)
                        simp [wpOp, Region.wanted, yielded, Oper.wp, execOp, go_sem, Oper.upon, Act.eval, Act.put, hB2]
                        exact Or.inl ⟨_, _, _, _, _, _, _, _, _, _, _, _, _, _, _, _, _, _, _, _, _, _, _, _, _, _, _, _, _, _, _, _, rfl, hK.n11 (Below.refl _ _)⟩
                      | 12, _ =>
                        as_aux_lemma =>
                        cases hi
                        simp [Region.binds] at hdep
                        obtain rfl := hK.f9 (by first | exact hdep | exact hdep.1 | exact hdep.2 | exact hdep.2.1 | exact hdep.2.2 | exact hdep.2.2.1 | exact hdep.2.2.2 | exact hdep.2.2.2.1 | exact hdep.2.2.2.2)
                        obtain rfl := hK.f11 (by first | exact hdep | exact hdep.1 | exact hdep.2 | exact hdep.2.1 | exact hdep.2.2 | exact hdep.2.2.1 | exact hdep.2.2.2 | exact hdep.2.2.2.1 | exact hdep.2.2.2.2)
                        obtain rfl := hK.f6 (by first | exact hdep | exact hdep.1 | exact hdep.2 | exact hdep.2.1 | exact hdep.2.2 | exact hdep.2.2.1 | exact hdep.2.2.2 | exact hdep.2.2.2.1 | exact hdep.2.2.2.2)
                        simp [wpOp, Region.wanted, yielded, Oper.wp, execOp, go_sem, Oper.upon, Act.eval, Act.put]
                        exact Or.inl ⟨_, _, _, _, _, _, _, _, _, _, _, _, _, _, _, _, _, _, _, _, _, _, _, _, _, _, _, _, _, _, _, _, rfl, hK.n12 (Below.refl _ _)⟩
                      | 13, _ =>
                        as_aux_lemma =>
                        cases hi
                        simp [Region.binds] at hdep
                        obtain rfl := hK.f6 (by first | exact hdep | exact hdep.1 | exact hdep.2 | exact hdep.2.1 | exact hdep.2.2 | exact hdep.2.2.1 | exact hdep.2.2.2 | exact hdep.2.2.2.1 | exact hdep.2.2.2.2)
                        obtain rfl := hK.f12 (by first | exact hdep | exact hdep.1 | exact hdep.2 | exact hdep.2.1 | exact hdep.2.2 | exact hdep.2.2.1 | exact hdep.2.2.2 | exact hdep.2.2.2.1 | exact hdep.2.2.2.2)
                        simp [wpOp, Region.wanted, Oper.wp, execOp, go_sem, Oper.upon, Act.eval, Act.put]
                        exact Or.inl ⟨_, _, _, _, _, _, _, _, _, _, _, _, _, _, _, _, _, _, _, _, _, _, _, _, _, _, _, _, _, _, _, _, rfl, hK.n13 (Below.refl _ _)⟩
                      | 14, _ =>
                        as_aux_lemma =>
                        cases hi
                        simp [Region.binds] at hdep
                        obtain rfl := hK.f13 (by first | exact hdep | exact hdep.1 | exact hdep.2 | exact hdep.2.1 | exact hdep.2.2 | exact hdep.2.2.1 | exact hdep.2.2.2 | exact hdep.2.2.2.1 | exact hdep.2.2.2.2)
                        simp [wpOp, Region.wanted, Oper.wp, execOp, go_sem, Oper.upon, Act.eval, Act.put]
                        exact Or.inl ⟨_, _, _, _, _, _, _, _, _, _, _, _, _, _, _, _, _, _, _, _, _, _, _, _, _, _, _, _, _, _, _, _, rfl, hK.n14 (Below.refl _ _)⟩
                      | 15, _ =>
                        as_aux_lemma =>
                        cases hi
                        simp [Region.binds] at hdep
                        obtain rfl := hK.f14 (by first | exact hdep | exact hdep.1 | exact hdep.2 | exact hdep.2.1 | exact hdep.2.2 | exact hdep.2.2.1 | exact hdep.2.2.2 | exact hdep.2.2.2.1 | exact hdep.2.2.2.2)
                        simp [wpOp, Region.wanted, yielded, Oper.wp, execOp, go_sem, Oper.upon, Act.eval, Act.put]
                        exact Or.inl ⟨_, _, _, _, _, _, _, _, _, _, _, _, _, _, _, _, _, _, _, _, _, _, _, _, _, _, _, _, _, _, _, _, rfl, hK.n15 (Below.refl _ _)⟩
                      | 16, _ =>
                        as_aux_lemma =>
                        cases hi
                        simp [Region.binds] at hdep
                        obtain rfl := hK.f15 (by first | exact hdep | exact hdep.1 | exact hdep.2 | exact hdep.2.1 | exact hdep.2.2 | exact hdep.2.2.1 | exact hdep.2.2.2 | exact hdep.2.2.2.1 | exact hdep.2.2.2.2)
                        obtain rfl := hK.f14 (by first | exact hdep | exact hdep.1 | exact hdep.2 | exact hdep.2.1 | exact hdep.2.2 | exact hdep.2.2.1 | exact hdep.2.2.2 | exact hdep.2.2.2.1 | exact hdep.2.2.2.2)
                        simp [wpOp, Region.wanted, yielded, Oper.wp, execOp, go_sem, Oper.upon, Act.eval, Act.put, hB]
                        exact Or.inl ⟨_, _, _, _, _, _, _, _, _, _, _, _, _, _, _, _, _, _, _, _, _, _, _, _, _, _, _, _, _, _, _, _, rfl, hK.n16 (Below.refl _ _)⟩
                      | 17, _ =>
                        as_aux_lemma =>
                        cases hi
                        simp [Region.binds] at hdep
                        obtain rfl := hK.f16 (by first | exact hdep | exact hdep.1 | exact hdep.2 | exact hdep.2.1 | exact hdep.2.2 | exact hdep.2.2.1 | exact hdep.2.2.2 | exact hdep.2.2.2.1 | exact hdep.2.2.2.2)
                        obtain rfl := hK.f14 (by first | exact hdep | exact hdep.1 | exact hdep.2 | exact hdep.2.1 | exact hdep.2.2 | exact hdep.2.2.1 | exact hdep.2.2.2 | exact hdep.2.2.2.1 | exact hdep.2.2.2.2)
                        simp [wpOp, Region.wanted, yielded, Oper.wp, execOp, go_sem, Oper.upon, Act.eval, Act.put]
                        exact Or.inl ⟨_, _, _, _, _, _, _, _, _, _, _, _, _, _, _, _, _, _, _, _, _, _, _, _, _, _, _, _, _, _, _, _, rfl, hK.n17 (Below.refl _ _)⟩
                      | 18, _ =>
                        as_aux_lemma =>
                        cases hi
                        simp [Region.binds] at hdep
                        obtain rfl := hK.f17 (by first | exact hdep | exact hdep.1 | exact hdep.2 | exact hdep.2.1 | exact hdep.2.2 | exact hdep.2.2.1 | exact hdep.2.2.2 | exact hdep.2.2.2.1 | exact hdep.2.2.2.2)
                        simp [wpOp, Region.wanted, yielded, go_sem, Act.put]
                        exact ⟨_, _, _, _, _, _, _, _, _, _, _, _, _, _, _, _, _, _, _, _, _, _, _, _, _, _, _, _, _, _, _, _, rfl, hK.n18 (Below.refl _ _)⟩
                      | 19, _ =>
                        as_aux_lemma =>
                        cases hi
                        simp [Region.binds] at hdep
                        obtain rfl := hK.f17 (by first | exact hdep | exact hdep.1 | exact hdep.2 | exact hdep.2.1 | exact hdep.2.2 | exact hdep.2.2.1 | exact hdep.2.2.2 | exact hdep.2.2.2.1 | exact hdep.2.2.2.2)
                        simp [wpOp, Region.wanted, yielded, go_sem, Act.put]
                        exact ⟨_, _, _, _, _, _, _, _, _, _, _, _, _, _, _, _, _, _, _, _, _, _, _, _, _, _, _, _, _, _, _, _, rfl, hK.n19 (Below.refl _ _)⟩
                      | 20, _ =>
                        as_aux_lemma =>
                        cases hi
                        simp [Region.binds] at hdep
                        obtain rfl := hK.f17 (by first | exact hdep | exact hdep.1 | exact hdep.2 | exact hdep.2.1 | exact hdep.2.2 | exact hdep.2.2.1 | exact hdep.2.2.2 | exact hdep.2.2.2.1 | exact hdep.2.2.2.2)
                        obtain rfl := hK.f19 (by first | exact hdep | exact hdep.1 | exact hdep.2 | exact hdep.2.1 | exact hdep.2.2 | exact hdep.2.2.1 | exact hdep.2.2.2 | exact hdep.2.2.2.1 | exact hdep.2.2.2.2)
                        obtain rfl := hK.f14 (by first | exact hdep | exact hdep.1 | exact hdep.2 | exact hdep.2.1 | exact hdep.2.2 | exact hdep.2.2.1 | exact hdep.2.2.2 | exact hdep.2.2.2.1 | exact hdep.2.2.2.2)
                        simp [wpOp, Region.wanted, yielded, Oper.wp, execOp, go_sem, Oper.upon, Act.eval, Act.put]
                        exact Or.inl ⟨_, _, _, _, _, _, _, _, _, _, _, _, _, _, _, _, _, _, _, _, _, _, _, _, _, _, _, _, _, _, _, _, rfl, hK.n20 (Below.refl _ _)⟩
                      | 21, _ =>
                        as_aux_lemma =>
                        cases hi
                        simp [Region.binds] at hdep
                        obtain rfl := hK.f14 (by first | exact hdep | exact hdep.1 | exact hdep.2 | exact hdep.2.1 | exact hdep.2.2 | exact hdep.2.2.1 | exact hdep.2.2.2 | exact hdep.2.2.2.1 | exact hdep.2.2.2.2)
                        obtain rfl := hK.f20 (by first | exact hdep | exact hdep.1 | exact hdep.2 | exact hdep.2.1 | exact hdep.2.2 | exact hdep.2.2.1 | exact hdep.2.2.2 | exact hdep.2.2.2.1 | exact hdep.2.2.2.2)
                        simp [wpOp, Region.wanted, Oper.wp, execOp, go_sem, Oper.upon, Act.eval, Act.put]
                        exact Or.inl ⟨_, _, _, _, _, _, _, _, _, _, _, _, _, _, _, _, _, _, _, _, _, _, _, _, _, _, _, _, _, _, _, _, rfl, hK.n21 (Below.refl _ _)⟩
                      | 22, _ =>
                        as_aux_lemma =>
                        cases hi
                        simp [Region.binds] at hdep
                        obtain rfl := hK.f21 (by first | exact hdep | exact hdep.1 | exact hdep.2 | exact hdep.2.1 | exact hdep.2.2 | exact hdep.2.2.1 | exact hdep.2.2.2 | exact hdep.2.2.2.1 | exact hdep.2.2.2.2)
                        simp [wpOp, Region.wanted, Oper.wp, execOp, go_sem, Oper.upon, Act.eval, Act.put]
                        exact Or.inl ⟨_, _, _, _, _, _, _, _, _, _, _, _, _, _, _, _, _, _, _, _, _, _, _, _, _, _, _, _, _, _, _, _, rfl, hK.n22 (Below.refl _ _)⟩
                      | 23, _ =>
                        as_aux_lemma =>
                        cases hi
                        simp [Region.binds] at hdep
                        obtain rfl := hK.f22 (by first | exact hdep | exact hdep.1 | exact hdep.2 | exact hdep.2.1 | exact hdep.2.2 | exact hdep.2.2.1 | exact hdep.2.2.2 | exact hdep.2.2.2.1 | exact hdep.2.2.2.2)
                        simp [wpOp, Region.wanted, yielded, Oper.wp, execOp, go_sem, Oper.upon, Act.eval, Act.put]
                        exact Or.inl ⟨_, _, _, _, _, _, _, _, _, _, _, _, _, _, _, _, _, _, _, _, _, _, _, _, _, _, _, _, _, _, _, _, rfl, hK.n23 (Below.refl _ _)⟩
                      | 24, _ =>
                        as_aux_lemma =>
                        cases hi
                        simp [Region.binds] at hdep
                        obtain rfl := hK.f22 (by first | exact hdep | exact hdep.1 | exact hdep.2 | exact hdep.2.1 | exact hdep.2.2 | exact hdep.2.2.1 | exact hdep.2.2.2 | exact hdep.2.2.2.1 | exact hdep.2.2.2.2)
                        simp [wpOp, Region.wanted, yielded, Oper.wp, execOp, go_sem, Oper.upon, Act.eval, Act.put]
                        exact Or.inl ⟨_, _, _, _, _, _, _, _, _, _, _, _, _, _, _, _, _, _, _, _, _, _, _, _, _, _, _, _, _, _, _, _, rfl, hK.n24 (Below.refl _ _)⟩
                      | 25, _ =>
                        as_aux_lemma =>
                        cases hi
                        simp [Region.binds] at hdep
                        obtain rfl := hK.f23 (by first | exact hdep | exact hdep.1 | exact hdep.2 | exact hdep.2.1 | exact hdep.2.2 | exact hdep.2.2.1 | exact hdep.2.2.2 | exact hdep.2.2.2.1 | exact hdep.2.2.2.2)
                        obtain rfl := hK.f24 (by first | exact hdep | exact hdep.1 | exact hdep.2 | exact hdep.2.1 | exact hdep.2.2 | exact hdep.2.2.1 | exact hdep.2.2.2 | exact hdep.2.2.2.1 | exact hdep.2.2.2.2)
                        obtain rfl := hK.f22 (by first | exact hdep | exact hdep.1 | exact hdep.2 | exact hdep.2.1 | exact hdep.2.2 | exact hdep.2.2.1 | exact hdep.2.2.2 | exact hdep.2.2.2.1 | exact hdep.2.2.2.2)
                        simp [wpOp, Region.wanted, yielded, Oper.wp, execOp, go_sem, Oper.upon, Act.eval, Act.put, wrapEq]
                        exact Or.inl ⟨_, _, _, _, _, _, _, _, _, _, _, _, _, _, _, _, _, _, _, _, _, _, _, _, _, _, _, _, _, _, _, _, rfl, hK.n25 (Below.refl _ _)⟩
                      | 26, _ =>
                        as_aux_lemma =>
                        cases hi
                        simp [Region.binds] at hdep
                        obtain rfl := hK.f22 (by first | exact hdep | exact hdep.1 | exact hdep.2 | exact hdep.2.1 | exact hdep.2.2 | exact hdep.2.2.1 | exact hdep.2.2.2 | exact hdep.2.2.2.1 | exact hdep.2.2.2.2)
                        simp [wpOp, Region.wanted, yielded, Oper.wp, execOp, go_sem, Oper.upon, Act.eval, Act.put]
                        exact Or.inl ⟨_, _, _, _, _, _, _, _, _, _, _, _, _, _, _, _, _, _, _, _, _, _, _, _, _, _, _, _, _, _, _, _, rfl, hK.n26 (Below.refl _ _)⟩
                      | 27, _ =>
                        as_aux_lemma =>
                        cases hi
                        simp [Region.binds] at hdep
                        obtain rfl := hK.f25 (by first | exact hdep | exact hdep.1 | exact hdep.2 | exact hdep.2.1 | exact hdep.2.2 | exact hdep.2.2.1 | exact hdep.2.2.2 | exact hdep.2.2.2.1 | exact hdep.2.2.2.2)
                        obtain rfl := hK.f26 (by first | exact hdep | exact hdep.1 | exact hdep.2 | exact hdep.2.1 | exact hdep.2.2 | exact hdep.2.2.1 | exact hdep.2.2.2 | exact hdep.2.2.2.1 | exact hdep.2.2.2.2)
                        obtain rfl := hK.f22 (by first | exact hdep | exact hdep.1 | exact hdep.2 | exact hdep.2.1 | exact hdep.2.2 | exact hdep.2.2.1 | exact hdep.2.2.2 | exact hdep.2.2.2.1 | exact hdep.2.2.2.2)
                        simp [wpOp, Region.wanted, yielded, Oper.wp, execOp, go_sem, Oper.upon, Act.eval, Act.put, wrapEq, h0b, hQ]
                        exact Or.inl ⟨_, _, _, _, _, _, _, _, _, _, _, _, _, _, _, _, _, _, _, _, _, _, _, _, _, _, _, _, _, _, _, _, rfl, hK.n27 (Below.refl _ _)⟩
                      | 28, _ =>
                        as_aux_lemma =>
                        cases hi
                        simp [Region.binds] at hdep
                        obtain rfl := hK.f22 (by first | exact hdep | exact hdep.1 | exact hdep.2 | exact hdep.2.1 | exact hdep.2.2 | exact hdep.2.2.1 | exact hdep.2.2.2 | exact hdep.2.2.2.1 | exact hdep.2.2.2.2)
                        simp [wpOp, Region.wanted, yielded, Oper.wp, execOp, go_sem, Oper.upon, Act.eval, Act.put]
                        exact Or.inl ⟨_, _, _, _, _, _, _, _, _, _, _, _, _, _, _, _, _, _, _, _, _, _, _, _, _, _, _, _, _, _, _, _, rfl, hK.n28 (Below.refl _ _)⟩
                      | 29, _ =>
                        as_aux_lemma =>
                        cases hi
                        simp [Region.binds] at hdep
                        obtain rfl := hK.f27 (by first | exact hdep | exact hdep.1 | exact hdep.2 | exact hdep.2.1 | exact hdep.2.2 | exact hdep.2.2.1 | exact hdep.2.2.2 | exact hdep.2.2.2.1 | exact hdep.2.2.2.2)
                        obtain rfl := hK.f28 (by first | exact hdep | exact hdep.1 | exact hdep.2 | exact hdep.2.1 | exact hdep.2.2 | exact hdep.2.2.1 | exact hdep.2.2.2 | exact hdep.2.2.2.1 | exact hdep.2.2.2.2)
                        obtain rfl := hK.f22 (by first | exact hdep | exact hdep.1 | exact hdep.2 | exact hdep.2.1 | exact hdep.2.2 | exact hdep.2.2.1 | exact hdep.2.2.2 | exact hdep.2.2.2.1 | exact hdep.2.2.2.2)
                        simp [wpOp, Region.wanted, yielded, Oper.wp, execOp, go_sem, Oper.upon, Act.eval, Act.put]
                        exact Or.inl ⟨_, _, _, _, _, _, _, _, _, _, _, _, _, _, _, _, _, _, _, _, _, _, _, _, _, _, _, _, _, _, _, _, rfl, hK.n29 (Below.refl _ _)⟩
                      | 30, _ =>
                        as_aux_lemma =>
                        cases hi
                        simp [Region.binds] at hdep
                        obtain rfl := hK.f22 (by first | exact hdep | exact hdep.1 | exact hdep.2 | exact hdep.2.1 | exact hdep.2.2 | exact hdep.2.2.1 | exact hdep.2.2.2 | exact hdep.2.2.2.1 | exact hdep.2.2.2.2)
                        obtain rfl := hK.f29 (by first | exact hdep | exact hdep.1 | exact hdep.2 | exact hdep.2.1 | exact hdep.2.2 | exact hdep.2.2.1 | exact hdep.2.2.2 | exact hdep.2.2.2.1 | exact hdep.2.2.2.2)
                        simp [wpOp, Region.wanted, Oper.wp, execOp, go_sem, Oper.upon, Act.eval, Act.put]
                        exact Or.inl ⟨_, _, _, _, _, _, _, _, _, _, _, _, _, _, _, _, _, _, _, _, _, _, _, _, _, _, _, _, _, _, _, _, rfl, hK.n30 (Below.refl _ _)⟩
                      | 31, _ =>
                        as_aux_lemma =>
                        cases hi
                        simp [Region.binds] at hdep
                        obtain rfl := hK.f30 (by first | exact hdep | exact hdep.1 | exact hdep.2 | exact hdep.2.1 | exact hdep.2.2 | exact hdep.2.2.1 | exact hdep.2.2.2 | exact hdep.2.2.2.1 | exact hdep.2.2.2.2)
                        simp [wpOp, Region.wanted, Oper.wp, execOp, go_sem, Oper.upon, Act.eval, Act.put]
                        exact Or.inl ⟨_, _, _, _, _, _, _, _, _, _, _, _, _, _, _, _, _, _, _, _, _, _, _, _, _, _, _, _, _, _, _, _, rfl, hK.n31 (Below.refl _ _)⟩
                    · intro D c w1 hI hall
                      obtain ⟨t174, t175, t176, t177, t178, t179, t180, t181, t182, t183, t184, t185, t186, t187, t188, t189, t190, t191, t192, t193, t194, t195, t196, t197, t198, t199, t200, t201, t202, t203, t204, t4, rfl, hK⟩ := hI
                      obtain rfl := hK.f31 (hall _ (by decide))
                      go_wp2_with fail
                      go_ret
                      exact ⟨rfl, C4.out.trans (hK.bel.mono C4.out.size)⟩
                  | false =>
                    have hA2 := hX hB
                    refine wp_region_inv (by kernel_rfl) (R2200I (fun t174 t175 t176 t177 t178 t179 t180 t181 t182 t183 t184 t185 t186 t187 t188 t189 t190 t191 t192 t193 t194 t195 t196 t197 t198 t199 t200 t201 t202 t203 t204 t4 => #[.int .i64 a, .int .i64 b, undef, undef, t4, .pointer (some ⟨cs, 0, none⟩), .bool true, .pointer (some ⟨cd, 0, none⟩), .bool true, .bool O, .bool U, .pointer (some ⟨cn, 0, none⟩), .pointer (some ⟨cp, 0, none⟩), undef, u14, u15, u16, u17, u18, u19, u20, u21, u22, u23, u24, u25, u26, u27, u28, u29, u30, u31, u32, u33, u34, u35, u36, u37, u38, u39, u40, u41, u42, u43, u44, u45, u46, u47, u48, u49, u50, u51, u52, u53, u54, u55, u56, u57, u58, u59, u60, u61, u62, u63, u64, u65, u66, u67, u68, u69, u70, u71, u72, u73, u74, u75, u76, u77, u78, u79, u80, u81, u82, u83, u84, u85, u86, u87, u88, u89, u90, u91, u92, u93, u94, u95, u96, u97, u98, u99, u100, u101, u102, u103, u104, u105, u106, u107, u108, u109, u110, u111, u112, u113, u114, u115, u116, u117, u118, u119, u120, u121, u122, u123, u124, u125, u126, u127, u128, u129, u130, u131, u132, u133, u134, u135, u136, u137, u138, u139, u140, u141, u142, u143, u144, u145, u146, u147, u148, u149, u150, u151, u152, .bool false, u154, u155, u156, .pointer (some ⟨cp, 0, none⟩), .int .i64 1, .bool false, u160, u161, u162, u163, u164, u165, u166, u167, u168, u169, u170, u171, u172, u173, t174, t175, t176, t177, t178, t179, t180, t181, t182, t183, t184, t185, t186, t187, t188, t189, t190, t191, t192, t193, t194, t195, t196, t197, t198, t199, t200, t201, t202, t203, t204]) wc a b (wrap64 (a * b))) ?_ (by kernel_rfl) ?_ ?_ ?_
                    · rintro D D' c w1 hD ⟨t174, t175, t176, t177, t178, t179, t180, t181, t182, t183, t184, t185, t186, t187, t188, t189, t190, t191, t192, t193, t194, t195, t196, t197, t198, t199, t200, t201, t202, t203, t204, t4, h, hK⟩
                      have e : D = D' := funext fun j => propext (hD j)
                      subst e
                      exact ⟨t174, t175, t176, t177, t178, t179, t180, t181, t182, t183, t184, t185, t186, t187, t188, t189, t190, t191, t192, t193, t194, t195, t196, t197, t198, t199, t200, t201, t202, t203, t204, t4, h, hK⟩
                    · intro D hD
                      exact ⟨_, _, _, _, _, _, _, _, _, _, _, _, _, _, _, _, _, _, _, _, _, _, _, _, _, _, _, _, _, _, _, _, rfl, (Below.refl _ _).drew, fun h => absurd h (hD _), fun h => absurd h (hD _), fun h => absurd h (hD _), fun h => absurd h (hD _), fun h => absurd h (hD _), fun h => absurd h (hD _), fun h => absurd h (hD _), fun h => absurd h (hD _), fun h => absurd h (hD _), fun h => absurd h (hD _), fun h => absurd h (hD _), fun h => absurd h (hD _), fun h => absurd h (hD _), fun h => absurd h (hD _), fun h => absurd h (hD _), fun h => absurd h (hD _), fun h => absurd h (hD _), fun h => absurd h (hD _), fun h => absurd h (hD _), fun h => absurd h (hD _), fun h => absurd h (hD _), fun h => absurd h (hD _), fun h => absurd h (hD _), fun h => absurd h (hD _), fun h => absurd h (hD _), fun h => absurd h (hD _), fun h => absurd h (hD _), fun h => absurd h (hD _), fun h => absurd h (hD _), fun h => absurd h (hD _), fun h => absurd h (hD _), fun h => absurd h (hD _)⟩
                    · intro D c w1 hI j o hi hnd hdep
                      obtain ⟨t174, t175, t176, t177, t178, t179, t180, t181, t182, t183, t184, t185, t186, t187, t188, t189, t190, t191, t192, t193, t194, t195, t196, t197, t198, t199, t200, t201, t202, t203, t204, t4, rfl, hK⟩ := hI
                      have hlt : j < 32 := (Array.getElem?_eq_some_iff.1 hi).1
                      match j, hlt with
                      | 0, _ =>
                        as_aux_lemma =>
                        cases hi
                        obtain ⟨y0, y1, y2, y3, _⟩ := W4.out.on hK.bel
                        simp [wpOp, Region.wanted, Oper.wp, execOp, go_sem, Oper.upon, Act.eval, Act.put, y0, y1, y2, y3]
                        exact Or.inl ⟨_, _, _, _, _, _, _, _, _, _, _, _, _, _, _, _, _, _, _, _, _, _, _, _, _, _, _, _, _, _, _, _, rfl, hK.n0 (Below.refl _ _)⟩
                      | 1, _ =>
                        as_aux_lemma =>
                        cases hi
                        simp [wpOp, Region.wanted, Oper.wp, execOp, go_sem, Oper.upon, Act.eval, Act.put]
                        exact Or.inl ⟨_, _, _, _, _, _, _, _, _, _, _, _, _, _, _, _, _, _, _, _, _, _, _, _, _, _, _, _, _, _, _, _, rfl, hK.n1 (Below.refl _ _)⟩
                      | 2, _ =>
                        as_aux_lemma =>
                        cases hi
                        simp [wpOp, Region.wanted, Oper.wp, execOp, go_sem, Oper.upon, Act.eval, Act.put]
                        exact Or.inl ⟨_, _, _, _, _, _, _, _, _, _, _, _, _, _, _, _, _, _, _, _, _, _, _, _, _, _, _, _, _, _, _, _, rfl, hK.n2 (Below.refl _ _)⟩
                      | 3, _ =>
                        as_aux_lemma =>
                        cases hi
                        simp [Region.binds] at hdep
                        obtain rfl := hK.f1 (by first | exact hdep | exact hdep.1 | exact hdep.2 | exact hdep.2.1 | exact hdep.2.2 | exact hdep.2.2.1 | exact hdep.2.2.2 | exact hdep.2.2.2.1 | exact hdep.2.2.2.2)
                        obtain rfl := hK.f2 (by first | exact hdep | exact hdep.1 | exact hdep.2 | exact hdep.2.1 | exact hdep.2.2 | exact hdep.2.2.1 | exact hdep.2.2.2 | exact hdep.2.2.2.1 | exact hdep.2.2.2.2)
                        simp [wpOp, Region.wanted, Oper.wp, execOp, go_sem, Oper.upon, Act.eval, Act.put, wrapEq]
                        exact Or.inl ⟨_, _, _, _, _, _, _, _, _, _, _, _, _, _, _, _, _, _, _, _, _, _, _, _, _, _, _, _, _, _, _, _, rfl, hK.n3 (Below.refl _ _)⟩
                      | 4, _ =>
                        as_aux_lemma =>
                        cases hi
                        simp [Region.binds] at hdep
                        obtain rfl := hK.f3 (by first | exact hdep | exact hdep.1 | exact hdep.2 | exact hdep.2.1 | exact hdep.2.2 | exact hdep.2.2.1 | exact hdep.2.2.2 | exact hdep.2.2.2.1 | exact hdep.2.2.2.2)
                        simp [wpOp, Region.wanted, Oper.wp, go_sem, Oper.upon, Act.eval, Act.put]
                        refine Or.inl ((HN.out _ w1).mono ?_)
                        rintro e w2 ⟨hb, rfl⟩
                        exact ⟨_, _, _, _, _, _, _, _, _, _, _, _, _, _, _, _, _, _, _, _, _, _, _, _, _, _, _, _, _, _, _, _, rfl, hK.n4 hb⟩
                      | 5, _ =>
                        as_aux_lemma =>
                        cases hi
                        simp [Region.binds] at hdep
                        obtain rfl := hK.f0 (by first | exact hdep | exact hdep.1 | exact hdep.2 | exact hdep.2.1 | exact hdep.2.2 | exact hdep.2.2.1 | exact hdep.2.2.2 | exact hdep.2.2.2.1 | exact hdep.2.2.2.2)
                        obtain rfl := hK.f4 (by first | exact hdep | exact hdep.1 | exact hdep.2 | exact hdep.2.1 | exact hdep.2.2 | exact hdep.2.2.1 | exact hdep.2.2.2 | exact hdep.2.2.2.1 | exact hdep.2.2.2.2)
                        simp [wpOp, Region.wanted, Oper.wp, go_sem, Oper.upon, Act.eval, Act.put]
                        refine Or.inl ((same_t 1 _ w1).mono ?_)
                        rintro e w2 ⟨hb, rfl⟩
                        exact ⟨_, _, _, _, _, _, _, _, _, _, _, _, _, _, _, _, _, _, _, _, _, _, _, _, _, _, _, _, _, _, _, _, rfl, hK.n5 hb⟩
                      | 6, _ =>
                        as_aux_lemma =>
                        cases hi
                        simp [Region.binds] at hdep
                        obtain rfl := hK.f5 (by first | exact hdep | exact hdep.1 | exact hdep.2 | exact hdep.2.1 | exact hdep.2.2 | exact hdep.2.2.1 | exact hdep.2.2.2 | exact hdep.2.2.2.1 | exact hdep.2.2.2.2)
                        simp [wpOp, Region.wanted, Oper.wp, execOp, go_sem, Oper.upon, Act.eval, Act.put]
                        exact Or.inl ⟨_, _, _, _, _, _, _, _, _, _, _, _, _, _, _, _, _, _, _, _, _, _, _, _, _, _, _, _, _, _, _, _, rfl, hK.n6 (Below.refl _ _)⟩
                      | 7, _ =>
                        as_aux_lemma =>
                        cases hi
                        simp [Region.binds] at hdep
                        obtain rfl := hK.f6 (by first | exact hdep | exact hdep.1 | exact hdep.2 | exact hdep.2.1 | exact hdep.2.2 | exact hdep.2.2.1 | exact hdep.2.2.2 | exact hdep.2.2.2.1 | exact hdep.2.2.2.2)
                        simp [wpOp, Region.wanted, yielded, Oper.wp, execOp, go_sem, Oper.upon, Act.eval, Act.put]
                        exact Or.inl ⟨_, _, _, _, _, _, _, _, _, _, _, _, _, _, _, _, _, _, _, _, _, _, _, _, _, _, _, _, _, _, _, _, rfl, hK.n7 (Below.refl _ _)⟩
                      | 8, _ =>
                        as_aux_lemma =>
                        cases hi
                        simp [Region.binds] at hdep
                        obtain rfl := hK.f7 (by first | exact hdep | exact hdep.1 | exact hdep.2 | exact hdep.2.1 | exact hdep.2.2 | exact hdep.2.2.1 | exact hdep.2.2.2 | exact hdep.2.2.2.1 | exact hdep.2.2.2.2)
                        obtain rfl := hK.f6 (by first | exact hdep | exact hdep.1 | exact hdep.2 | exact hdep.2.1 | exact hdep.2.2 | exact hdep.2.2.1 | exact hdep.2.2.2 | exact hdep.2.2.2.1 | exact hdep.2.2.2.2)
                        simp [wpOp, Region.wanted, yielded, Oper.wp, execOp, go_sem, Oper.upon, Act.eval, Act.put, hA]
                        exact Or.inl ⟨_, _, _, _, _, _, _, _, _, _, _, _, _, _, _, _, _, _, _, _, _, _, _, _, _, _, _, _, _, _, _, _, rfl, hK.n8 (Below.refl _ _)⟩
                      | 9, _ =>
                        as_aux_lemma =>
                        cases hi
                        simp [Region.binds] at hdep
                        obtain rfl := hK.f8 (by first | exact hdep | exact hdep.1 | exact hdep.2 | exact hdep.2.1 | exact hdep.2.2 | exact hdep.2.2.1 | exact hdep.2.2.2 | exact hdep.2.2.2.1 | exact hdep.2.2.2.2)
                        obtain rfl := hK.f6 (by first | exact hdep | exact hdep.1 | exact hdep.2 | exact hdep.2.1 | exact hdep.2.2 | exact hdep.2.2.1 | exact hdep.2.2.2 | exact hdep.2.2.2.1 | exact hdep.2.2.2.2)
                        simp [wpOp, Region.wanted, yielded, Oper.wp, execOp, go_sem, Oper.upon, Act.eval, Act.put]
                        exact Or.inl ⟨_, _, _, _, _, _, _, _, _, _, _, _, _, _, _, _, _, _, _, _, _, _, _, _, _, _, _, _, _, _, _, _, rfl, hK.n9 (Below.refl _ _)⟩
                      | 10, _ =>
                        as_aux_lemma =>
                        cases hi
                        simp [Region.binds] at hdep
                        obtain rfl := hK.f9 (by first | exact hdep | exact hdep.1 | exact hdep.2 | exact hdep.2.1 | exact hdep.2.2 | exact hdep.2.2.1 | exact hdep.2.2.2 | exact hdep.2.2.2.1 | exact hdep.2.2.2.2)
                        simp [wpOp, Region.wanted, yielded, Oper.wp, execOp, go_sem, Oper.upon, Act.eval, Act.put]
                        exact Or.inl ⟨_, _, _, _, _, _, _, _, _, _, _, _, _, _, _, _, _, _, _, _, _, _, _, _, _, _, _, _, _, _, _, _, rfl, hK.n10 (Below.refl _ _)⟩
                      | 11, _ =>
                        as_aux_lemma =>
                        cases hi
                        simp [Region.binds] at hdep
                        obtain rfl := hK.f10 (by first | exact hdep | exact hdep.1 | exact hdep.2 | exact hdep.2.1 | exact hdep.2.2 | exact hdep.2.2.1 | exact hdep.2.2.2 | exact hdep.2.2.2.1 | exact hdep.2.2.2.2)
                        obtain rfl := hK.f9 (by first | exact hdep | exact hdep.1 | exact hdep.2 | exact hdep.2.1 | exact hdep.2.2 | exact hdep.2.2.1 | exact hdep.2.2.2 | exact hdep.2.2.2.1 | exact hdep.2.2.2.2)
                        simp [wpOp, Region.wanted, yielded, Oper.wp, execOp, go_sem, Oper.upon, Act.eval, Act.put, hB2]
                        exact Or.inl ⟨_, _, _, _, _, _, _, _, _, _, _, _, _, _, _, _, _, _, _, _, _, _, _, _, _, _, _, _, _, _, _, _, rfl, hK.n11 (Below.refl _ _)⟩
                      | 12, _ =>
                        as_aux_lemma =>
                        cases hi
                        simp [Region.binds] at hdep
                        obtain rfl := hK.f9 (by first | exact hdep | exact hdep.1 | exact hdep.2 | exact hdep.2.1 | exact hdep.2.2 | exact hdep.2.2.1 | exact hdep.2.2.2 | exact hdep.2.2.2.1 | exact hdep.2.2.2.2)
                        obtain rfl := hK.f11 (by first | exact hdep | exact hdep.1 | exact hdep.2 | exact hdep.2.1 | exact hdep.2.2 | exact hdep.2.2.1 | exact hdep.2.2.2 | exact hdep.2.2.2.1 | exact hdep.2.2.2.2)
                        obtain rfl := hK.f6 (by first | exact hdep | exact hdep.1 | exact hdep.2 | exact hdep.2.1 | exact hdep.2.2 | exact hdep.2.2.1 | exact hdep.2.2.2 | exact hdep.2.2.2.1 | exact hdep.2.2.2.2)
                        simp [wpOp, Region.wanted, yielded, Oper.wp, execOp, go_sem, Oper.upon, Act.eval, Act.put]
                        exact Or.inl ⟨_, _, _, _, _, _, _, _, _, _, _, _, _, _, _, _, _, _, _, _, _, _, _, _, _, _, _, _, _, _, _, _, rfl, hK.n12 (Below.refl _ _)⟩
                      | 13, _ =>
                        as_aux_lemma =>
                        cases hi
                        simp [Region.binds] at hdep
                        obtain rfl := hK.f6 (by first | exact hdep | exact hdep.1 | exact hdep.2 | exact hdep.2.1 | exact hdep.2.2 | exact hdep.2.2.1 | exact hdep.2.2.2 | exact hdep.2.2.2.1 | exact hdep.2.2.2.2)
                        obtain rfl := hK.f12 (by first | exact hdep | exact hdep.1 | exact hdep.2 | exact hdep.2.1 | exact hdep.2.2 | exact hdep.2.2.1 | exact hdep.2.2.2 | exact hdep.2.2.2.1 | exact hdep.2.2.2.2)
                        simp [wpOp, Region.wanted, Oper.wp, execOp, go_sem, Oper.upon, Act.eval, Act.put]
                        exact Or.inl ⟨_, _, _, _, _, _, _, _, _, _, _, _, _, _, _, _, _, _, _, _, _, _, _, _, _, _, _, _, _, _, _, _, rfl, hK.n13 (Below.refl _ _)⟩
                      | 14, _ =>
                        as_aux_lemma =>
                        cases hi
                        simp [Region.binds] at hdep
                        obtain rfl := hK.f13 (by first | exact hdep | exact hdep.1 | exact hdep.2 | exact hdep.2.1 | exact hdep.2.2 | exact hdep.2.2.1 | exact hdep.2.2.2 | exact hdep.2.2.2.1 | exact hdep.2.2.2.2)
                        simp [wpOp, Region.wanted, Oper.wp, execOp, go_sem, Oper.upon, Act.eval, Act.put]
                        exact Or.inl ⟨_, _, _, _, _, _, _, _, _, _, _, _, _, _, _, _, _, _, _, _, _, _, _, _, _, _, _, _, _, _, _, _, rfl, hK.n14 (Below.refl _ _)⟩
                      | 15, _ =>
                        as_aux_lemma =>
                        cases hi
                        simp [Region.binds] at hdep
                        obtain rfl := hK.f14 (by first | exact hdep | exact hdep.1 | exact hdep.2 | exact hdep.2.1 | exact hdep.2.2 | exact hdep.2.2.1 | exact hdep.2.2.2 | exact hdep.2.2.2.1 | exact hdep.2.2.2.2)
                        simp [wpOp, Region.wanted, yielded, Oper.wp, execOp, go_sem, Oper.upon, Act.eval, Act.put]
                        exact Or.inl ⟨_, _, _, _, _, _, _, _, _, _, _, _, _, _, _, _, _, _, _, _, _, _, _, _, _, _, _, _, _, _, _, _, rfl, hK.n15 (Below.refl _ _)⟩
                      | 16, _ =>
                        as_aux_lemma =>
                        cases hi
                        simp [Region.binds] at hdep
                        obtain rfl := hK.f15 (by first | exact hdep | exact hdep.1 | exact hdep.2 | exact hdep.2.1 | exact hdep.2.2 | exact hdep.2.2.1 | exact hdep.2.2.2 | exact hdep.2.2.2.1 | exact hdep.2.2.2.2)
                        obtain rfl := hK.f14 (by first | exact hdep | exact hdep.1 | exact hdep.2 | exact hdep.2.1 | exact hdep.2.2 | exact hdep.2.2.1 | exact hdep.2.2.2 | exact hdep.2.2.2.1 | exact hdep.2.2.2.2)
                        simp [wpOp, Region.wanted, yielded, Oper.wp, execOp, go_sem, Oper.upon, Act.eval, Act.put, hB]
                        exact Or.inl ⟨_, _, _, _, _, _, _, _, _, _, _, _, _, _, _, _, _, _, _, _, _, _, _, _, _, _, _, _, _, _, _, _, rfl, hK.n16 (Below.refl _ _)⟩
                      | 17, _ =>
                        as_aux_lemma =>
                        cases hi
                        simp [Region.binds] at hdep
                        obtain rfl := hK.f16 (by first | exact hdep | exact hdep.1 | exact hdep.2 | exact hdep.2.1 | exact hdep.2.2 | exact hdep.2.2.1 | exact hdep.2.2.2 | exact hdep.2.2.2.1 | exact hdep.2.2.2.2)
                        obtain rfl := hK.f14 (by first | exact hdep | exact hdep.1 | exact hdep.2 | exact hdep.2.1 | exact hdep.2.2 | exact hdep.2.2.1 | exact hdep.2.2.2 | exact hdep.2.2.2.1 | exact hdep.2.2.2.2)
                        simp [wpOp, Region.wanted, yielded, Oper.wp, execOp, go_sem, Oper.upon, Act.eval, Act.put]
                        exact Or.inl ⟨_, _, _, _, _, _, _, _, _, _, _, _, _, _, _, _, _, _, _, _, _, _, _, _, _, _, _, _, _, _, _, _, rfl, hK.n17 (Below.refl _ _)⟩
                      | 18, _ =>
                        as_aux_lemma =>
                        cases hi
                        simp [Region.binds] at hdep
                        obtain rfl := hK.f17 (by first | exact hdep | exact hdep.1 | exact hdep.2 | exact hdep.2.1 | exact hdep.2.2 | exact hdep.2.2.1 | exact hdep.2.2.2 | exact hdep.2.2.2.1 | exact hdep.2.2.2.2)
                        simp [wpOp, Region.wanted, yielded, Oper.wp, execOp, go_sem, Oper.upon, Act.eval, Act.put]
                        exact Or.inl ⟨_, _, _, _, _, _, _, _, _, _, _, _, _, _, _, _, _, _, _, _, _, _, _, _, _, _, _, _, _, _, _, _, rfl, hK.n18 (Below.refl _ _)⟩
                      | 19, _ =>
                        as_aux_lemma =>
                        cases hi
                        simp [Region.binds] at hdep
                        obtain rfl := hK.f18 (by first | exact hdep | exact hdep.1 | exact hdep.2 | exact hdep.2.1 | exact hdep.2.2 | exact hdep.2.2.1 | exact hdep.2.2.2 | exact hdep.2.2.2.1 | exact hdep.2.2.2.2)
                        obtain rfl := hK.f17 (by first | exact hdep | exact hdep.1 | exact hdep.2 | exact hdep.2.1 | exact hdep.2.2 | exact hdep.2.2.1 | exact hdep.2.2.2 | exact hdep.2.2.2.1 | exact hdep.2.2.2.2)
                        simp [wpOp, Region.wanted, yielded, Oper.wp, execOp, go_sem, Oper.upon, Act.eval, Act.put, hA2]
                        exact Or.inl ⟨_, _, _, _, _, _, _, _, _, _, _, _, _, _, _, _, _, _, _, _, _, _, _, _, _, _, _, _, _, _, _, _, rfl, hK.n19 (Below.refl _ _)⟩
                      | 20, _ =>
                        as_aux_lemma =>
                        cases hi
                        simp [Region.binds] at hdep
                        obtain rfl := hK.f17 (by first | exact hdep | exact hdep.1 | exact hdep.2 | exact hdep.2.1 | exact hdep.2.2 | exact hdep.2.2.1 | exact hdep.2.2.2 | exact hdep.2.2.2.1 | exact hdep.2.2.2.2)
                        obtain rfl := hK.f19 (by first | exact hdep | exact hdep.1 | exact hdep.2 | exact hdep.2.1 | exact hdep.2.2 | exact hdep.2.2.1 | exact hdep.2.2.2 | exact hdep.2.2.2.1 | exact hdep.2.2.2.2)
                        obtain rfl := hK.f14 (by first | exact hdep | exact hdep.1 | exact hdep.2 | exact hdep.2.1 | exact hdep.2.2 | exact hdep.2.2.1 | exact hdep.2.2.2 | exact hdep.2.2.2.1 | exact hdep.2.2.2.2)
                        simp [wpOp, Region.wanted, yielded, Oper.wp, execOp, go_sem, Oper.upon, Act.eval, Act.put]
                        exact Or.inl ⟨_, _, _, _, _, _, _, _, _, _, _, _, _, _, _, _, _, _, _, _, _, _, _, _, _, _, _, _, _, _, _, _, rfl, hK.n20 (Below.refl _ _)⟩
                      | 21, _ =>
                        as_aux_lemma =>
                        cases hi
                        simp [Region.binds] at hdep
                        obtain rfl := hK.f14 (by first | exact hdep | exact hdep.1 | exact hdep.2 | exact hdep.2.1 | exact hdep.2.2 | exact hdep.2.2.1 | exact hdep.2.2.2 | exact hdep.2.2.2.1 | exact hdep.2.2.2.2)
                        obtain rfl := hK.f20 (by first | exact hdep | exact hdep.1 | exact hdep.2 | exact hdep.2.1 | exact hdep.2.2 | exact hdep.2.2.1 | exact hdep.2.2.2 | exact hdep.2.2.2.1 | exact hdep.2.2.2.2)
                        simp [wpOp, Region.wanted, Oper.wp, execOp, go_sem, Oper.upon, Act.eval, Act.put]
                        exact Or.inl ⟨_, _, _, _, _, _, _, _, _, _, _, _, _, _, _, _, _, _, _, _, _, _, _, _, _, _, _, _, _, _, _, _, rfl, hK.n21 (Below.refl _ _)⟩
                      | 22, _ =>
                        as_aux_lemma =>
                        cases hi
                        simp [Region.binds] at hdep
                        obtain rfl := hK.f21 (by first | exact hdep | exact hdep.1 | exact hdep.2 | exact hdep.2.1 | exact hdep.2.2 | exact hdep.2.2.1 | exact hdep.2.2.2 | exact hdep.2.2.2.1 | exact hdep.2.2.2.2)
                        simp [wpOp, Region.wanted, Oper.wp, execOp, go_sem, Oper.upon, Act.eval, Act.put]
                        exact Or.inl ⟨_, _, _, _, _, _, _, _, _, _, _, _, _, _, _, _, _, _, _, _, _, _, _, _, _, _, _, _, _, _, _, _, rfl, hK.n22 (Below.refl _ _)⟩
                      | 23, _ =>
                        as_aux_lemma =>
                        cases hi
                        simp [Region.binds] at hdep
                        obtain rfl := hK.f22 (by first | exact hdep | exact hdep.1 | exact hdep.2 | exact hdep.2.1 | exact hdep.2.2 | exact hdep.2.2.1 | exact hdep.2.2.2 | exact hdep.2.2.2.1 | exact hdep.2.2.2.2)
                        simp [wpOp, Region.wanted, yielded, Oper.wp, execOp, go_sem, Oper.upon, Act.eval, Act.put]
                        exact Or.inl ⟨_, _, _, _, _, _, _, _, _, _, _, _, _, _, _, _, _, _, _, _, _, _, _, _, _, _, _, _, _, _, _, _, rfl, hK.n23 (Below.refl _ _)⟩
                      | 24, _ =>
                        as_aux_lemma =>
                        cases hi
                        simp [Region.binds] at hdep
                        obtain rfl := hK.f22 (by first | exact hdep | exact hdep.1 | exact hdep.2 | exact hdep.2.1 | exact hdep.2.2 | exact hdep.2.2.1 | exact hdep.2.2.2 | exact hdep.2.2.2.1 | exact hdep.2.2.2.2)
                        simp [wpOp, Region.wanted, yielded, Oper.wp, execOp, go_sem, Oper.upon, Act.eval, Act.put]
                        exact Or.inl ⟨_, _, _, _, _, _, _, _, _, _, _, _, _, _, _, _, _, _, _, _, _, _, _, _, _, _, _, _, _, _, _, _, rfl, hK.n24 (Below.refl _ _)⟩
                      | 25, _ =>
                        as_aux_lemma =>
                        cases hi
                        simp [Region.binds] at hdep
                        obtain rfl := hK.f23 (by first | exact hdep | exact hdep.1 | exact hdep.2 | exact hdep.2.1 | exact hdep.2.2 | exact hdep.2.2.1 | exact hdep.2.2.2 | exact hdep.2.2.2.1 | exact hdep.2.2.2.2)
                        obtain rfl := hK.f24 (by first | exact hdep | exact hdep.1 | exact hdep.2 | exact hdep.2.1 | exact hdep.2.2 | exact hdep.2.2.1 | exact hdep.2.2.2 | exact hdep.2.2.2.1 | exact hdep.2.2.2.2)
                        obtain rfl := hK.f22 (by first | exact hdep | exact hdep.1 | exact hdep.2 | exact hdep.2.1 | exact hdep.2.2 | exact hdep.2.2.1 | exact hdep.2.2.2 | exact hdep.2.2.2.1 | exact hdep.2.2.2.2)
                        simp [wpOp, Region.wanted, yielded, Oper.wp, execOp, go_sem, Oper.upon, Act.eval, Act.put, wrapEq]
                        exact Or.inl ⟨_, _, _, _, _, _, _, _, _, _, _, _, _, _, _, _, _, _, _, _, _, _, _, _, _, _, _, _, _, _, _, _, rfl, hK.n25 (Below.refl _ _)⟩
                      | 26, _ =>
                        as_aux_lemma =>
                        cases hi
                        simp [Region.binds] at hdep
                        obtain rfl := hK.f22 (by first | exact hdep | exact hdep.1 | exact hdep.2 | exact hdep.2.1 | exact hdep.2.2 | exact hdep.2.2.1 | exact hdep.2.2.2 | exact hdep.2.2.2.1 | exact hdep.2.2.2.2)
                        simp [wpOp, Region.wanted, yielded, Oper.wp, execOp, go_sem, Oper.upon, Act.eval, Act.put]
                        exact Or.inl ⟨_, _, _, _, _, _, _, _, _, _, _, _, _, _, _, _, _, _, _, _, _, _, _, _, _, _, _, _, _, _, _, _, rfl, hK.n26 (Below.refl _ _)⟩
                      | 27, _ =>
                        as_aux_lemma =>
                        cases hi
                        simp [Region.binds] at hdep
                        obtain rfl := hK.f25 (by first | exact hdep | exact hdep.1 | exact hdep.2 | exact hdep.2.1 | exact hdep.2.2 | exact hdep.2.2.1 | exact hdep.2.2.2 | exact hdep.2.2.2.1 | exact hdep.2.2.2.2)
                        obtain rfl := hK.f26 (by first | exact hdep | exact hdep.1 | exact hdep.2 | exact hdep.2.1 | exact hdep.2.2 | exact hdep.2.2.1 | exact hdep.2.2.2 | exact hdep.2.2.2.1 | exact hdep.2.2.2.2)
                        obtain rfl := hK.f22 (by first | exact hdep | exact hdep.1 | exact hdep.2 | exact hdep.2.1 | exact hdep.2.2 | exact hdep.2.2.1 | exact hdep.2.2.2 | exact hdep.2.2.2.1 | exact hdep.2.2.2.2)
                        simp [wpOp, Region.wanted, yielded, Oper.wp, execOp, go_sem, Oper.upon, Act.eval, Act.put, wrapEq, h0b, hQ]
                        exact Or.inl ⟨_, _, _, _, _, _, _, _, _, _, _, _, _, _, _, _, _, _, _, _, _, _, _, _, _, _, _, _, _, _, _, _, rfl, hK.n27 (Below.refl _ _)⟩
                      | 28, _ =>
                        as_aux_lemma =>
                        cases hi
                        simp [Region.binds] at hdep
                        obtain rfl := hK.f22 (by first | exact hdep | exact hdep.1 | exact hdep.2 | exact hdep.2.1 | exact hdep.2.2 | exact hdep.2.2.1 | exact hdep.2.2.2 | exact hdep.2.2.2.1 | exact hdep.2.2.2.2)
                        simp [wpOp, Region.wanted, yielded, Oper.wp, execOp, go_sem, Oper.upon, Act.eval, Act.put]
                        exact Or.inl ⟨_, _, _, _, _, _, _, _, _, _, _, _, _, _, _, _, _, _, _, _, _, _, _, _, _, _, _, _, _, _, _, _, rfl, hK.n28 (Below.refl _ _)⟩
                      | 29, _ =>
                        as_aux_lemma =>
                        cases hi
                        simp [Region.binds] at hdep
                        obtain rfl := hK.f27 (by first | exact hdep | exact hdep.1 | exact hdep.2 | exact hdep.2.1 | exact hdep.2.2 | exact hdep.2.2.1 | exact hdep.2.2.2 | exact hdep.2.2.2.1 | exact hdep.2.2.2.2)
                        obtain rfl := hK.f28 (by first | exact hdep | exact hdep.1 | exact hdep.2 | exact hdep.2.1 | exact hdep.2.2 | exact hdep.2.2.1 | exact hdep.2.2.2 | exact hdep.2.2.2.1 | exact hdep.2.2.2.2)
                        obtain rfl := hK.f22 (by first | exact hdep | exact hdep.1 | exact hdep.2 | exact hdep.2.1 | exact hdep.2.2 | exact hdep.2.2.1 | exact hdep.2.2.2 | exact hdep.2.2.2.1 | exact hdep.2.2.2.2)
                        simp [wpOp, Region.wanted, yielded, Oper.wp, execOp, go_sem, Oper.upon, Act.eval, Act.put]
                        exact Or.inl ⟨_, _, _, _, _, _, _, _, _, _, _, _, _, _, _, _, _, _, _, _, _, _, _, _, _, _, _, _, _, _, _, _, rfl, hK.n29 (Below.refl _ _)⟩
                      | 30, _ =>
                        as_aux_lemma =>
                        cases hi
                        simp [Region.binds] at hdep
                        obtain rfl := hK.f22 (by first | exact hdep | exact hdep.1 | exact hdep.2 | exact hdep.2.1 | exact hdep.2.2 | exact hdep.2.2.1 | exact hdep.2.2.2 | exact hdep.2.2.2.1 | exact hdep.2.2.2.2)
                        obtain rfl := hK.f29 (by first | exact hdep | exact hdep.1 | exact hdep.2 | exact hdep.2.1 | exact hdep.2.2 | exact hdep.2.2.1 | exact hdep.2.2.2 | exact hdep.2.2.2.1 | exact hdep.2.2.2.2)
                        simp [wpOp, Region.wanted, Oper.wp, execOp, go_sem, Oper.upon, Act.eval, Act.put]
                        exact Or.inl ⟨_, _, _, _, _, _, _, _, _, _, _, _, _, _, _, _, _, _, _, _, _, _, _, _, _, _, _, _, _, _, _, _, rfl, hK.n30 (Below.refl _ _)⟩
                      | 31, _ =>
                        as_aux_lemma =>
                        cases hi
                        simp [Region.binds] at hdep
                        obtain rfl := hK.f30 (by first | exact hdep | exact hdep.1 | exact hdep.2 | exact hdep.2.1 | exact hdep.2.2 | exact hdep.2.2.1 | exact hdep.2.2.2 | exact hdep.2.2.2.1 | exact hdep.2.2.2.2)
                        simp [wpOp, Region.wanted, Oper.wp, execOp, go_sem, Oper.upon, Act.eval, Act.put]
                        exact Or.inl ⟨_, _, _, _, _, _, _, _, _, _, _, _, _, _, _, _, _, _, _, _, _, _, _, _, _, _, _, _, _, _, _, _, rfl, hK.n31 (Below.refl _ _)⟩
                    · intro D c w1 hI hall
                      obtain ⟨t174, t175, t176, t177, t178, t179, t180, t181, t182, t183, t184, t185, t186, t187, t188, t189, t190, t191, t192, t193, t194, t195, t196, t197, t198, t199, t200, t201, t202, t203, t204, t4, rfl, hK⟩ := hI
                      obtain rfl := hK.f31 (hall _ (by decide))
                      go_wp2_with fail
                      go_ret
                      exact ⟨rfl, C4.out.trans (hK.bel.mono C4.out.size)⟩
end Go.Proofs.YtieknmpdmdbdlaaGreatDoor
