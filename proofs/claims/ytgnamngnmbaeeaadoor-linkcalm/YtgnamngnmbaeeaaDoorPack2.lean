import Derived.Test.YtgnamngnmbaeeaaDoorPack1
import Derived.BigQuiet
import Derived.Deep.RegionWith
namespace Go.Proofs.YtgnamngnmbaeeaaDoor
open Go.RowKit

set_option maxHeartbeats 1000000 in
theorem eqIn4 (w : World) (a0 a1 a2 a3 b0 b1 b2 b3 : Int) :
    (Op.equalIn 10000 151 (.agg #[.int .u8 a0, .int .u8 a1, .int .u8 a2, .int .u8 a3]) (.agg #[.int .u8 b0, .int .u8 b1, .int .u8 b2, .int .u8 b3])).run Tryd.prog w =
      .ok (a0 == b0 && (a1 == b1 && (a2 == b2 && a3 == b3))) w := by
  have u5 := Tryd.underlying5
  have a5 := Tryd.isAgg5
  have z5 := Tryd.sizeOf5
  rw [show (10000 : Nat) = 9999 + 1 from rfl, Op.equalIn]
  simp only [Sem.run_bind, run_underlying Tryd.underlying151, Result.andThen_ok]
  simp only [Std.Legacy.Range.forIn_eq_forIn_range', Std.Legacy.Range.size, Nat.sub_zero, Nat.add_sub_cancel, Nat.div_one, List.range'_succ, List.range'_zero, List.forIn_cons, List.forIn_nil]
  go_simp
  by_cases h0 : a0 = b0 <;> by_cases h1 : a1 = b1 <;> by_cases h2 : a2 = b2 <;> by_cases h3 : a3 = b3 <;> simp [h0, h1, h2, h3]
end Go.Proofs.YtgnamngnmbaeeaaDoor

namespace Go.Proofs.YtgnamngnmbaeeaaDoor
open Go.RowKit

set_option maxHeartbeats 400000 in
theorem readHead_cut (p : Option Addr) (n c : Nat) (w : World) (hn : n < 4) :
    Calls Tryd.prog 91 #[.slice p n c] w fun e w' => e = .returned (.tuple #[.int .i64 0, .int .i64 11]) ∧ w' = w := by
  go_enter Tryd.func91, Tryd.ntmps91
  go_wp2_with fail
  go_ret2
  exact ⟨rfl, rfl⟩

theorem i64_or_nat (a b : Nat) (ha : a < 4611686018427387904) (hb : b < 4611686018427387904) : bits .or .i64 (a : Int) (b : Int) = ((a ||| b : Nat) : Int) := by
  have hx : a ||| b < 2 ^ 62 := Nat.or_lt_two_pow (by omega) (by omega)
  show IntKind.i64.wrap ((BitVec.ofInt 64 (a : Int) ||| BitVec.ofInt 64 (b : Int)).toNat : Int) = _
  rw [BitVec.toNat_or, ofInt_u64 a (by omega), ofInt_u64 b (by omega), IntKind.wrap_i64]
  omega
theorem or_head (x0 x1 : Nat) (h0 : x0 < 256) (h1 : x1 < 256) : bits .or .i64 (x0 : Int) ((x1 : Int) * 256) = ((x0 + 256 * x1 : Nat) : Int) := by
  have e := i64_or_nat x0 (x1 * 256) (by omega) (by omega)
  rw [show ((x1 * 256 : Nat) : Int) = (x1 : Int) * 256 by omega] at e
  rw [e, Nat.or_comm, nat_join 8 (x1 * 256) x0 (by omega) (by omega)]
  omega
theorem _root_.Go.RowKit.Below.of_drew {B : Nat} {w w' : World} (h : Below B w.drew w') : Below B w w' := ⟨h.os, h.tape, h.output, h.size, h.block⟩
theorem heap_new (w : World) (o : Obj) : (w.alloc o).heap[w.heap.size]? = some o := by
  show (w.heap.push o)[w.heap.size]? = _
  simp

set_option maxRecDepth 8000 in
set_option maxHeartbeats 1000000 in
theorem readHead_ok (b o n c x0 x1 x2 x3 m : Nat) (w : World) (hn : 4 ≤ n) (hm : n ≤ 140737488355328)
    (k0 : w.cell? ⟨b, o, none⟩ = some (.int .u8 (x0 : Int))) (k1 : w.cell? ⟨b, o + 1, none⟩ = some (.int .u8 (x1 : Int))) (k2 : w.cell? ⟨b, o + 2, none⟩ = some (.int .u8 (x2 : Int))) (k3 : w.cell? ⟨b, o + 3, none⟩ = some (.int .u8 (x3 : Int)))
    (hx0 : x0 < 256) (hx1 : x1 < 256) (HM : Hid (m = x0 + 256 * x1)) (e2 : ((x2 : Int) == (65535 - (m : Int)) % 256) = true) (e3 : ((x3 : Int) == (65535 - (m : Int)) / 256) = true) (hg : (m : Int) ≤ 32768) :
    Calls Tryd.prog 91 #[.slice (some ⟨b, o, none⟩) n c] w fun e w' => e = .returned (.tuple #[.int .i64 (m : Int), .int .i64 0]) ∧ Below w.heap.size w w' := by
  obtain ⟨i0, hi, hz0, hz1, hz2⟩ := info_parts info5
  obtain ⟨X, HX⟩ : ∃ X : List Value, Hid (X = [.int .u8 (x0 : Int), .int .u8 (x1 : Int), .int .u8 (x2 : Int), .int .u8 (x3 : Int)]) := ⟨_, rfl⟩
  have lX : X.length = 4 := by rw [HX.out]; rfl
  have oX : ∀ u ∈ X, u.oneCell' = true := by rw [HX.out]; intro u hu; simp at hu; rcases hu with rfl | rfl | rfl | rfl <;> rfl
  have N1 : Hid (X.length = Nat.min n 4) := by rw [lX]; exact (Nat.min_eq_right hn).symm
  have F1 : Hid (0 + X.length ≤ [Value.int .u8 0, .int .u8 0, .int .u8 0, .int .u8 0].length) := by rw [lX]; exact Nat.le_refl _
  have FZ : Hid (splice [Value.int .u8 0, .int .u8 0, .int .u8 0, .int .u8 0] 0 X = X) := by rw [HX.out]; rfl
  have hblt : b < w.heap.size := cell_lt k0
  have S1 : Hid (∀ W : World, Below w.heap.size w W → ∀ j u, X[j]? = some u → W.cell? ((⟨b, o, none⟩ : Addr).add j) = some u) := by
    intro W hW j u hj
    rw [Go.WideShapes.add_plain, hW.cell (p := ⟨b, o + j, none⟩) hblt]
    rw [HX.out] at hj
    match j, hj with
    | 0, hj => simp at hj; subst hj; exact k0
    | 1, hj => simp at hj; subst hj; exact k1
    | 2, hj => simp at hj; subst hj; exact k2
    | 3, hj => simp at hj; subst hj; exact k3
    | j + 4, hj => simp at hj
  have HI : Hid ((Tryd.prog.info? 5).map (·.size) = some 1) := by rw [hi]; show some i0.size = _; rw [hz1]
  clear k0 k1 k2 k3
  go_enter Tryd.func91, Tryd.ntmps91
  go_wp2_with (refine wpList_copy_splice rfl (.tmp 9) (.tmp 10) 36 36 rfl 5 Tryd.underlying36 HI.out _ _ _ _ _ _ rfl rfl w.heap.size 0 [Value.int .u8 0, .int .u8 0, .int .u8 0, .int .u8 0] 151 (heap_new _ _) X N1.out (fun _ => ⟨rfl, _, rfl, S1.out _ ((Below.refl _ _).alloc (Nat.le_refl _) _)⟩) F1.out oX w.heap.size w ((Below.refl _ _).alloc (Nat.le_refl _) _) (Nat.le_refl _) ?_)
  intro w1 hg1 hb1
  have hh : w1.heap[w.heap.size]? = some (.cells #[.int .u8 (x0 : Int), .int .u8 (x1 : Int), .int .u8 (x2 : Int), .int .u8 (x3 : Int)] 151 (0, 0)) := by
    have := hg1.out; rw [FZ.out, HX.out] at this; exact this
  have c0 : w1.cell? ⟨w.heap.size, 0, none⟩ = some (.int .u8 (x0 : Int)) := by simp [World.cell?, hh]
  have c1 : w1.cell? ⟨w.heap.size, 1, none⟩ = some (.int .u8 (x1 : Int)) := by simp [World.cell?, hh]
  have c2 : w1.cell? ⟨w.heap.size, 2, none⟩ = some (.int .u8 (x2 : Int)) := by simp [World.cell?, hh]
  have c3 : w1.cell? ⟨w.heap.size, 3, none⟩ = some (.int .u8 (x3 : Int)) := by simp [World.cell?, hh]
  have hlt1 : w.heap.size < w1.heap.size := cell_lt c0
  clear hg1 hh S1 FZ F1 N1 HX lX oX X
  have hor := or_head x0 x1 hx0 hx1
  rw [← HM.out] at hor
  have hml : m ≤ 65535 := by have := HM.out; omega
  have hE := fun W => eqIn4 W x0 x1 x2 x3 ((m : Int) % 256) ((m : Int) / 256) ((65535 - (m : Int)) % 256) ((65535 - (m : Int)) / 256)
  have e0 : ((x0 : Int) == (m : Int) % 256) = true := by have := HM.out; rw [beq_iff_eq]; omega
  have e1 : ((x1 : Int) == (m : Int) / 256) = true := by have := HM.out; rw [beq_iff_eq]; omega
  have hgt := Tryd.eqGuardType151
  go_wp2_with fail
  go_region_with (go_at_call 79; refine (headOf_any m hml _).mono ?_; rintro e w2 ⟨rfl, hb2⟩; have d0 := (hb2.cell (p := ⟨w.heap.size, 0, none⟩) hlt1).trans c0; have d1 := (hb2.cell (p := ⟨w.heap.size, 1, none⟩) hlt1).trans c1; have d2 := (hb2.cell (p := ⟨w.heap.size, 2, none⟩) hlt1).trans c2; have d3 := (hb2.cell (p := ⟨w.heap.size, 3, none⟩) hlt1).trans c3)
  all_goals
    have hbl : Below w.heap.size w w2 := hb1.trans ((Below.mono hb2 (Nat.le_of_lt hlt1)).of_drew)
    clear hE hb2
    go_wp2
    go_ret2
    exact ⟨rfl, hbl⟩

set_option maxRecDepth 8000 in
set_option maxHeartbeats 1000000 in
theorem readHead_far (b o n c x0 x1 x2 x3 m : Nat) (w : World) (hn : 4 ≤ n) (hm : n ≤ 140737488355328)
    (k0 : w.cell? ⟨b, o, none⟩ = some (.int .u8 (x0 : Int))) (k1 : w.cell? ⟨b, o + 1, none⟩ = some (.int .u8 (x1 : Int))) (k2 : w.cell? ⟨b, o + 2, none⟩ = some (.int .u8 (x2 : Int))) (k3 : w.cell? ⟨b, o + 3, none⟩ = some (.int .u8 (x3 : Int)))
    (hx0 : x0 < 256) (hx1 : x1 < 256) (HM : Hid (m = x0 + 256 * x1)) (e2 : ((x2 : Int) == (65535 - (m : Int)) % 256) = true) (e3 : ((x3 : Int) == (65535 - (m : Int)) / 256) = true) (hg : 32768 < (m : Int)) :
    Calls Tryd.prog 91 #[.slice (some ⟨b, o, none⟩) n c] w fun e w' => e = .returned (.tuple #[.int .i64 0, .int .i64 12]) ∧ Below w.heap.size w w' := by
  obtain ⟨i0, hi, hz0, hz1, hz2⟩ := info_parts info5
  obtain ⟨X, HX⟩ : ∃ X : List Value, Hid (X = [.int .u8 (x0 : Int), .int .u8 (x1 : Int), .int .u8 (x2 : Int), .int .u8 (x3 : Int)]) := ⟨_, rfl⟩
  have lX : X.length = 4 := by rw [HX.out]; rfl
  have oX : ∀ u ∈ X, u.oneCell' = true := by rw [HX.out]; intro u hu; simp at hu; rcases hu with rfl | rfl | rfl | rfl <;> rfl
  have N1 : Hid (X.length = Nat.min n 4) := by rw [lX]; exact (Nat.min_eq_right hn).symm
  have F1 : Hid (0 + X.length ≤ [Value.int .u8 0, .int .u8 0, .int .u8 0, .int .u8 0].length) := by rw [lX]; exact Nat.le_refl _
  have FZ : Hid (splice [Value.int .u8 0, .int .u8 0, .int .u8 0, .int .u8 0] 0 X = X) := by rw [HX.out]; rfl
  have hblt : b < w.heap.size := cell_lt k0
  have S1 : Hid (∀ W : World, Below w.heap.size w W → ∀ j u, X[j]? = some u → W.cell? ((⟨b, o, none⟩ : Addr).add j) = some u) := by
    intro W hW j u hj
    rw [Go.WideShapes.add_plain, hW.cell (p := ⟨b, o + j, none⟩) hblt]
    rw [HX.out] at hj
    match j, hj with
    | 0, hj => simp at hj; subst hj; exact k0
    | 1, hj => simp at hj; subst hj; exact k1
    | 2, hj => simp at hj; subst hj; exact k2
    | 3, hj => simp at hj; subst hj; exact k3
    | j + 4, hj => simp at hj
  have HI : Hid ((Tryd.prog.info? 5).map (·.size) = some 1) := by rw [hi]; show some i0.size = _; rw [hz1]
  clear k0 k1 k2 k3
  go_enter Tryd.func91, Tryd.ntmps91
  go_wp2_with (refine wpList_copy_splice rfl (.tmp 9) (.tmp 10) 36 36 rfl 5 Tryd.underlying36 HI.out _ _ _ _ _ _ rfl rfl w.heap.size 0 [Value.int .u8 0, .int .u8 0, .int .u8 0, .int .u8 0] 151 (heap_new _ _) X N1.out (fun _ => ⟨rfl, _, rfl, S1.out _ ((Below.refl _ _).alloc (Nat.le_refl _) _)⟩) F1.out oX w.heap.size w ((Below.refl _ _).alloc (Nat.le_refl _) _) (Nat.le_refl _) ?_)
  intro w1 hg1 hb1
  have hh : w1.heap[w.heap.size]? = some (.cells #[.int .u8 (x0 : Int), .int .u8 (x1 : Int), .int .u8 (x2 : Int), .int .u8 (x3 : Int)] 151 (0, 0)) := by
    have := hg1.out; rw [FZ.out, HX.out] at this; exact this
  have c0 : w1.cell? ⟨w.heap.size, 0, none⟩ = some (.int .u8 (x0 : Int)) := by simp [World.cell?, hh]
  have c1 : w1.cell? ⟨w.heap.size, 1, none⟩ = some (.int .u8 (x1 : Int)) := by simp [World.cell?, hh]
  have c2 : w1.cell? ⟨w.heap.size, 2, none⟩ = some (.int .u8 (x2 : Int)) := by simp [World.cell?, hh]
  have c3 : w1.cell? ⟨w.heap.size, 3, none⟩ = some (.int .u8 (x3 : Int)) := by simp [World.cell?, hh]
  have hlt1 : w.heap.size < w1.heap.size := cell_lt c0
  clear hg1 hh S1 FZ F1 N1 HX lX oX X
  have hor := or_head x0 x1 hx0 hx1
  rw [← HM.out] at hor
  have hml : m ≤ 65535 := by have := HM.out; omega
  have hE := fun W => eqIn4 W x0 x1 x2 x3 ((m : Int) % 256) ((m : Int) / 256) ((65535 - (m : Int)) % 256) ((65535 - (m : Int)) / 256)
  have e0 : ((x0 : Int) == (m : Int) % 256) = true := by have := HM.out; rw [beq_iff_eq]; omega
  have e1 : ((x1 : Int) == (m : Int) / 256) = true := by have := HM.out; rw [beq_iff_eq]; omega
  have hgt := Tryd.eqGuardType151
  go_wp2_with fail
  go_region_with (go_at_call 79; refine (headOf_any m hml _).mono ?_; rintro e w2 ⟨rfl, hb2⟩; have d0 := (hb2.cell (p := ⟨w.heap.size, 0, none⟩) hlt1).trans c0; have d1 := (hb2.cell (p := ⟨w.heap.size, 1, none⟩) hlt1).trans c1; have d2 := (hb2.cell (p := ⟨w.heap.size, 2, none⟩) hlt1).trans c2; have d3 := (hb2.cell (p := ⟨w.heap.size, 3, none⟩) hlt1).trans c3)
  all_goals
    have hbl : Below w.heap.size w w2 := hb1.trans ((Below.mono hb2 (Nat.le_of_lt hlt1)).of_drew)
    clear hE hb2
    go_wp2
    go_ret2
    exact ⟨rfl, hbl⟩

end Go.Proofs.YtgnamngnmbaeeaaDoor

namespace Go.Proofs.YtgnamngnmbaeeaaDoor
open Go.RowKit
set_option maxRecDepth 8000

set_option maxHeartbeats 1000000 in
theorem readHead_n2 (b o n c x0 x1 x2 x3 m : Nat) (w : World) (hn : 4 ≤ n) (hm : n ≤ 140737488355328)
    (k0 : w.cell? ⟨b, o, none⟩ = some (.int .u8 (x0 : Int))) (k1 : w.cell? ⟨b, o + 1, none⟩ = some (.int .u8 (x1 : Int))) (k2 : w.cell? ⟨b, o + 2, none⟩ = some (.int .u8 (x2 : Int))) (k3 : w.cell? ⟨b, o + 3, none⟩ = some (.int .u8 (x3 : Int)))
    (hx0 : x0 < 256) (hx1 : x1 < 256) (HM : Hid (m = x0 + 256 * x1)) (e2 : ((x2 : Int) == (65535 - (m : Int)) % 256) = false) :
    Calls Tryd.prog 91 #[.slice (some ⟨b, o, none⟩) n c] w fun e w' => e = .returned (.tuple #[.int .i64 0, .int .i64 12]) ∧ Below w.heap.size w w' := by
  obtain ⟨i0, hi, hz0, hz1, hz2⟩ := info_parts info5
  obtain ⟨X, HX⟩ : ∃ X : List Value, Hid (X = [.int .u8 (x0 : Int), .int .u8 (x1 : Int), .int .u8 (x2 : Int), .int .u8 (x3 : Int)]) := ⟨_, rfl⟩
  have lX : X.length = 4 := by rw [HX.out]; rfl
  have oX : ∀ u ∈ X, u.oneCell' = true := by rw [HX.out]; intro u hu; simp at hu; rcases hu with rfl | rfl | rfl | rfl <;> rfl
  have N1 : Hid (X.length = Nat.min n 4) := by rw [lX]; exact (Nat.min_eq_right hn).symm
  have F1 : Hid (0 + X.length ≤ [Value.int .u8 0, .int .u8 0, .int .u8 0, .int .u8 0].length) := by rw [lX]; exact Nat.le_refl _
  have FZ : Hid (splice [Value.int .u8 0, .int .u8 0, .int .u8 0, .int .u8 0] 0 X = X) := by rw [HX.out]; rfl
  have hblt : b < w.heap.size := cell_lt k0
  have S1 : Hid (∀ W : World, Below w.heap.size w W → ∀ j u, X[j]? = some u → W.cell? ((⟨b, o, none⟩ : Addr).add j) = some u) := by
    intro W hW j u hj
    rw [Go.WideShapes.add_plain, hW.cell (p := ⟨b, o + j, none⟩) hblt]
    rw [HX.out] at hj
    match j, hj with
    | 0, hj => simp at hj; subst hj; exact k0
    | 1, hj => simp at hj; subst hj; exact k1
    | 2, hj => simp at hj; subst hj; exact k2
    | 3, hj => simp at hj; subst hj; exact k3
    | j + 4, hj => simp at hj
  have HI : Hid ((Tryd.prog.info? 5).map (·.size) = some 1) := by rw [hi]; show some i0.size = _; rw [hz1]
  clear k0 k1 k2 k3
  go_enter Tryd.func91, Tryd.ntmps91
  go_wp2_with (refine wpList_copy_splice rfl (.tmp 9) (.tmp 10) 36 36 rfl 5 Tryd.underlying36 HI.out _ _ _ _ _ _ rfl rfl w.heap.size 0 [Value.int .u8 0, .int .u8 0, .int .u8 0, .int .u8 0] 151 (heap_new _ _) X N1.out (fun _ => ⟨rfl, _, rfl, S1.out _ ((Below.refl _ _).alloc (Nat.le_refl _) _)⟩) F1.out oX w.heap.size w ((Below.refl _ _).alloc (Nat.le_refl _) _) (Nat.le_refl _) ?_)
  intro w1 hg1 hb1
  have hh : w1.heap[w.heap.size]? = some (.cells #[.int .u8 (x0 : Int), .int .u8 (x1 : Int), .int .u8 (x2 : Int), .int .u8 (x3 : Int)] 151 (0, 0)) := by
    have := hg1.out; rw [FZ.out, HX.out] at this; exact this
  have c0 : w1.cell? ⟨w.heap.size, 0, none⟩ = some (.int .u8 (x0 : Int)) := by simp [World.cell?, hh]
  have c1 : w1.cell? ⟨w.heap.size, 1, none⟩ = some (.int .u8 (x1 : Int)) := by simp [World.cell?, hh]
  have c2 : w1.cell? ⟨w.heap.size, 2, none⟩ = some (.int .u8 (x2 : Int)) := by simp [World.cell?, hh]
  have c3 : w1.cell? ⟨w.heap.size, 3, none⟩ = some (.int .u8 (x3 : Int)) := by simp [World.cell?, hh]
  have hlt1 : w.heap.size < w1.heap.size := cell_lt c0
  clear hg1 hh S1 FZ F1 N1 HX lX oX X
  have hor := or_head x0 x1 hx0 hx1
  rw [← HM.out] at hor
  have hml : m ≤ 65535 := by have := HM.out; omega
  have hE := fun W => eqIn4 W x0 x1 x2 x3 ((m : Int) % 256) ((m : Int) / 256) ((65535 - (m : Int)) % 256) ((65535 - (m : Int)) / 256)
  have e0 : ((x0 : Int) == (m : Int) % 256) = true := by have := HM.out; rw [beq_iff_eq]; omega
  have e1 : ((x1 : Int) == (m : Int) / 256) = true := by have := HM.out; rw [beq_iff_eq]; omega
  have hgt := Tryd.eqGuardType151
  go_wp2_with fail
  first | go_region_with (go_at_call 79; refine (headOf_any m hml _).mono ?_; rintro e w2 ⟨rfl, hb2⟩; have d0 := (hb2.cell (p := ⟨w.heap.size, 0, none⟩) hlt1).trans c0; have d1 := (hb2.cell (p := ⟨w.heap.size, 1, none⟩) hlt1).trans c1; have d2 := (hb2.cell (p := ⟨w.heap.size, 2, none⟩) hlt1).trans c2; have d3 := (hb2.cell (p := ⟨w.heap.size, 3, none⟩) hlt1).trans c3) | fail
  all_goals
    have hbl : Below w.heap.size w w2 := hb1.trans ((Below.mono hb2 (Nat.le_of_lt hlt1)).of_drew)
    clear hE hb2
    go_wp2
    go_ret2
    exact ⟨rfl, hbl⟩

set_option maxHeartbeats 1000000 in
theorem readHead_n3 (b o n c x0 x1 x2 x3 m : Nat) (w : World) (hn : 4 ≤ n) (hm : n ≤ 140737488355328)
    (k0 : w.cell? ⟨b, o, none⟩ = some (.int .u8 (x0 : Int))) (k1 : w.cell? ⟨b, o + 1, none⟩ = some (.int .u8 (x1 : Int))) (k2 : w.cell? ⟨b, o + 2, none⟩ = some (.int .u8 (x2 : Int))) (k3 : w.cell? ⟨b, o + 3, none⟩ = some (.int .u8 (x3 : Int)))
    (hx0 : x0 < 256) (hx1 : x1 < 256) (HM : Hid (m = x0 + 256 * x1)) (e2 : ((x2 : Int) == (65535 - (m : Int)) % 256) = true) (e3 : ((x3 : Int) == (65535 - (m : Int)) / 256) = false) :
    Calls Tryd.prog 91 #[.slice (some ⟨b, o, none⟩) n c] w fun e w' => e = .returned (.tuple #[.int .i64 0, .int .i64 12]) ∧ Below w.heap.size w w' := by
  obtain ⟨i0, hi, hz0, hz1, hz2⟩ := info_parts info5
  obtain ⟨X, HX⟩ : ∃ X : List Value, Hid (X = [.int .u8 (x0 : Int), .int .u8 (x1 : Int), .int .u8 (x2 : Int), .int .u8 (x3 : Int)]) := ⟨_, rfl⟩
  have lX : X.length = 4 := by rw [HX.out]; rfl
  have oX : ∀ u ∈ X, u.oneCell' = true := by rw [HX.out]; intro u hu; simp at hu; rcases hu with rfl | rfl | rfl | rfl <;> rfl
  have N1 : Hid (X.length = Nat.min n 4) := by rw [lX]; exact (Nat.min_eq_right hn).symm
  have F1 : Hid (0 + X.length ≤ [Value.int .u8 0, .int .u8 0, .int .u8 0, .int .u8 0].length) := by rw [lX]; exact Nat.le_refl _
  have FZ : Hid (splice [Value.int .u8 0, .int .u8 0, .int .u8 0, .int .u8 0] 0 X = X) := by rw [HX.out]; rfl
  have hblt : b < w.heap.size := cell_lt k0
  have S1 : Hid (∀ W : World, Below w.heap.size w W → ∀ j u, X[j]? = some u → W.cell? ((⟨b, o, none⟩ : Addr).add j) = some u) := by
    intro W hW j u hj
    rw [Go.WideShapes.add_plain, hW.cell (p := ⟨b, o + j, none⟩) hblt]
    rw [HX.out] at hj
    match j, hj with
    | 0, hj => simp at hj; subst hj; exact k0
    | 1, hj => simp at hj; subst hj; exact k1
    | 2, hj => simp at hj; subst hj; exact k2
    | 3, hj => simp at hj; subst hj; exact k3
    | j + 4, hj => simp at hj
  have HI : Hid ((Tryd.prog.info? 5).map (·.size) = some 1) := by rw [hi]; show some i0.size = _; rw [hz1]
  clear k0 k1 k2 k3
  go_enter Tryd.func91, Tryd.ntmps91
  go_wp2_with (refine wpList_copy_splice rfl (.tmp 9) (.tmp 10) 36 36 rfl 5 Tryd.underlying36 HI.out _ _ _ _ _ _ rfl rfl w.heap.size 0 [Value.int .u8 0, .int .u8 0, .int .u8 0, .int .u8 0] 151 (heap_new _ _) X N1.out (fun _ => ⟨rfl, _, rfl, S1.out _ ((Below.refl _ _).alloc (Nat.le_refl _) _)⟩) F1.out oX w.heap.size w ((Below.refl _ _).alloc (Nat.le_refl _) _) (Nat.le_refl _) ?_)
  intro w1 hg1 hb1
  have hh : w1.heap[w.heap.size]? = some (.cells #[.int .u8 (x0 : Int), .int .u8 (x1 : Int), .int .u8 (x2 : Int), .int .u8 (x3 : Int)] 151 (0, 0)) := by
    have := hg1.out; rw [FZ.out, HX.out] at this; exact this
  have c0 : w1.cell? ⟨w.heap.size, 0, none⟩ = some (.int .u8 (x0 : Int)) := by simp [World.cell?, hh]
  have c1 : w1.cell? ⟨w.heap.size, 1, none⟩ = some (.int .u8 (x1 : Int)) := by simp [World.cell?, hh]
  have c2 : w1.cell? ⟨w.heap.size, 2, none⟩ = some (.int .u8 (x2 : Int)) := by simp [World.cell?, hh]
  have c3 : w1.cell? ⟨w.heap.size, 3, none⟩ = some (.int .u8 (x3 : Int)) := by simp [World.cell?, hh]
  have hlt1 : w.heap.size < w1.heap.size := cell_lt c0
  clear hg1 hh S1 FZ F1 N1 HX lX oX X
  have hor := or_head x0 x1 hx0 hx1
  rw [← HM.out] at hor
  have hml : m ≤ 65535 := by have := HM.out; omega
  have hE := fun W => eqIn4 W x0 x1 x2 x3 ((m : Int) % 256) ((m : Int) / 256) ((65535 - (m : Int)) % 256) ((65535 - (m : Int)) / 256)
  have e0 : ((x0 : Int) == (m : Int) % 256) = true := by have := HM.out; rw [beq_iff_eq]; omega
  have e1 : ((x1 : Int) == (m : Int) / 256) = true := by have := HM.out; rw [beq_iff_eq]; omega
  have hgt := Tryd.eqGuardType151
  go_wp2_with fail
  first | go_region_with (go_at_call 79; refine (headOf_any m hml _).mono ?_; rintro e w2 ⟨rfl, hb2⟩; have d0 := (hb2.cell (p := ⟨w.heap.size, 0, none⟩) hlt1).trans c0; have d1 := (hb2.cell (p := ⟨w.heap.size, 1, none⟩) hlt1).trans c1; have d2 := (hb2.cell (p := ⟨w.heap.size, 2, none⟩) hlt1).trans c2; have d3 := (hb2.cell (p := ⟨w.heap.size, 3, none⟩) hlt1).trans c3) | fail
  all_goals
    have hbl : Below w.heap.size w w2 := hb1.trans ((Below.mono hb2 (Nat.le_of_lt hlt1)).of_drew)
    clear hE hb2
    go_wp2
    go_ret2
    exact ⟨rfl, hbl⟩

end Go.Proofs.YtgnamngnmbaeeaaDoor
