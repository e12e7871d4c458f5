import Derived.Test.YtieknmpdmdbdlaaGreatDoorEyA
import Derived.Test.YtieknmpdmdbdlaaGreatDoorEyM
namespace Go.Proofs.YtieknmpdmdbdlaaGreatDoor
open Go.RowKit
set_option maxRecDepth 8000

/-- what a text comes to at two ints -/
def Rk (s : ByteArray) (a b k i : Int) : Prop := ∀ w, Calls Tryz.prog 5 #[.string s, iv 1 a, iv 1 b] w fun e w' => Below w.heap.size w w' ∧ e = .returned (.tuple #[iv k i, .bool true])
theorem rk_over_zero (a : Int) (ha : I64 a) : Rk overT a 0 0 0 := fun w => reckons_any overT a 0 0 0 w (fun w => over_eval a 0 0 false ha ⟨by decide, by decide⟩ (fun w => quo_zero a w) w)
theorem rk_rest_zero (a : Int) (ha : I64 a) : Rk restT a 0 0 0 := fun w => reckons_any restT a 0 0 0 w (fun w => rest_eval a 0 0 false ha ⟨by decide, by decide⟩ (fun w => rem_zero a w) w)
theorem rk_over_opp : Rk overT (-9223372036854775808) (-1) 0 0 := fun w => reckons_any overT _ _ 0 0 w (fun w => over_eval (-9223372036854775808) (-1) 0 false ⟨by decide, by decide⟩ ⟨by decide, by decide⟩ (fun w => quo_opp w) w)
theorem rk_over (a b : Int) (ha : I64 a) (hb : I64 b) (h0 : ¬ b = 0) (ho : ¬ (a = -9223372036854775808 ∧ b = -1)) : Rk overT a b 1 (quoI a b) := fun w => reckons_any overT a b 1 _ w (fun w => over_eval a b (quoI a b) true ha hb (fun w => quo_any a b w h0 ho) w)
theorem rk_rest (a b : Int) (ha : I64 a) (hb : I64 b) (h0 : ¬ b = 0) : Rk restT a b 1 (remI a b) := fun w => reckons_any restT a b 1 _ w (fun w => rest_eval a b (remI a b) true ha hb (fun w => rem_any a b w h0) w)

theorem num_b (n : Int) (w : World) : Calls Tryz.prog 6 #[.int .i64 n] w fun e w' => Below w.heap.size w w' ∧ e = .returned (iv 1 n) :=
  (num_any n w).mono fun _ _ ⟨h, he⟩ => ⟨h ▸ below_al _ _, he⟩

set_option maxHeartbeats 2000000 in
theorem div_exact (a b q m : Int) (w : World) (hQ : Rk overT a b 1 q) (hM : Rk restT a b 1 m) (h0 : ¬ b = 0) (h1 : ¬ b = -1) (hE : (wrap64 (wrap64 (q * b)) != a) = false) (hm : m = 0) (hT : a.tmod b = 0) (hq : (q == wrap64 (a.tdiv b)) = true) : Calls Tryz.prog 3 #[.int .i64 a, .int .i64 b] w fun e w' => e = .returned (.bool true) ∧ Below w.heap.size w w' := by
  have HQ := hid hQ
  have HM := hid hM
  have HN : Hid (∀ n w, Calls Tryz.prog 6 #[.int .i64 n] w fun e w' => Below w.heap.size w w' ∧ e = .returned (iv 1 n)) := num_b
  clear hQ hM
  go_enter Tryz.func3, Tryz.ntmps3
  go_wp2_with fail
  refine (HN.out a w).mono ?_
  rintro e w1 ⟨hb1, rfl⟩
  have B1 := hid hb1
  clear hb1
  go_wp2_with fail
  refine (HN.out b w1).mono ?_
  rintro e w2 ⟨hb2, rfl⟩
  have B2 := hid (B1.out.trans (hb2.mono B1.out.size))
  clear hb2
  go_wp2_with fail
  refine (HQ.out w2).mono ?_
  rintro e w3 ⟨hb3, rfl⟩
  have B3 := hid (B2.out.trans (hb3.mono B2.out.size))
  clear hb3
  rw [show iv 1 q = .agg #[.int .i64 1, .int .i64 q, .string ⟨#[]⟩, .slice none 0 0] from rfl]
  go_wp2_with fail
  have V3 := hid (V4.new w3 1 q)
  have B3' := hid (B3.out.alloc B3.out.size (.cells #[.int .i64 1, .int .i64 q, .string ⟨#[]⟩, .slice none 0 0] 24))
  generalize w3.alloc (.cells #[.int .i64 1, .int .i64 q, .string ⟨#[]⟩, .slice none 0 0] 24) = w4 at *
  generalize w3.heap.size = cq at *
  refine (HN.out a w4).mono ?_
  rintro e w5 ⟨hb5, rfl⟩
  have B5 := hid (B3'.out.trans (hb5.mono B3'.out.size))
  have V5 := hid (V3.out.on hb5)
  clear hb5
  go_wp2_with fail
  refine (HN.out b w5).mono ?_
  rintro e w6 ⟨hb6, rfl⟩
  have B6 := hid (B5.out.trans (hb6.mono B5.out.size))
  have V6 := hid (V5.out.on hb6)
  clear hb6
  go_wp2_with fail
  refine (HM.out w6).mono ?_
  rintro e w7 ⟨hb7, rfl⟩
  have B7 := hid (B6.out.trans (hb7.mono B6.out.size))
  have V7 := hid (V6.out.on hb7)
  clear hb7
  rw [show iv 1 m = .agg #[.int .i64 1, .int .i64 m, .string ⟨#[]⟩, .slice none 0 0] from rfl]
  have y0 := cell_al V7.out.c0
  have y1 := cell_al V7.out.c1
  have y2 := cell_al V7.out.c2
  have y3 := cell_al V7.out.c3
  go_wp2_with fail
  go_big_quiet (fail)
  go_wp2_with fail
  go_ret
  exact ⟨rfl, below_dn (B7.out.alloc B7.out.size _) _⟩

set_option maxHeartbeats 2000000 in
theorem div_one (a b q m : Int) (w : World) (hQ : Rk overT a b 1 q) (hM : Rk restT a b 1 m) (h0 : ¬ b = 0) (h1 : (b == -1) = true) (h2 : (a == -9223372036854775808) = false) (hE : (wrap64 (wrap64 (q * b)) != a) = false) (hm : m = 0) (hT : a.tmod b = 0) (hq : (q == wrap64 (a.tdiv b)) = true) : Calls Tryz.prog 3 #[.int .i64 a, .int .i64 b] w fun e w' => e = .returned (.bool true) ∧ Below w.heap.size w w' := by
  have HQ := hid hQ
  have HM := hid hM
  have HN : Hid (∀ n w, Calls Tryz.prog 6 #[.int .i64 n] w fun e w' => Below w.heap.size w w' ∧ e = .returned (iv 1 n)) := num_b
  clear hQ hM
  go_enter Tryz.func3, Tryz.ntmps3
  go_wp2_with fail
  refine (HN.out a w).mono ?_
  rintro e w1 ⟨hb1, rfl⟩
  have B1 := hid hb1
  clear hb1
  go_wp2_with fail
  refine (HN.out b w1).mono ?_
  rintro e w2 ⟨hb2, rfl⟩
  have B2 := hid (B1.out.trans (hb2.mono B1.out.size))
  clear hb2
  go_wp2_with fail
  refine (HQ.out w2).mono ?_
  rintro e w3 ⟨hb3, rfl⟩
  have B3 := hid (B2.out.trans (hb3.mono B2.out.size))
  clear hb3
  rw [show iv 1 q = .agg #[.int .i64 1, .int .i64 q, .string ⟨#[]⟩, .slice none 0 0] from rfl]
  go_wp2_with fail
  have V3 := hid (V4.new w3 1 q)
  have B3' := hid (B3.out.alloc B3.out.size (.cells #[.int .i64 1, .int .i64 q, .string ⟨#[]⟩, .slice none 0 0] 24))
  generalize w3.alloc (.cells #[.int .i64 1, .int .i64 q, .string ⟨#[]⟩, .slice none 0 0] 24) = w4 at *
  generalize w3.heap.size = cq at *
  refine (HN.out a w4).mono ?_
  rintro e w5 ⟨hb5, rfl⟩
  have B5 := hid (B3'.out.trans (hb5.mono B3'.out.size))
  have V5 := hid (V3.out.on hb5)
  clear hb5
  go_wp2_with fail
  refine (HN.out b w5).mono ?_
  rintro e w6 ⟨hb6, rfl⟩
  have B6 := hid (B5.out.trans (hb6.mono B5.out.size))
  have V6 := hid (V5.out.on hb6)
  clear hb6
  go_wp2_with fail
  refine (HM.out w6).mono ?_
  rintro e w7 ⟨hb7, rfl⟩
  have B7 := hid (B6.out.trans (hb7.mono B6.out.size))
  have V7 := hid (V6.out.on hb7)
  clear hb7
  rw [show iv 1 m = .agg #[.int .i64 1, .int .i64 m, .string ⟨#[]⟩, .slice none 0 0] from rfl]
  have y0 := cell_al V7.out.c0
  have y1 := cell_al V7.out.c1
  have y2 := cell_al V7.out.c2
  have y3 := cell_al V7.out.c3
  go_wp2_with fail
  go_big_quiet (fail)
  go_wp2_with fail
  go_ret
  exact ⟨rfl, below_dn (B7.out.alloc B7.out.size _) _⟩

set_option maxHeartbeats 2000000 in
theorem div_pos1 (a b q m : Int) (w : World) (hQ : Rk overT a b 1 q) (hM : Rk restT a b 1 m) (h0 : ¬ b = 0) (h1 : ¬ b = -1) (hE : (wrap64 (wrap64 (q * b) + m) != a) = false) (hm : ¬ m = 0) (hp : 0 < b) (_hn : ¬ b < 0) (hm1 : ¬ m < 0) (hm2 : ¬ b ≤ m) (hq : (q == wrap64 (a.tdiv b)) = true) : Calls Tryz.prog 3 #[.int .i64 a, .int .i64 b] w fun e w' => e = .returned (.bool true) ∧ Below w.heap.size w w' := by
  have HQ := hid hQ
  have HM := hid hM
  have HN : Hid (∀ n w, Calls Tryz.prog 6 #[.int .i64 n] w fun e w' => Below w.heap.size w w' ∧ e = .returned (iv 1 n)) := num_b
  clear hQ hM
  go_enter Tryz.func3, Tryz.ntmps3
  go_wp2_with fail
  refine (HN.out a w).mono ?_
  rintro e w1 ⟨hb1, rfl⟩
  have B1 := hid hb1
  clear hb1
  go_wp2_with fail
  refine (HN.out b w1).mono ?_
  rintro e w2 ⟨hb2, rfl⟩
  have B2 := hid (B1.out.trans (hb2.mono B1.out.size))
  clear hb2
  go_wp2_with fail
  refine (HQ.out w2).mono ?_
  rintro e w3 ⟨hb3, rfl⟩
  have B3 := hid (B2.out.trans (hb3.mono B2.out.size))
  clear hb3
  rw [show iv 1 q = .agg #[.int .i64 1, .int .i64 q, .string ⟨#[]⟩, .slice none 0 0] from rfl]
  go_wp2_with fail
  have V3 := hid (V4.new w3 1 q)
  have B3' := hid (B3.out.alloc B3.out.size (.cells #[.int .i64 1, .int .i64 q, .string ⟨#[]⟩, .slice none 0 0] 24))
  generalize w3.alloc (.cells #[.int .i64 1, .int .i64 q, .string ⟨#[]⟩, .slice none 0 0] 24) = w4 at *
  generalize w3.heap.size = cq at *
  refine (HN.out a w4).mono ?_
  rintro e w5 ⟨hb5, rfl⟩
  have B5 := hid (B3'.out.trans (hb5.mono B3'.out.size))
  have V5 := hid (V3.out.on hb5)
  clear hb5
  go_wp2_with fail
  refine (HN.out b w5).mono ?_
  rintro e w6 ⟨hb6, rfl⟩
  have B6 := hid (B5.out.trans (hb6.mono B5.out.size))
  have V6 := hid (V5.out.on hb6)
  clear hb6
  go_wp2_with fail
  refine (HM.out w6).mono ?_
  rintro e w7 ⟨hb7, rfl⟩
  have B7 := hid (B6.out.trans (hb7.mono B6.out.size))
  have V7 := hid (V6.out.on hb7)
  clear hb7
  rw [show iv 1 m = .agg #[.int .i64 1, .int .i64 m, .string ⟨#[]⟩, .slice none 0 0] from rfl]
  have y0 := cell_al V7.out.c0
  have y1 := cell_al V7.out.c1
  have y2 := cell_al V7.out.c2
  have y3 := cell_al V7.out.c3
  go_wp2_with fail
  go_big_quiet (fail)
  go_wp2_with fail
  go_ret
  exact ⟨rfl, below_dn (B7.out.alloc B7.out.size _) _⟩

set_option maxHeartbeats 2000000 in
theorem div_pos2 (a b q m : Int) (w : World) (hQ : Rk overT a b 1 q) (hM : Rk restT a b 1 m) (h0 : ¬ b = 0) (h1 : ¬ b = -1) (hE : (wrap64 (wrap64 (q * b) + m) != a) = false) (hm : ¬ m = 0) (hp : 0 < b) (_hn : ¬ b < 0) (hm1 : ¬ m < 0) (hm2 : ¬ b ≤ m) (hq : (q == wrap64 (a.tdiv b)) = false) (hq' : (q == wrap64 (wrap64 (a.tdiv b) - 1)) = true) : Calls Tryz.prog 3 #[.int .i64 a, .int .i64 b] w fun e w' => e = .returned (.bool true) ∧ Below w.heap.size w w' := by
  have HQ := hid hQ
  have HM := hid hM
  have HN : Hid (∀ n w, Calls Tryz.prog 6 #[.int .i64 n] w fun e w' => Below w.heap.size w w' ∧ e = .returned (iv 1 n)) := num_b
  clear hQ hM
  go_enter Tryz.func3, Tryz.ntmps3
  go_wp2_with fail
  refine (HN.out a w).mono ?_
  rintro e w1 ⟨hb1, rfl⟩
  have B1 := hid hb1
  clear hb1
  go_wp2_with fail
  refine (HN.out b w1).mono ?_
  rintro e w2 ⟨hb2, rfl⟩
  have B2 := hid (B1.out.trans (hb2.mono B1.out.size))
  clear hb2
  go_wp2_with fail
  refine (HQ.out w2).mono ?_
  rintro e w3 ⟨hb3, rfl⟩
  have B3 := hid (B2.out.trans (hb3.mono B2.out.size))
  clear hb3
  rw [show iv 1 q = .agg #[.int .i64 1, .int .i64 q, .string ⟨#[]⟩, .slice none 0 0] from rfl]
  go_wp2_with fail
  have V3 := hid (V4.new w3 1 q)
  have B3' := hid (B3.out.alloc B3.out.size (.cells #[.int .i64 1, .int .i64 q, .string ⟨#[]⟩, .slice none 0 0] 24))
  generalize w3.alloc (.cells #[.int .i64 1, .int .i64 q, .string ⟨#[]⟩, .slice none 0 0] 24) = w4 at *
  generalize w3.heap.size = cq at *
  refine (HN.out a w4).mono ?_
  rintro e w5 ⟨hb5, rfl⟩
  have B5 := hid (B3'.out.trans (hb5.mono B3'.out.size))
  have V5 := hid (V3.out.on hb5)
  clear hb5
  go_wp2_with fail
  refine (HN.out b w5).mono ?_
  rintro e w6 ⟨hb6, rfl⟩
  have B6 := hid (B5.out.trans (hb6.mono B5.out.size))
  have V6 := hid (V5.out.on hb6)
  clear hb6
  go_wp2_with fail
  refine (HM.out w6).mono ?_
  rintro e w7 ⟨hb7, rfl⟩
  have B7 := hid (B6.out.trans (hb7.mono B6.out.size))
  have V7 := hid (V6.out.on hb7)
  clear hb7
  rw [show iv 1 m = .agg #[.int .i64 1, .int .i64 m, .string ⟨#[]⟩, .slice none 0 0] from rfl]
  have y0 := cell_al V7.out.c0
  have y1 := cell_al V7.out.c1
  have y2 := cell_al V7.out.c2
  have y3 := cell_al V7.out.c3
  go_wp2_with fail
  go_big_quiet (fail)
  go_wp2_with fail
  go_ret
  exact ⟨rfl, below_dn (B7.out.alloc B7.out.size _) _⟩

set_option maxHeartbeats 2000000 in
theorem div_neg1 (a b q m : Int) (w : World) (hQ : Rk overT a b 1 q) (hM : Rk restT a b 1 m) (h0 : ¬ b = 0) (h1 : ¬ b = -1) (hE : (wrap64 (wrap64 (q * b) + m) != a) = false) (hm : ¬ m = 0) (_hp : ¬ 0 < b) (hn : b < 0) (hm1 : ¬ 0 < m) (hm2 : ¬ m ≤ b) (hq : (q == wrap64 (a.tdiv b)) = true) : Calls Tryz.prog 3 #[.int .i64 a, .int .i64 b] w fun e w' => e = .returned (.bool true) ∧ Below w.heap.size w w' := by
  have HQ := hid hQ
  have HM := hid hM
  have HN : Hid (∀ n w, Calls Tryz.prog 6 #[.int .i64 n] w fun e w' => Below w.heap.size w w' ∧ e = .returned (iv 1 n)) := num_b
  clear hQ hM
  go_enter Tryz.func3, Tryz.ntmps3
  go_wp2_with fail
  refine (HN.out a w).mono ?_
  rintro e w1 ⟨hb1, rfl⟩
  have B1 := hid hb1
  clear hb1
  go_wp2_with fail
  refine (HN.out b w1).mono ?_
  rintro e w2 ⟨hb2, rfl⟩
  have B2 := hid (B1.out.trans (hb2.mono B1.out.size))
  clear hb2
  go_wp2_with fail
  refine (HQ.out w2).mono ?_
  rintro e w3 ⟨hb3, rfl⟩
  have B3 := hid (B2.out.trans (hb3.mono B2.out.size))
  clear hb3
  rw [show iv 1 q = .agg #[.int .i64 1, .int .i64 q, .string ⟨#[]⟩, .slice none 0 0] from rfl]
  go_wp2_with fail
  have V3 := hid (V4.new w3 1 q)
  have B3' := hid (B3.out.alloc B3.out.size (.cells #[.int .i64 1, .int .i64 q, .string ⟨#[]⟩, .slice none 0 0] 24))
  generalize w3.alloc (.cells #[.int .i64 1, .int .i64 q, .string ⟨#[]⟩, .slice none 0 0] 24) = w4 at *
  generalize w3.heap.size = cq at *
  refine (HN.out a w4).mono ?_
  rintro e w5 ⟨hb5, rfl⟩
  have B5 := hid (B3'.out.trans (hb5.mono B3'.out.size))
  have V5 := hid (V3.out.on hb5)
  clear hb5
  go_wp2_with fail
  refine (HN.out b w5).mono ?_
  rintro e w6 ⟨hb6, rfl⟩
  have B6 := hid (B5.out.trans (hb6.mono B5.out.size))
  have V6 := hid (V5.out.on hb6)
  clear hb6
  go_wp2_with fail
  refine (HM.out w6).mono ?_
  rintro e w7 ⟨hb7, rfl⟩
  have B7 := hid (B6.out.trans (hb7.mono B6.out.size))
  have V7 := hid (V6.out.on hb7)
  clear hb7
  rw [show iv 1 m = .agg #[.int .i64 1, .int .i64 m, .string ⟨#[]⟩, .slice none 0 0] from rfl]
  have y0 := cell_al V7.out.c0
  have y1 := cell_al V7.out.c1
  have y2 := cell_al V7.out.c2
  have y3 := cell_al V7.out.c3
  go_wp2_with fail
  go_big_quiet (fail)
  go_wp2_with fail
  go_ret
  exact ⟨rfl, below_dn (B7.out.alloc B7.out.size _) _⟩

set_option maxHeartbeats 2000000 in
theorem div_neg2 (a b q m : Int) (w : World) (hQ : Rk overT a b 1 q) (hM : Rk restT a b 1 m) (h0 : ¬ b = 0) (h1 : ¬ b = -1) (hE : (wrap64 (wrap64 (q * b) + m) != a) = false) (hm : ¬ m = 0) (_hp : ¬ 0 < b) (hn : b < 0) (hm1 : ¬ 0 < m) (hm2 : ¬ m ≤ b) (hq : (q == wrap64 (a.tdiv b)) = false) (hq' : (q == wrap64 (wrap64 (a.tdiv b) - 1)) = true) : Calls Tryz.prog 3 #[.int .i64 a, .int .i64 b] w fun e w' => e = .returned (.bool true) ∧ Below w.heap.size w w' := by
  have HQ := hid hQ
  have HM := hid hM
  have HN : Hid (∀ n w, Calls Tryz.prog 6 #[.int .i64 n] w fun e w' => Below w.heap.size w w' ∧ e = .returned (iv 1 n)) := num_b
  clear hQ hM
  go_enter Tryz.func3, Tryz.ntmps3
  go_wp2_with fail
  refine (HN.out a w).mono ?_
  rintro e w1 ⟨hb1, rfl⟩
  have B1 := hid hb1
  clear hb1
  go_wp2_with fail
  refine (HN.out b w1).mono ?_
  rintro e w2 ⟨hb2, rfl⟩
  have B2 := hid (B1.out.trans (hb2.mono B1.out.size))
  clear hb2
  go_wp2_with fail
  refine (HQ.out w2).mono ?_
  rintro e w3 ⟨hb3, rfl⟩
  have B3 := hid (B2.out.trans (hb3.mono B2.out.size))
  clear hb3
  rw [show iv 1 q = .agg #[.int .i64 1, .int .i64 q, .string ⟨#[]⟩, .slice none 0 0] from rfl]
  go_wp2_with fail
  have V3 := hid (V4.new w3 1 q)
  have B3' := hid (B3.out.alloc B3.out.size (.cells #[.int .i64 1, .int .i64 q, .string ⟨#[]⟩, .slice none 0 0] 24))
  generalize w3.alloc (.cells #[.int .i64 1, .int .i64 q, .string ⟨#[]⟩, .slice none 0 0] 24) = w4 at *
  generalize w3.heap.size = cq at *
  refine (HN.out a w4).mono ?_
  rintro e w5 ⟨hb5, rfl⟩
  have B5 := hid (B3'.out.trans (hb5.mono B3'.out.size))
  have V5 := hid (V3.out.on hb5)
  clear hb5
  go_wp2_with fail
  refine (HN.out b w5).mono ?_
  rintro e w6 ⟨hb6, rfl⟩
  have B6 := hid (B5.out.trans (hb6.mono B5.out.size))
  have V6 := hid (V5.out.on hb6)
  clear hb6
  go_wp2_with fail
  refine (HM.out w6).mono ?_
  rintro e w7 ⟨hb7, rfl⟩
  have B7 := hid (B6.out.trans (hb7.mono B6.out.size))
  have V7 := hid (V6.out.on hb7)
  clear hb7
  rw [show iv 1 m = .agg #[.int .i64 1, .int .i64 m, .string ⟨#[]⟩, .slice none 0 0] from rfl]
  have y0 := cell_al V7.out.c0
  have y1 := cell_al V7.out.c1
  have y2 := cell_al V7.out.c2
  have y3 := cell_al V7.out.c3
  go_wp2_with fail
  go_big_quiet (fail)
  go_wp2_with fail
  go_ret
  exact ⟨rfl, below_dn (B7.out.alloc B7.out.size _) _⟩

end Go.Proofs.YtieknmpdmdbdlaaGreatDoor
