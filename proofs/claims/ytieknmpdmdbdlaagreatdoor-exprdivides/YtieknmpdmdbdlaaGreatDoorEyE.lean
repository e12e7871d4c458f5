import Derived.Test.YtieknmpdmdbdlaaGreatDoorEyD
import Derived.Test.YtieknmpdmdbdlaaGreatDoorStepY
import Derived.Deep.RegionLaw
namespace Go.Proofs.YtieknmpdmdbdlaaGreatDoor
open Go.RowKit
set_option maxRecDepth 8000

set_option maxHeartbeats 2000000 in
theorem div_opp (a b m : Int) (w : World) (hQ : Rk overT a b 0 0) (hM : Rk restT a b 1 m) (_h0 : ¬ b = 0) (h1 : (b == -1) = true) (h2 : (a == -9223372036854775808) = true) (hm : m = 0) : Calls Tryz.prog 3 #[.int .i64 a, .int .i64 b] w fun e w' => e = .returned (.bool true) ∧ Below w.heap.size w w' := by
  have HS := hid same_iv
  have HQ := hid hQ
  have HM := hid hM
  have HN : Hid (∀ n w, Calls Tryz.prog 6 #[.int .i64 n] w fun e w' => Below w.heap.size w w' ∧ e = .returned (iv 1 n)) := num_b
  clear hQ hM
  go_enter Tryz.func3, Tryz.ntmps3
  go_wp2_with fail
  refine (HN.out a w).mono ?_
  rintro e w1 ⟨hb1, rfl⟩
  have B1 := hid hb1
  clear hb1
  go_wp2_with fail
  refine (HN.out b w1).mono ?_
  rintro e w2 ⟨hb2, rfl⟩
  have B2 := hid (B1.out.trans (hb2.mono B1.out.size))
  clear hb2
  go_wp2_with fail
  refine (HQ.out w2).mono ?_
  rintro e w3 ⟨hb3, rfl⟩
  have B3 := hid (B2.out.trans (hb3.mono B2.out.size))
  clear hb3
  rw [show iv 0 0 = .agg #[.int .i64 0, .int .i64 0, .string ⟨#[]⟩, .slice none 0 0] from rfl]
  go_wp2_with fail
  have V3 := hid (V4.new w3 0 0)
  have B3' := hid (B3.out.alloc B3.out.size (.cells #[.int .i64 0, .int .i64 0, .string ⟨#[]⟩, .slice none 0 0] 24))
  generalize w3.alloc (.cells #[.int .i64 0, .int .i64 0, .string ⟨#[]⟩, .slice none 0 0] 24) = w4 at *
  generalize w3.heap.size = cq at *
  refine (HN.out a w4).mono ?_
  rintro e w5 ⟨hb5, rfl⟩
  have B5 := hid (B3'.out.trans (hb5.mono B3'.out.size))
  have V5 := hid (V3.out.on hb5)
  clear hb5
  go_wp2_with fail
  refine (HN.out b w5).mono ?_
  rintro e w6 ⟨hb6, rfl⟩
  have B6 := hid (B5.out.trans (hb6.mono B5.out.size))
  have V6 := hid (V5.out.on hb6)
  clear hb6
  go_wp2_with fail
  refine (HM.out w6).mono ?_
  rintro e w7 ⟨hb7, rfl⟩
  have B7 := hid (B6.out.trans (hb7.mono B6.out.size))
  have V7 := hid (V6.out.on hb7)
  clear hb7
  rw [show iv 1 m = .agg #[.int .i64 1, .int .i64 m, .string ⟨#[]⟩, .slice none 0 0] from rfl]
  have y0 := cell_al V7.out.c0
  have y1 := cell_al V7.out.c1
  have y2 := cell_al V7.out.c2
  have y3 := cell_al V7.out.c3
  go_wp2_with fail
  have VM := hid (V4.new w7 1 0)
  have B8 := hid (B7.out.alloc B7.out.size (.cells #[.int .i64 1, .int .i64 0, .string ⟨#[]⟩, .slice none 0 0] 24))
  generalize w7.alloc (.cells #[.int .i64 1, .int .i64 0, .string ⟨#[]⟩, .slice none 0 0] 24) = w8 at *
  refine (HS.out 0 0 0 0 w8).mono ?_
  rintro e w9 ⟨hb9, rfl⟩
  obtain ⟨m0, m1, m2, m3, _⟩ := VM.out.on hb9
  have B9 := hid (B8.out.trans (hb9.mono B8.out.size))
  clear hb9
  rw [show decide ((0 : Int) = 0 ∧ (0 : Int) = 0) = true from rfl]
  go_wp2_with fail
  go_ret
  exact ⟨rfl, B9.out⟩

set_option maxHeartbeats 2000000 in
theorem div_zero (a : Int) (w : World) (hQ : Rk overT a 0 0 0) (hM : Rk restT a 0 0 0) (h7 : Rk overT (-7) 2 1 (-4)) : Calls Tryz.prog 3 #[.int .i64 a, .int .i64 0] w fun e w' => e = .returned (.bool true) ∧ Below w.heap.size w w' := by
  have HS := hid same_iv
  have H7 := hid h7
  clear h7
  have HQ := hid hQ
  have HM := hid hM
  have HN : Hid (∀ n w, Calls Tryz.prog 6 #[.int .i64 n] w fun e w' => Below w.heap.size w w' ∧ e = .returned (iv 1 n)) := num_b
  clear hQ hM
  go_enter Tryz.func3, Tryz.ntmps3
  go_wp2_with fail
  refine (HN.out a w).mono ?_
  rintro e w1 ⟨hb1, rfl⟩
  have B1 := hid hb1
  clear hb1
  go_wp2_with fail
  refine (HN.out 0 w1).mono ?_
  rintro e w2 ⟨hb2, rfl⟩
  have B2 := hid (B1.out.trans (hb2.mono B1.out.size))
  clear hb2
  go_wp2_with fail
  refine (HQ.out w2).mono ?_
  rintro e w3 ⟨hb3, rfl⟩
  have B3 := hid (B2.out.trans (hb3.mono B2.out.size))
  clear hb3
  rw [show iv 0 0 = .agg #[.int .i64 0, .int .i64 0, .string ⟨#[]⟩, .slice none 0 0] from rfl]
  go_wp2_with fail
  have V3 := hid (V4.new w3 0 0)
  have B3' := hid (B3.out.alloc B3.out.size (.cells #[.int .i64 0, .int .i64 0, .string ⟨#[]⟩, .slice none 0 0] 24))
  generalize w3.alloc (.cells #[.int .i64 0, .int .i64 0, .string ⟨#[]⟩, .slice none 0 0] 24) = w4 at *
  generalize w3.heap.size = cq at *
  refine (HN.out a w4).mono ?_
  rintro e w5 ⟨hb5, rfl⟩
  have B5 := hid (B3'.out.trans (hb5.mono B3'.out.size))
  have V5 := hid (V3.out.on hb5)
  clear hb5
  go_wp2_with fail
  refine (HN.out 0 w5).mono ?_
  rintro e w6 ⟨hb6, rfl⟩
  have B6 := hid (B5.out.trans (hb6.mono B5.out.size))
  have V6 := hid (V5.out.on hb6)
  clear hb6
  go_wp2_with fail
  refine (HM.out w6).mono ?_
  rintro e w7 ⟨hb7, rfl⟩
  have B7 := hid (B6.out.trans (hb7.mono B6.out.size))
  have V7 := hid (V6.out.on hb7)
  clear hb7
  rw [show iv 0 0 = .agg #[.int .i64 0, .int .i64 0, .string ⟨#[]⟩, .slice none 0 0] from rfl]
  have y0 := cell_al V7.out.c0
  have y1 := cell_al V7.out.c1
  have y2 := cell_al V7.out.c2
  have y3 := cell_al V7.out.c3
  go_wp2_with fail
  have VM := hid (V4.new w7 0 0)
  have VQ := hid (V7.out.on (below_al w7 (.cells #[.int .i64 0, .int .i64 0, .string ⟨#[]⟩, .slice none 0 0] 24)))
  have B8 := hid (B7.out.alloc B7.out.size (.cells #[.int .i64 0, .int .i64 0, .string ⟨#[]⟩, .slice none 0 0] 24))
  clear y0 y1 y2 y3
  generalize w7.alloc (.cells #[.int .i64 0, .int .i64 0, .string ⟨#[]⟩, .slice none 0 0] 24) = w8 at *
  generalize w7.heap.size = cm at *
  refine (HN.out (-7) w8).mono ?_
  rintro e w9 ⟨hb9, rfl⟩
  have B9 := hid (B8.out.trans (hb9.mono B8.out.size))
  have VM9 := hid (VM.out.on hb9)
  have VQ9 := hid (VQ.out.on hb9)
  clear hb9
  go_wp2_with fail
  refine (HN.out 2 w9).mono ?_
  rintro e w10 ⟨hb10, rfl⟩
  have B10 := hid (B9.out.trans (hb10.mono B9.out.size))
  have VM10 := hid (VM9.out.on hb10)
  have VQ10 := hid (VQ9.out.on hb10)
  clear hb10
  go_wp2_with fail
  refine (H7.out w10).mono ?_
  rintro e w11 ⟨hb11, rfl⟩
  have B11 := hid (B10.out.trans (hb11.mono B10.out.size))
  have VM11 := hid (VM10.out.on hb11)
  have VQ11 := hid (VQ10.out.on hb11)
  clear hb11
  rw [show iv 1 (-4) = .agg #[.int .i64 1, .int .i64 (-4), .string ⟨#[]⟩, .slice none 0 0] from rfl]
  go_wp2_with fail
  have V7s := hid (V4.new w11 1 (-4))
  have VM12 := hid (VM11.out.on (below_al w11 (.cells #[.int .i64 1, .int .i64 (-4), .string ⟨#[]⟩, .slice none 0 0] 24)))
  have VQ12 := hid (VQ11.out.on (below_al w11 (.cells #[.int .i64 1, .int .i64 (-4), .string ⟨#[]⟩, .slice none 0 0] 24)))
  have B12 := hid (B11.out.alloc B11.out.size (.cells #[.int .i64 1, .int .i64 (-4), .string ⟨#[]⟩, .slice none 0 0] 24))
  generalize w11.alloc (.cells #[.int .i64 1, .int .i64 (-4), .string ⟨#[]⟩, .slice none 0 0] 24) = w12 at *
  generalize w11.heap.size = cs at *
  obtain ⟨s0, s1, s2, s3, _⟩ := V7s.out
  go_region_law (first
                 | (refine step_callG (by first | rfl | simp [Region.wanted, yielded, Act.put]) 6 #[.const (.int .i64 (-4))] _ rfl Tryz.f6 Tryz.func6 (by kernel_rfl) rfl #[.int .i64 (-4)] rfl _ (HN.out (-4) _) ?_
                    rintro e w13 ⟨hbw13, rfl⟩
                    refine ⟨_, rfl, ?_⟩
                    have hcw13 : Below w12.heap.size w12 w13 := ⟨hbw13.os, hbw13.tape, hbw13.output, hbw13.size, hbw13.block⟩
                    obtain ⟨p0, p1, p2, p3, _⟩ := V7s.out.on hcw13)
                 | (refine step_callG (by first | rfl | simp [Region.wanted, yielded, Act.put]) 7 #[.tmp 44, .tmp 45] _ rfl Tryz.f7 Tryz.func7 (by kernel_rfl) rfl #[iv 1 (-4), iv 1 (-4)] rfl _ (HS.out 1 (-4) 1 (-4) _) ?_
                    rintro e w14 ⟨hbw14, rfl⟩
                    refine ⟨_, rfl, ?_⟩
                    have hcw14 : Below w12.heap.size w12 w14 := hcw13.trans ((⟨hbw14.os, hbw14.tape, hbw14.output, hbw14.size, hbw14.block⟩ : Below w13.heap.size w13 w14).mono hcw13.size)
                    obtain ⟨g0, g1, g2, g3, _⟩ := VQ12.out.on hcw14
                    rw [show decide ((1 : Int) = 1 ∧ (-4 : Int) = -4) = true from rfl])
                 | (refine step_callG (by first | rfl | simp [Region.wanted, yielded, Act.put]) 7 #[.tmp 49, .tmp 50] _ rfl Tryz.f7 Tryz.func7 (by kernel_rfl) rfl #[iv 0 0, iv 0 0] rfl _ (HS.out 0 0 0 0 _) ?_
                    rintro e w15 ⟨hbw15, rfl⟩
                    refine ⟨_, rfl, ?_⟩
                    have hcw15 : Below w12.heap.size w12 w15 := hcw14.trans ((⟨hbw15.os, hbw15.tape, hbw15.output, hbw15.size, hbw15.block⟩ : Below w14.heap.size w14 w15).mono hcw14.size)
                    obtain ⟨k0, k1, k2, k3, _⟩ := VM12.out.on hcw15
                    rw [show decide ((0 : Int) = 0 ∧ (0 : Int) = 0) = true from rfl])
                 | (refine step_callG (by first | rfl | simp [Region.wanted, yielded, Act.put]) 7 #[.tmp 54, .tmp 55] _ rfl Tryz.f7 Tryz.func7 (by kernel_rfl) rfl #[iv 0 0, iv 0 0] rfl _ (HS.out 0 0 0 0 _) ?_
                    rintro e w16 ⟨hbw16, rfl⟩
                    refine ⟨_, rfl, ?_⟩
                    have hcw16 : Below w12.heap.size w12 w16 := hcw15.trans ((⟨hbw16.os, hbw16.tape, hbw16.output, hbw16.size, hbw16.block⟩ : Below w15.heap.size w15 w16).mono hcw15.size)
                    rw [show decide ((0 : Int) = 0 ∧ (0 : Int) = 0) = true from rfl]))
  all_goals
    go_wp2_with fail
    go_ret
    exact ⟨rfl, B12.out.trans (hcw16.mono B12.out.size)⟩
end Go.Proofs.YtieknmpdmdbdlaaGreatDoor
