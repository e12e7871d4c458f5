import Derived.Test.YtieknmpdmdbdlaaGreatDoorExY
import Derived.Deep.RegionLaw
namespace Go.Proofs.YtieknmpdmdbdlaaGreatDoor
open Go.RowKit
set_option maxRecDepth 8000

theorem num_any (n : Int) (w : World) : Calls Tryz.prog 6 #[.int .i64 n] w fun e w' => w' = w.alloc (.cells #[.int .i64 1, .int .i64 n, .string ⟨#[]⟩, .slice none 0 0] 24) ∧ e = .returned (iv 1 n) := by
  go_enter Tryz.func6, Tryz.ntmps6
  go_wp2
  exact bodyPost_ret (v := iv 1 n) (by simp [results, Tryz.results6, go_sem, iv]) rfl ⟨rfl, rfl⟩

theorem reckons_any (s : ByteArray) (a b k i : Int) (w : World) (HE : ∀ w, Calls Tryz.prog 9 #[.string s, recV a, intV b] w fun e w' => Below w.heap.size w w' ∧ e = .returned (.tuple #[iv k i, .nilIface])) :
    Calls Tryz.prog 5 #[.string s, iv 1 a, iv 1 b] w fun e w' => Below w.heap.size w w' ∧ e = .returned (.tuple #[iv k i, .bool true]) := by
  have HH := hid HE
  clear HE
  unfold recV intV at HH
  rw [show iv 1 a = .agg #[.int .i64 1, .int .i64 a, .string ⟨#[]⟩, .slice none 0 0] from rfl, show iv 1 b = .agg #[.int .i64 1, .int .i64 b, .string ⟨#[]⟩, .slice none 0 0] from rfl]
  go_enter Tryz.func5, Tryz.ntmps5
  go_wp2_with fail
  have hZ := V4.new ((w.alloc (.cells #[.int .i64 1, .int .i64 a, .string ⟨#[]⟩, .slice none 0 0] 24)).alloc (.cells #[.int .i64 1, .int .i64 b, .string ⟨#[]⟩, .slice none 0 0] 24)) 0 0
  rw [show ((w.alloc (.cells #[.int .i64 1, .int .i64 a, .string ⟨#[]⟩, .slice none 0 0] 24)).alloc (.cells #[.int .i64 1, .int .i64 b, .string ⟨#[]⟩, .slice none 0 0] 24)).heap.size = w.heap.size + 1 + 1 by simp] at hZ
  have HZ := hid hZ
  have HB := hid ((below_al2 w (.cells #[.int .i64 1, .int .i64 a, .string ⟨#[]⟩, .slice none 0 0] 24) (.cells #[.int .i64 1, .int .i64 b, .string ⟨#[]⟩, .slice none 0 0] 24)).alloc (by simp; omega) (.cells #[.int .i64 0, .int .i64 0, .string ⟨#[]⟩, .slice none 0 0] 24))
  clear hZ
  generalize ((w.alloc (.cells #[.int .i64 1, .int .i64 a, .string ⟨#[]⟩, .slice none 0 0] 24)).alloc (.cells #[.int .i64 1, .int .i64 b, .string ⟨#[]⟩, .slice none 0 0] 24)).alloc (.cells #[.int .i64 0, .int .i64 0, .string ⟨#[]⟩, .slice none 0 0] 24) = w0 at *
  refine (HH.out w0).mono ?_
  rintro e w1 ⟨hb, rfl⟩
  obtain ⟨v0, v1, v2, v3, vf⟩ := HZ.out.on hb
  have HB1 := hid (HB.out.trans (hb.mono HB.out.size))
  have hlt : w.heap.size + 1 + 1 < w1.heap.size := cell_lt v0
  clear hb
  have x0 := cell_al v0
  have x1 := cell_al v1
  have x2 := cell_al v2
  have x3 := cell_al v3
  have xf : ∀ (ob : Obj) (o : Nat), (w1.alloc ob).frozen? ⟨w.heap.size + 1 + 1, o, none⟩ = false := fun ob o => ((below_al w1 ob).frozen (p := ⟨w.heap.size + 1 + 1, o, none⟩) hlt).trans (vf o)
  unfold iv
  go_wp2_with fail
  have hV := V4.new w1 k i
  obtain ⟨y0, y1, y2, y3, _⟩ := hV
  have z0 := x0 (.cells #[.int .i64 k, .int .i64 i, .string ⟨#[]⟩, .slice none 0 0] 24)
  have z1 := x1 (.cells #[.int .i64 k, .int .i64 i, .string ⟨#[]⟩, .slice none 0 0] 24)
  have z2 := x2 (.cells #[.int .i64 k, .int .i64 i, .string ⟨#[]⟩, .slice none 0 0] 24)
  have z3 := x3 (.cells #[.int .i64 k, .int .i64 i, .string ⟨#[]⟩, .slice none 0 0] 24)
  have zf := xf (.cells #[.int .i64 k, .int .i64 i, .string ⟨#[]⟩, .slice none 0 0] 24)
  have HB2 := hid (HB1.out.alloc HB1.out.size (.cells #[.int .i64 k, .int .i64 i, .string ⟨#[]⟩, .slice none 0 0] 24))
  have hne : ¬ w.heap.size + 1 + 1 = w1.heap.size := by omega
  have hne' : ¬ w1.heap.size = w.heap.size + 1 + 1 := by omega
  clear x0 x1 x2 x3 xf v0 v1 v2 v3 vf hlt
  generalize w1.alloc (.cells #[.int .i64 k, .int .i64 i, .string ⟨#[]⟩, .slice none 0 0] 24) = w2 at *
  generalize w1.heap.size = c at *
  go_region_law fail
  all_goals
    go_wp2_with fail
    exact bodyPost_ret (v := .tuple #[iv k i, .bool true]) (by simp [results, Tryz.results5, go_sem, iv, z0, z1, z2, z3]) rfl ⟨below_set4 HB2.out.drew (by omega) _ _ _ _, rfl⟩

theorem same_iv (k i k' i' : Int) (w : World) : Calls Tryz.prog 7 #[iv k i, iv k' i'] w fun e w' => Below w.heap.size w w' ∧ e = .returned (.bool (decide (k = k' ∧ i = i'))) := by
  unfold iv
  by_cases h1 : k = k'
  · subst h1
    by_cases h2 : i = i'
    · subst h2
      go_enter Tryz.func7, Tryz.ntmps7
      go_wp2_with fail
      refine wp_loop_rounds 1 ?_
      rw [rounds_succ]
      go_wp2_with fail
      go_ret
      exact ⟨below_al2 _ _ _, by simp⟩
    · have h3 : (i != i') = true := by simpa using h2
      go_enter Tryz.func7, Tryz.ntmps7
      go_wp2_with fail
      go_ret
      exact ⟨below_al2 _ _ _, by simp [h2]⟩
  · have h3 : (k != k') = true := by simpa using h1
    go_enter Tryz.func7, Tryz.ntmps7
    go_wp2_with fail
    go_ret
    exact ⟨below_al2 _ _ _, by simp [h1]⟩
end Go.Proofs.YtieknmpdmdbdlaaGreatDoor
