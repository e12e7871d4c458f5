import Derived.Test.YtieknmpdmdbdlaaGreatDoorExB
import Derived.Test.YtieknmpdmdbdlaaGreatDoorCheckV
namespace Go.Proofs.YtieknmpdmdbdlaaGreatDoor
open Go.RowKit
set_option maxRecDepth 8000

def intT (a : Int) : VT := .mk 1 a ⟨#[]⟩ 0 none 0 (fun _ => .nil)
theorem check_int (a : Int) (w : World) (ha : I64 a) : Calls Tryz.prog 144 #[intV a] w fun e w' => e = .returned (.int .i64 0) ∧ Below w.heap.size w w' := by
  have h := check_any (intT a) w (fun _ => False) ?_ (fun b hb => hb.elim)
  · have hc : (chk (intT a) 0 0).1 = 0 := by
      unfold intT
      rw [chk_eq, if_neg (by omega), if_neg (by simp [fitB]), if_neg (by omega), if_neg (by decide), if_neg (by omega)]
      rfl
    rw [hc] at h
    exact h
  · exact ⟨⟨by simp [VT.kind], by simp [VT.kind], ha.1, ha.2, (by show (⟨#[]⟩ : ByteArray).size ≤ 140737488355328; decide), Nat.le_refl _, by simp [VT.n], by simp [VT.c, maxLen], by simp [VT.p, VT.n, VT.c]⟩, fun h => absurd h (by omega), fun j hj => absurd hj (by omega)⟩

/-- a value without text and items in block vb -/
structure V4 (w : World) (vb : Nat) (k i : Int) : Prop where
  c0 : w.cell? ⟨vb, 0, none⟩ = some (.int .i64 k)
  c1 : w.cell? ⟨vb, 1, none⟩ = some (.int .i64 i)
  c2 : w.cell? ⟨vb, 2, none⟩ = some (.string ⟨#[]⟩)
  c3 : w.cell? ⟨vb, 3, none⟩ = some (.slice none 0 0)
  fz : ∀ o, w.frozen? ⟨vb, o, none⟩ = false
theorem V4.on {w w' : World} {vb : Nat} {k i : Int} (h : V4 w vb k i) (hb : Below w.heap.size w w') : V4 w' vb k i :=
  ⟨cell_on h.c0 hb, cell_on h.c1 hb, cell_on h.c2 hb, cell_on h.c3 hb, fun o => (hb.frozen (p := ⟨vb, o, none⟩) (show vb < w.heap.size from cell_lt h.c0)).trans (h.fz o)⟩
theorem V4.new (w : World) (k i : Int) : V4 (w.alloc (.cells #[.int .i64 k, .int .i64 i, .string ⟨#[]⟩, .slice none 0 0] 24)) w.heap.size k i :=
  ⟨by simp, by simp, by simp, by simp, fun o => by simp⟩
theorem below_al (w : World) (o : Obj) : Below w.heap.size w (w.alloc o) := (Below.refl _ _).alloc (Nat.le_refl _) o
theorem below_al2 (w : World) (o o' : Obj) : Below w.heap.size w ((w.alloc o).alloc o') := (below_al w o).alloc (by simp) o'
theorem below_set4 {B : Nat} {x w : World} (h : Below B x w) {vb : Nat} (hb : B ≤ vb) (u0 u1 u2 u3 : Value) : Below B x ((((w.setCell ⟨vb, 0, none⟩ u0).setCell ⟨vb, 1, none⟩ u1).setCell ⟨vb, 2, none⟩ u2).setCell ⟨vb, 3, none⟩ u3) :=
  (((h.setCell (p := ⟨vb, 0, none⟩) hb u0).setCell (p := ⟨vb, 1, none⟩) hb u1).setCell (p := ⟨vb, 2, none⟩) hb u2).setCell (p := ⟨vb, 3, none⟩) hb u3

theorem orNone_int (a : Int) (w : World) (ha : I64 a) : Calls Tryz.prog 127 #[intV a] w fun e w' => e = .returned (intV a) ∧ Below w.heap.size w w' := by
  have HC := hid (fun w => check_int a w ha)
  unfold intV at *
  clear ha
  go_enter Tryz.func127, Tryz.ntmps127
  go_wp2_with fail
  have HV := hid ((V4.new w 1 a).on (below_al _ (.cells #[.int .i64 0, .int .i64 0, .string ⟨#[]⟩, .slice none 0 0] 24)))
  have HR := hid (V4.new (w.alloc (.cells #[.int .i64 1, .int .i64 a, .string ⟨#[]⟩, .slice none 0 0] 24)) 0 0)
  rw [show (w.alloc (.cells #[.int .i64 1, .int .i64 a, .string ⟨#[]⟩, .slice none 0 0] 24)).heap.size = w.heap.size + 1 by simp] at HR
  have HB := hid (below_al2 w (.cells #[.int .i64 1, .int .i64 a, .string ⟨#[]⟩, .slice none 0 0] 24) (.cells #[.int .i64 0, .int .i64 0, .string ⟨#[]⟩, .slice none 0 0] 24))
  generalize (w.alloc (.cells #[.int .i64 1, .int .i64 a, .string ⟨#[]⟩, .slice none 0 0] 24)).alloc (.cells #[.int .i64 0, .int .i64 0, .string ⟨#[]⟩, .slice none 0 0] 24) = w0 at *
  refine (HC.out w0).mono ?_
  rintro e w1 ⟨rfl, hb⟩
  obtain ⟨v0, v1, v2, v3, vf⟩ := HV.out.on hb
  obtain ⟨r0, r1, r2, r3, rf⟩ := HR.out.on hb
  have HB1 := hid (HB.out.trans (hb.mono HB.out.size))
  clear hb
  go_wp2
  refine bodyPost_ret (v := intV a) (by simp [results, Tryz.results127, go_sem, intV, r0, r1, r2, r3]) rfl ⟨rfl, below_set4 HB1.out (by omega) _ _ _ _⟩

/-- the scope of an expression: a record with the value a, acc b -/
structure Scp (w : World) (sb : Nat) (a b : Int) : Prop where
  c1 : w.cell? ⟨sb, 1, none⟩ = some (.int .i64 1)
  c2 : w.cell? ⟨sb, 2, none⟩ = some (.int .i64 a)
  c3 : w.cell? ⟨sb, 3, none⟩ = some (.string ⟨#[]⟩)
  c4 : w.cell? ⟨sb, 4, none⟩ = some (.slice none 0 0)
  c6 : w.cell? ⟨sb, 6, none⟩ = some (.int .i64 1)
  c7 : w.cell? ⟨sb, 7, none⟩ = some (.int .i64 b)
  c8 : w.cell? ⟨sb, 8, none⟩ = some (.string ⟨#[]⟩)
  c9 : w.cell? ⟨sb, 9, none⟩ = some (.slice none 0 0)
theorem Scp.on {w w' : World} {sb : Nat} {a b : Int} (h : Scp w sb a b) (hb : Below w.heap.size w w') : Scp w' sb a b :=
  ⟨cell_on h.c1 hb, cell_on h.c2 hb, cell_on h.c3 hb, cell_on h.c4 hb, cell_on h.c6 hb, cell_on h.c7 hb, cell_on h.c8 hb, cell_on h.c9 hb⟩
theorem scope_val (sb : Nat) (a b : Int) (w : World) (ha : I64 a) (h : Scp w sb a b) : Calls Tryz.prog 245 #[.pointer (some ⟨sb, 0, none⟩)] w fun e w' => Below w.heap.size w w' ∧ e = .returned (intV a) := by
  have HC := hid (fun w => orNone_int a w ha)
  have c1 := cell_al h.c1
  have c2 := cell_al h.c2
  have c3 := cell_al h.c3
  have c4 := cell_al h.c4
  clear h
  unfold intV at *
  go_enter Tryz.func245, Tryz.ntmps245
  go_wp2_with fail
  have HR := hid (V4.new w 0 0)
  have HB := hid (below_al w (.cells #[.int .i64 0, .int .i64 0, .string ⟨#[]⟩, .slice none 0 0] 24))
  generalize w.alloc (.cells #[.int .i64 0, .int .i64 0, .string ⟨#[]⟩, .slice none 0 0] 24) = w0 at *
  refine (HC.out w0).mono ?_
  rintro e w1 ⟨rfl, hb⟩
  obtain ⟨r0, r1, r2, r3, rf⟩ := HR.out.on hb
  have HB1 := hid (HB.out.trans (hb.mono HB.out.size))
  clear hb c1 c2 c3 c4
  go_wp2
  refine bodyPost_ret (v := intV a) (by simp [results, Tryz.results245, go_sem, intV, r0, r1, r2, r3]) rfl ⟨below_set4 HB1.out (Nat.le_refl _) _ _ _ _, rfl⟩

theorem scope_acc (sb : Nat) (a b : Int) (w : World) (ha : I64 b) (h : Scp w sb a b) : Calls Tryz.prog 209 #[.pointer (some ⟨sb, 0, none⟩)] w fun e w' => Below w.heap.size w w' ∧ e = .returned (intV b) := by
  have HC := hid (fun w => orNone_int b w ha)
  have c1 := cell_al h.c6
  have c2 := cell_al h.c7
  have c3 := cell_al h.c8
  have c4 := cell_al h.c9
  clear h
  unfold intV at *
  go_enter Tryz.func209, Tryz.ntmps209
  go_wp2_with fail
  have HR := hid (V4.new w 0 0)
  have HB := hid (below_al w (.cells #[.int .i64 0, .int .i64 0, .string ⟨#[]⟩, .slice none 0 0] 24))
  generalize w.alloc (.cells #[.int .i64 0, .int .i64 0, .string ⟨#[]⟩, .slice none 0 0] 24) = w0 at *
  refine (HC.out w0).mono ?_
  rintro e w1 ⟨rfl, hb⟩
  obtain ⟨r0, r1, r2, r3, rf⟩ := HR.out.on hb
  have HB1 := hid (HB.out.trans (hb.mono HB.out.size))
  clear hb c1 c2 c3 c4
  go_wp2
  refine bodyPost_ret (v := intV b) (by simp [results, Tryz.results209, go_sem, intV, r0, r1, r2, r3]) rfl ⟨below_set4 HB1.out (Nat.le_refl _) _ _ _ _, rfl⟩
end Go.Proofs.YtieknmpdmdbdlaaGreatDoor
