import Derived.Test.YtbcnlfbclgkeiaaLcT
namespace Go.Proofs.Ytbcnlfbclgkeiaa
open Go.RowKit Go.Conc
set_option maxRecDepth 8000
set_option maxHeartbeats 1000000 in
theorem shut_yes (w : World) (b : Nat) (room : Int) (h : LnS w b room) : Calls Try.prog 38 #[.pointer (some ⟨b, 0, none⟩)] w fun e w' => e = .returned (.bool true) ∧ w' = w := by
  have c3 : w.cell? ⟨b, 3, none⟩ = some (.chan none) := by rw [Box.cell h]; rfl
  have bl := Box.lt h
  have hq := fun w => eqlChan w none
  clear h
  go_enter Try.func38, Try.ntmps38
  go_wp2
  refine bodyPost_ret (v := .bool true) (by simp [results, Try.results38, go_sem]) rfl ⟨rfl, rfl⟩
set_option maxHeartbeats 2000000 in
theorem refill_shut (w : World) (b : Nat) (room : Int) (h : LnS w b room) (p : Option Addr) (n c : Nat) : Calls Try.prog 17 #[.pointer (some ⟨b, 0, none⟩), .slice p n c] w fun e w' => e = .returned (.int .i64 53) ∧ w' = w := by
  have HS := hid (shut_yes w b room h)
  clear h
  go_enter Try.func17, Try.ntmps17
  go_wp2_with fail
  refine HS.out.mono ?_
  rintro e w0 ⟨rfl, hw0⟩
  subst w0
  go_wp2
  refine bodyPost_ret (v := .int .i64 53) (by simp [results, Try.results17, go_sem]) rfl ⟨rfl, rfl⟩
set_option maxRecDepth 60000 in
set_option maxHeartbeats 4000000 in
theorem refusal_shut (w : World) (b : Nat) (room : Int) (h : LnS w b room) (x : IT) : Calls Try.prog 29 #[.pointer (some ⟨b, 0, none⟩), .agg #[.int .i64 x.mark, .string x.r.key, .int .i64 x.r.v.kind, .int .i64 x.r.v.int, .string x.r.v.text, .slice x.r.v.p x.r.v.n x.r.v.c, .slice x.r.p x.r.n x.r.c]] w fun e w' => e = .returned (.int .i64 53) ∧ Below w.heap.size w w' := by
  obtain ⟨W, hW⟩ : ∃ W, W = w.alloc (.cells #[.int .i64 x.mark, .string x.r.key, .int .i64 x.r.v.kind, .int .i64 x.r.v.int, .string x.r.v.text, .slice x.r.v.p x.r.v.n x.r.v.c, .slice x.r.p x.r.n x.r.c] 35) := ⟨_, rfl⟩
  have hB : Below w.heap.size w W := by rw [hW]; exact (Below.refl _ _).alloc (Nat.le_refl _) _
  have HS := hid (shut_yes W b room (Box.below h hB))
  have HB := hid hB
  have HW := hid hW
  clear h hB hW
  go_enter Try.func29, Try.ntmps29
  go_upto_region 1 with fail
  rw [← HW.out]
  go_wp2_with fail
  refine HS.out.mono ?_
  rintro e w0 ⟨rfl, hw0⟩
  subst w0
  go_wp2
  refine bodyPost_ret (v := .int .i64 53) (by simp [results, Try.results29, go_sem]) rfl ⟨rfl, HB.out⟩
set_option maxRecDepth 60000 in
set_option maxHeartbeats 4000000 in
/-- Put into a lane that is shut -/
theorem put_shut (w : World) (b : Nat) (room : Int) (h : LnS w b room) (l : LT IT) (S : Nat → Prop) (hl : LT.In elItem w S l) : Calls Try.prog 9 #[.pointer (some ⟨b, 0, none⟩), .slice l.p l.n l.c] w fun e w' => e = .returned (.tuple #[.int .i64 0, .int .i64 (if l.n = 0 then 0 else 53)]) ∧ Below w.heap.size w w' := by
  have hnn := hl.nn
  by_cases h0 : l.n = 0
  · rw [h0]
    clear hnn hl h
    go_enter Try.func9, Try.ntmps9
    go_wp2_with fail
    go_loopw [11] (fun v wr => v = .int .i64 0 ∧ wr = w) (fun _ _ => 0)
    case atStart => exact ⟨rfl, rfl⟩
    case round =>
      obtain ⟨rfl, hw0⟩ := hrel
      subst wr
      go_wp2
      refine bodyPost_ret (v := .tuple #[.int .i64 0, .int .i64 0]) (by simp [results, Try.results9, go_sem]) rfl ⟨by simp, Below.refl _ _⟩
  · obtain ⟨bb, o, hp, hSb, hbb, hat⟩ := hl.at_ (by omega)
    rw [hp, if_neg h0]
    have hpos : (0 : Int) < (l.n : Int) := by omega
    obtain ⟨x, hx⟩ : ∃ x, x = l.item 0 := ⟨_, rfl⟩
    have hcell : ∀ r u, (elItem.cells x)[r]? = some u → w.cell? ⟨bb, o + r, none⟩ = some u := fun r u hu => by have := hat 0 (by omega) r u (by rw [← hx]; exact hu); simpa using this
    have c0 : w.cell? ⟨bb, o, none⟩ = some (.int .i64 x.mark) := hcell 0 _ rfl
    have c1 := hcell 1 _ rfl
    have c2 := hcell 2 _ rfl
    have c3 := hcell 3 _ rfl
    have c4 := hcell 4 _ rfl
    have c5 := hcell 5 _ rfl
    have c6 := hcell 6 _ rfl
    obtain ⟨W, hW⟩ : ∃ W, W = w.alloc (.cells #[.int .i64 x.mark, .string x.r.key, .int .i64 x.r.v.kind, .int .i64 x.r.v.int, .string x.r.v.text, .slice x.r.v.p x.r.v.n x.r.v.c, .slice x.r.p x.r.n x.r.c] 35) := ⟨_, rfl⟩
    have hB : Below w.heap.size w W := by rw [hW]; exact (Below.refl _ _).alloc (Nat.le_refl _) _
    have hX : Box W w.heap.size #[.int .i64 x.mark, .string x.r.key, .int .i64 x.r.v.kind, .int .i64 x.r.v.int, .string x.r.v.text, .slice x.r.v.p x.r.v.n x.r.v.c, .slice x.r.p x.r.n x.r.c] 35 := by rw [hW]; exact Box.new _ _ _
    have HRf := hid (refusal_shut W b room (Box.below h hB) x)
    have z0 := hX.cell 0
    have z1 := hX.cell 1
    have z2 := hX.cell 2
    have z3 := hX.cell 3
    have z4 := hX.cell 4
    have z5 := hX.cell 5
    have z6 := hX.cell 6
    simp at z0 z1 z2 z3 z4 z5 z6
    have HW := hid hW
    have HB := hid hB
    clear hat hcell hW hB hX hx hl h h0 hp
    go_enter Try.func9, Try.ntmps9
    go_wp2_with fail
    go_loopw [11] (fun v wr => v = .int .i64 0 ∧ wr = w) (fun _ _ => 0)
    case atStart => exact ⟨rfl, rfl⟩
    case round =>
      obtain ⟨rfl, hw0⟩ := hrel
      subst wr
      go_upto_region 4 with fail
      rw [← HW.out]
      go_wp2_with fail
      refine HRf.out.mono ?_
      rintro e w1 ⟨rfl, hB1⟩
      have HB1 := hid (HB.out.trans (hB1.mono HB.out.size))
      clear hB1
      go_wp2
      refine bodyPost_ret (v := .tuple #[.int .i64 0, .int .i64 53]) (by simp [results, Try.results9, go_sem]) rfl ⟨rfl, HB1.out⟩
end Go.Proofs.Ytbcnlfbclgkeiaa
