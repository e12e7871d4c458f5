import Derived.Test.YtieknmpdmdbdlaaGreatDoorExK
namespace Go.Proofs.YtieknmpdmdbdlaaGreatDoor
open Go.RowKit
set_option maxRecDepth 8000

def neS (a b : ByteArray) : Prop := (a.toList == b.toList) = false
def eqS (a b : ByteArray) : Prop := (a.toList == b.toList) = true
/-- what going past a token comes to -/
def Adv (pb : Nat) (s : ByteArray) (a a' : Nat) (k' ta' : Int) (nm' : ByteArray) : Prop :=
  ∀ w1, Sc w1 pb s a → Calls Tryz.prog 19 #[.pointer (some ⟨pb, 0, none⟩)] w1 fun e w' => Nx pb w1 w' a' ∧ e = .returned (tokV k' ta' nm')

theorem passes_none1 (pb nb : Nat) (s : ByteArray) (a : Nat) (k ta : Int) (nm n0 : ByteArray) (op : Int) (w : World) (h : Ps w pb s a k ta nm op)
    (d0 : w.cell? ⟨nb, 0, none⟩ = some (.string n0)) (e0 : neS nm n0) :
    Calls Tryz.prog 20 #[.pointer (some ⟨pb, 0, none⟩), .slice (some ⟨nb, 0, none⟩) 1 1] w fun e w' => Below w.heap.size w w' ∧ e = .returned (.string ⟨#[]⟩) := by
  have c4 := h.c4
  unfold neS at *
  clear h
  go_enter Tryz.func20, Tryz.ntmps20
  go_wp2_with fail
  refine wp_loop_rounds 2 ?_
  rw [rounds_succ]
  go_wp2_with fail
  rw [rounds_succ]
  go_wp2_with fail
  go_ret
  exact ⟨Below.refl _ _, rfl⟩

theorem passes_none2 (pb nb : Nat) (s : ByteArray) (a : Nat) (k ta : Int) (nm n0 n1 : ByteArray) (op : Int) (w : World) (h : Ps w pb s a k ta nm op)
    (d0 : w.cell? ⟨nb, 0, none⟩ = some (.string n0)) (d1 : w.cell? ⟨nb, 1, none⟩ = some (.string n1)) (e0 : neS nm n0) (e1 : neS nm n1) :
    Calls Tryz.prog 20 #[.pointer (some ⟨pb, 0, none⟩), .slice (some ⟨nb, 0, none⟩) 2 2] w fun e w' => Below w.heap.size w w' ∧ e = .returned (.string ⟨#[]⟩) := by
  have c4 := h.c4
  unfold neS at *
  clear h
  go_enter Tryz.func20, Tryz.ntmps20
  go_wp2_with fail
  refine wp_loop_rounds 3 ?_
  rw [rounds_succ]
  go_wp2_with fail
  rw [rounds_succ]
  go_wp2_with fail
  rw [rounds_succ]
  go_wp2_with fail
  go_ret
  exact ⟨Below.refl _ _, rfl⟩

theorem passes_none3 (pb nb : Nat) (s : ByteArray) (a : Nat) (k ta : Int) (nm n0 n1 n2 : ByteArray) (op : Int) (w : World) (h : Ps w pb s a k ta nm op)
    (d0 : w.cell? ⟨nb, 0, none⟩ = some (.string n0)) (d1 : w.cell? ⟨nb, 1, none⟩ = some (.string n1)) (d2 : w.cell? ⟨nb, 2, none⟩ = some (.string n2)) (e0 : neS nm n0) (e1 : neS nm n1) (e2 : neS nm n2) :
    Calls Tryz.prog 20 #[.pointer (some ⟨pb, 0, none⟩), .slice (some ⟨nb, 0, none⟩) 3 3] w fun e w' => Below w.heap.size w w' ∧ e = .returned (.string ⟨#[]⟩) := by
  have c4 := h.c4
  unfold neS at *
  clear h
  go_enter Tryz.func20, Tryz.ntmps20
  go_wp2_with fail
  refine wp_loop_rounds 4 ?_
  rw [rounds_succ]
  go_wp2_with fail
  rw [rounds_succ]
  go_wp2_with fail
  rw [rounds_succ]
  go_wp2_with fail
  rw [rounds_succ]
  go_wp2_with fail
  go_ret
  exact ⟨Below.refl _ _, rfl⟩

theorem passes_none6 (pb nb : Nat) (s : ByteArray) (a : Nat) (k ta : Int) (nm n0 n1 n2 n3 n4 n5 : ByteArray) (op : Int) (w : World) (h : Ps w pb s a k ta nm op)
    (d0 : w.cell? ⟨nb, 0, none⟩ = some (.string n0)) (d1 : w.cell? ⟨nb, 1, none⟩ = some (.string n1)) (d2 : w.cell? ⟨nb, 2, none⟩ = some (.string n2)) (d3 : w.cell? ⟨nb, 3, none⟩ = some (.string n3)) (d4 : w.cell? ⟨nb, 4, none⟩ = some (.string n4)) (d5 : w.cell? ⟨nb, 5, none⟩ = some (.string n5)) (e0 : neS nm n0) (e1 : neS nm n1) (e2 : neS nm n2) (e3 : neS nm n3) (e4 : neS nm n4) (e5 : neS nm n5) :
    Calls Tryz.prog 20 #[.pointer (some ⟨pb, 0, none⟩), .slice (some ⟨nb, 0, none⟩) 6 6] w fun e w' => Below w.heap.size w w' ∧ e = .returned (.string ⟨#[]⟩) := by
  have c4 := h.c4
  unfold neS at *
  clear h
  go_enter Tryz.func20, Tryz.ntmps20
  go_wp2_with fail
  refine wp_loop_rounds 7 ?_
  rw [rounds_succ]
  go_wp2_with fail
  rw [rounds_succ]
  go_wp2_with fail
  rw [rounds_succ]
  go_wp2_with fail
  rw [rounds_succ]
  go_wp2_with fail
  rw [rounds_succ]
  go_wp2_with fail
  rw [rounds_succ]
  go_wp2_with fail
  rw [rounds_succ]
  go_wp2_with fail
  go_ret
  exact ⟨Below.refl _ _, rfl⟩

theorem passes_hit10 (pb nb : Nat) (s : ByteArray) (a a' : Nat) (k ta k' ta' : Int) (nm nm' n0 : ByteArray) (op : Int) (w : World) (h : Ps w pb s a k ta nm op)
    (d0 : w.cell? ⟨nb, 0, none⟩ = some (.string n0))  (e0 : eqS nm n0) (HA : Adv pb s a a' k' ta' nm') :
    Calls Tryz.prog 20 #[.pointer (some ⟨pb, 0, none⟩), .slice (some ⟨nb, 0, none⟩) 1 1] w fun e w' => Only pb w w' ∧ Ps w' pb s a' k' ta' nm' op ∧ e = .returned (.string n0) := by
  have c4 := h.c4
  have HH := hid (fun w h => advance_any pb s a a' k ta k' ta' nm nm' op w h HA)
  have H := hid h
  unfold neS eqS at *
  clear h HA
  go_enter Tryz.func20, Tryz.ntmps20
  go_wp2_with fail
  refine wp_loop_rounds 2 ?_
  rw [rounds_succ]
  go_wp2_with fail
  refine (HH.out _ H.out).mono ?_
  rintro e w1 ⟨ho, hp, rfl⟩
  unfold tokV
  go_wp2_with fail
  go_ret
  exact ⟨ho, hp, rfl⟩

theorem passes_hit20 (pb nb : Nat) (s : ByteArray) (a a' : Nat) (k ta k' ta' : Int) (nm nm' n0 : ByteArray) (op : Int) (w : World) (h : Ps w pb s a k ta nm op)
    (d0 : w.cell? ⟨nb, 0, none⟩ = some (.string n0))  (e0 : eqS nm n0) (HA : Adv pb s a a' k' ta' nm') :
    Calls Tryz.prog 20 #[.pointer (some ⟨pb, 0, none⟩), .slice (some ⟨nb, 0, none⟩) 2 2] w fun e w' => Only pb w w' ∧ Ps w' pb s a' k' ta' nm' op ∧ e = .returned (.string n0) := by
  have c4 := h.c4
  have HH := hid (fun w h => advance_any pb s a a' k ta k' ta' nm nm' op w h HA)
  have H := hid h
  unfold neS eqS at *
  clear h HA
  go_enter Tryz.func20, Tryz.ntmps20
  go_wp2_with fail
  refine wp_loop_rounds 3 ?_
  rw [rounds_succ]
  go_wp2_with fail
  refine (HH.out _ H.out).mono ?_
  rintro e w1 ⟨ho, hp, rfl⟩
  unfold tokV
  go_wp2_with fail
  go_ret
  exact ⟨ho, hp, rfl⟩

theorem passes_hit21 (pb nb : Nat) (s : ByteArray) (a a' : Nat) (k ta k' ta' : Int) (nm nm' n0 n1 : ByteArray) (op : Int) (w : World) (h : Ps w pb s a k ta nm op)
    (d0 : w.cell? ⟨nb, 0, none⟩ = some (.string n0)) (d1 : w.cell? ⟨nb, 1, none⟩ = some (.string n1)) (e0 : neS nm n0) (e1 : eqS nm n1) (HA : Adv pb s a a' k' ta' nm') :
    Calls Tryz.prog 20 #[.pointer (some ⟨pb, 0, none⟩), .slice (some ⟨nb, 0, none⟩) 2 2] w fun e w' => Only pb w w' ∧ Ps w' pb s a' k' ta' nm' op ∧ e = .returned (.string n1) := by
  have c4 := h.c4
  have HH := hid (fun w h => advance_any pb s a a' k ta k' ta' nm nm' op w h HA)
  have H := hid h
  unfold neS eqS at *
  clear h HA
  go_enter Tryz.func20, Tryz.ntmps20
  go_wp2_with fail
  refine wp_loop_rounds 3 ?_
  rw [rounds_succ]
  go_wp2_with fail
  rw [rounds_succ]
  go_wp2_with fail
  refine (HH.out _ H.out).mono ?_
  rintro e w1 ⟨ho, hp, rfl⟩
  unfold tokV
  go_wp2_with fail
  go_ret
  exact ⟨ho, hp, rfl⟩

theorem passes_hit30 (pb nb : Nat) (s : ByteArray) (a a' : Nat) (k ta k' ta' : Int) (nm nm' n0 : ByteArray) (op : Int) (w : World) (h : Ps w pb s a k ta nm op)
    (d0 : w.cell? ⟨nb, 0, none⟩ = some (.string n0))  (e0 : eqS nm n0) (HA : Adv pb s a a' k' ta' nm') :
    Calls Tryz.prog 20 #[.pointer (some ⟨pb, 0, none⟩), .slice (some ⟨nb, 0, none⟩) 3 3] w fun e w' => Only pb w w' ∧ Ps w' pb s a' k' ta' nm' op ∧ e = .returned (.string n0) := by
  have c4 := h.c4
  have HH := hid (fun w h => advance_any pb s a a' k ta k' ta' nm nm' op w h HA)
  have H := hid h
  unfold neS eqS at *
  clear h HA
  go_enter Tryz.func20, Tryz.ntmps20
  go_wp2_with fail
  refine wp_loop_rounds 4 ?_
  rw [rounds_succ]
  go_wp2_with fail
  refine (HH.out _ H.out).mono ?_
  rintro e w1 ⟨ho, hp, rfl⟩
  unfold tokV
  go_wp2_with fail
  go_ret
  exact ⟨ho, hp, rfl⟩

theorem passes_hit31 (pb nb : Nat) (s : ByteArray) (a a' : Nat) (k ta k' ta' : Int) (nm nm' n0 n1 : ByteArray) (op : Int) (w : World) (h : Ps w pb s a k ta nm op)
    (d0 : w.cell? ⟨nb, 0, none⟩ = some (.string n0)) (d1 : w.cell? ⟨nb, 1, none⟩ = some (.string n1)) (e0 : neS nm n0) (e1 : eqS nm n1) (HA : Adv pb s a a' k' ta' nm') :
    Calls Tryz.prog 20 #[.pointer (some ⟨pb, 0, none⟩), .slice (some ⟨nb, 0, none⟩) 3 3] w fun e w' => Only pb w w' ∧ Ps w' pb s a' k' ta' nm' op ∧ e = .returned (.string n1) := by
  have c4 := h.c4
  have HH := hid (fun w h => advance_any pb s a a' k ta k' ta' nm nm' op w h HA)
  have H := hid h
  unfold neS eqS at *
  clear h HA
  go_enter Tryz.func20, Tryz.ntmps20
  go_wp2_with fail
  refine wp_loop_rounds 4 ?_
  rw [rounds_succ]
  go_wp2_with fail
  rw [rounds_succ]
  go_wp2_with fail
  refine (HH.out _ H.out).mono ?_
  rintro e w1 ⟨ho, hp, rfl⟩
  unfold tokV
  go_wp2_with fail
  go_ret
  exact ⟨ho, hp, rfl⟩

theorem passes_hit32 (pb nb : Nat) (s : ByteArray) (a a' : Nat) (k ta k' ta' : Int) (nm nm' n0 n1 n2 : ByteArray) (op : Int) (w : World) (h : Ps w pb s a k ta nm op)
    (d0 : w.cell? ⟨nb, 0, none⟩ = some (.string n0)) (d1 : w.cell? ⟨nb, 1, none⟩ = some (.string n1)) (d2 : w.cell? ⟨nb, 2, none⟩ = some (.string n2)) (e0 : neS nm n0) (e1 : neS nm n1) (e2 : eqS nm n2) (HA : Adv pb s a a' k' ta' nm') :
    Calls Tryz.prog 20 #[.pointer (some ⟨pb, 0, none⟩), .slice (some ⟨nb, 0, none⟩) 3 3] w fun e w' => Only pb w w' ∧ Ps w' pb s a' k' ta' nm' op ∧ e = .returned (.string n2) := by
  have c4 := h.c4
  have HH := hid (fun w h => advance_any pb s a a' k ta k' ta' nm nm' op w h HA)
  have H := hid h
  unfold neS eqS at *
  clear h HA
  go_enter Tryz.func20, Tryz.ntmps20
  go_wp2_with fail
  refine wp_loop_rounds 4 ?_
  rw [rounds_succ]
  go_wp2_with fail
  rw [rounds_succ]
  go_wp2_with fail
  rw [rounds_succ]
  go_wp2_with fail
  refine (HH.out _ H.out).mono ?_
  rintro e w1 ⟨ho, hp, rfl⟩
  unfold tokV
  go_wp2_with fail
  go_ret
  exact ⟨ho, hp, rfl⟩
end Go.Proofs.YtieknmpdmdbdlaaGreatDoor
