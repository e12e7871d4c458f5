import Derived.Test.YtkodlhjcoeljiaaRoomR
namespace Go.Proofs.Ytkodlhjcoeljiaa
open Go.RowKit
set_option maxRecDepth 8000

/-- the cells of a record, of a state, as a block has them -/
def RT.box (u : RT) : Array Value := #[.string u.key, .int .i64 u.v.kind, .int .i64 u.v.int, .string u.v.text, .slice u.v.p u.v.n u.v.c, .slice u.p u.n u.c]
def ST.box (u : ST) : Array Value := #[.int .i64 u.num, .slice u.p u.n u.c]
/-- behind the two copies: two new boxes, the copies elsewhere in new memory -/
def TwoRS (w1 : World) (t : RT) (t' : ST) (s5 s6 : Value) (wx : World) : Prop :=
  ∃ bc bd u u2, s5 = .pointer (some ⟨bc, 0, none⟩) ∧ s6 = .pointer (some ⟨bd, 0, none⟩) ∧ bc ≠ bd ∧ w1.heap.size ≤ bc ∧ w1.heap.size ≤ bd ∧ Box wx bc (RT.box u) 47 ∧ Box wx bd (ST.box u2) 50 ∧
    RT.Alike t u ∧ ST.Alike t' u2 ∧ RT.In wx (fun b => w1.heap.size ≤ b ∧ b ≠ bc ∧ b ≠ bd) u ∧ ST.In wx (fun b => w1.heap.size ≤ b ∧ b ≠ bc ∧ b ≠ bd) u2 ∧ Below w1.heap.size w1 wx
/-- the stores into a box -/
def setR (w : World) (b : Nat) (u : RT) : World :=
  (((((w.setCell ⟨b, 0, none⟩ (.string u.key)).setCell ⟨b, 1, none⟩ (.int .i64 u.v.kind)).setCell ⟨b, 2, none⟩ (.int .i64 u.v.int)).setCell ⟨b, 3, none⟩ (.string u.v.text)).setCell ⟨b, 4, none⟩ (.slice u.v.p u.v.n u.v.c)).setCell ⟨b, 5, none⟩ (.slice u.p u.n u.c)
def setS (w : World) (b : Nat) (u : ST) : World := (w.setCell ⟨b, 0, none⟩ (.int .i64 u.num)).setCell ⟨b, 1, none⟩ (.slice u.p u.n u.c)
theorem setR_size (w : World) (b : Nat) (u : RT) : (setR w b u).heap.size = w.heap.size := by simp [setR, World.setCell]
theorem setS_size (w : World) (b : Nat) (u : ST) : (setS w b u).heap.size = w.heap.size := by simp [setS, World.setCell]
theorem setR_box {w : World} {b : Nat} {u : RT} {a0 a1 a2 a3 a4 a5 : Value} {e : TypeId} (h : Box w b #[a0, a1, a2, a3, a4, a5] e) : Box (setR w b u) b (RT.box u) e := by
  have h0 := h.set 0 (.string u.key)
  have h1 : Box _ b #[.string u.key, .int .i64 u.v.kind, a2, a3, a4, a5] e := h0.set 1 (.int .i64 u.v.kind)
  have h2 : Box _ b #[.string u.key, .int .i64 u.v.kind, .int .i64 u.v.int, a3, a4, a5] e := h1.set 2 (.int .i64 u.v.int)
  have h3 : Box _ b #[.string u.key, .int .i64 u.v.kind, .int .i64 u.v.int, .string u.v.text, a4, a5] e := h2.set 3 (.string u.v.text)
  have h4 : Box _ b #[.string u.key, .int .i64 u.v.kind, .int .i64 u.v.int, .string u.v.text, .slice u.v.p u.v.n u.v.c, a5] e := h3.set 4 (.slice u.v.p u.v.n u.v.c)
  have h5 : Box _ b #[.string u.key, .int .i64 u.v.kind, .int .i64 u.v.int, .string u.v.text, .slice u.v.p u.v.n u.v.c, .slice u.p u.n u.c] e := h4.set 5 (.slice u.p u.n u.c)
  exact h5
theorem setS_box {w : World} {b : Nat} {u : ST} {a0 a1 : Value} {e : TypeId} (h : Box w b #[a0, a1] e) : Box (setS w b u) b (ST.box u) e := by
  have h1 : Box _ b #[.int .i64 u.num, a1] e := h.set 0 (.int .i64 u.num)
  have h2 : Box _ b #[.int .i64 u.num, .slice u.p u.n u.c] e := h1.set 1 (.slice u.p u.n u.c)
  exact h2
theorem setR_but {X : Nat → Prop} {a w : World} {b : Nat} (u : RT) (h : But X a w) (hb : b < a.heap.size → X b) : But X a (setR w b u) :=
  (((((h.setCell (p := ⟨b, 0, none⟩) hb _).setCell (p := ⟨b, 1, none⟩) hb _).setCell (p := ⟨b, 2, none⟩) hb _).setCell (p := ⟨b, 3, none⟩) hb _).setCell (p := ⟨b, 4, none⟩) hb _).setCell (p := ⟨b, 5, none⟩) hb _
theorem setS_but {X : Nat → Prop} {a w : World} {b : Nat} (u : ST) (h : But X a w) (hb : b < a.heap.size → X b) : But X a (setS w b u) :=
  (h.setCell (p := ⟨b, 0, none⟩) hb _).setCell (p := ⟨b, 1, none⟩) hb _

theorem twoRS_of {w1 w3 : World} {t u : RT} {t' u2 : ST} (ha : RT.Alike t u) (ha2 : ST.Alike t' u2) (hb : Below w1.heap.size w1 w3) {wx : World} {bc bd : Nat} {X : Nat → Prop} (hne : bc ≠ bd) (hc : w1.heap.size ≤ bc) (hd : w1.heap.size ≤ bd) (hx : But X w3 wx) (hX : ∀ y, X y → y = bc ∨ y = bd)
    (hu : RT.In w3 (fun b => w1.heap.size ≤ b ∧ b ≠ bc ∧ b ≠ bd) u) (hu2 : ST.In w3 (fun b => w1.heap.size ≤ b ∧ b ≠ bc ∧ b ≠ bd) u2)
    (h1 : Box wx bc (RT.box u) 47) (h2 : Box wx bd (ST.box u2) 50) :
    TwoRS w1 t t' (.pointer (some ⟨bc, 0, none⟩)) (.pointer (some ⟨bd, 0, none⟩)) wx := by
  have hno : ∀ b, (w1.heap.size ≤ b ∧ b ≠ bc ∧ b ≠ bd) → b < w3.heap.size → ¬ X b := fun b hb2 _ hx2 => by
    rcases hX b hx2 with h | h
    · exact hb2.2.1 h
    · exact hb2.2.2 h
  refine ⟨bc, bd, u, u2, rfl, rfl, hne, hc, hd, h1, h2, ha, ha2, hu.but hx hno, hu2.but hx hno, hb.trans (hx.below hb.size fun b hb2 hx2 => ?_)⟩
  rcases hX b hx2 with h | h
  · omega
  · omega
section
variable {w1 w3 : World} {t u : RT} {t' u2 : ST} (ha : RT.Alike t u) (ha2 : ST.Alike t' u2) (hb : Below w1.heap.size w1 w3)
include ha ha2 hb
theorem rs_A (hu : RT.In w3 (fun b => w1.heap.size ≤ b) u) (hu2 : ST.In w3 (fun b => w1.heap.size ≤ b) u2) :
    TwoRS w1 t t' (.pointer (some ⟨w3.heap.size, 0, none⟩)) (.pointer (some ⟨w3.heap.size + 1, 0, none⟩)) ((w3.alloc (.cells (RT.box u) 47)).alloc (.cells (ST.box u2) 50)) := by
  have hs := hb.size
  refine twoRS_of ha ha2 hb (X := fun _ => False) (by omega) hs (by omega) (((But.refl _ _).alloc _).alloc _) (fun y h => h.elim) (hu.mono fun b h hl => ⟨h, by omega, by omega⟩) (hu2.mono fun b h hl => ⟨h, by omega, by omega⟩) ?_ ?_
  · exact (Box.new w3 (RT.box u) 47).below ((Below.refl _ _).alloc (Nat.le_refl _) _)
  · have h := Box.new (w3.alloc (.cells (RT.box u) 47)) (ST.box u2) 50
    rw [show (w3.alloc (.cells (RT.box u) 47)).heap.size = w3.heap.size + 1 by simp] at h
    exact h
theorem rs_A' (hu : RT.In w3 (fun b => w1.heap.size ≤ b) u) (hu2 : ST.In w3 (fun b => w1.heap.size ≤ b) u2) :
    TwoRS w1 t t' (.pointer (some ⟨w3.heap.size + 1, 0, none⟩)) (.pointer (some ⟨w3.heap.size, 0, none⟩)) ((w3.alloc (.cells (ST.box u2) 50)).alloc (.cells (RT.box u) 47)) := by
  have hs := hb.size
  refine twoRS_of ha ha2 hb (X := fun _ => False) (by omega) (by omega) hs (((But.refl _ _).alloc _).alloc _) (fun y h => h.elim) (hu.mono fun b h hl => ⟨h, by omega, by omega⟩) (hu2.mono fun b h hl => ⟨h, by omega, by omega⟩) ?_ ?_
  · have h := Box.new (w3.alloc (.cells (ST.box u2) 50)) (RT.box u) 47
    rw [show (w3.alloc (.cells (ST.box u2) 50)).heap.size = w3.heap.size + 1 by simp] at h
    exact h
  · exact (Box.new w3 (ST.box u2) 50).below ((Below.refl _ _).alloc (Nat.le_refl _) _)
theorem rs_B {bc : Nat} {a0 a1 a2 a3 a4 a5 : Value} (hq : Box w3 bc #[a0, a1, a2, a3, a4, a5] 47) (hc : w1.heap.size ≤ bc) (hu : RT.In w3 (fun b => w1.heap.size ≤ b ∧ b ≠ bc) u) (hu2 : ST.In w3 (fun b => w1.heap.size ≤ b ∧ b ≠ bc) u2) :
    TwoRS w1 t t' (.pointer (some ⟨bc, 0, none⟩)) (.pointer (some ⟨w3.heap.size, 0, none⟩)) ((setR w3 bc u).alloc (.cells (ST.box u2) 50)) := by
  have hs := hb.size
  have hl := hq.lt
  refine twoRS_of ha ha2 hb (X := fun y => y = bc) (by omega) hc hs ((setR_but (X := fun y => y = bc) u (But.refl _ _) (fun _ => rfl)).alloc _) (fun y h => .inl h) (hu.mono fun b h hl => ⟨h.1, h.2, by omega⟩) (hu2.mono fun b h hl => ⟨h.1, h.2, by omega⟩) ?_ ?_
  · exact (setR_box hq).below ((Below.refl _ _).alloc (Nat.le_refl _) _)
  · have h := Box.new (setR w3 bc u) (ST.box u2) 50
    rw [setR_size] at h
    exact h
theorem rs_B' {bd : Nat} {a0 a1 : Value} (hq : Box w3 bd #[a0, a1] 50) (hd : w1.heap.size ≤ bd) (hu : RT.In w3 (fun b => w1.heap.size ≤ b ∧ b ≠ bd) u) (hu2 : ST.In w3 (fun b => w1.heap.size ≤ b ∧ b ≠ bd) u2) :
    TwoRS w1 t t' (.pointer (some ⟨w3.heap.size, 0, none⟩)) (.pointer (some ⟨bd, 0, none⟩)) ((setS w3 bd u2).alloc (.cells (RT.box u) 47)) := by
  have hs := hb.size
  have hl := hq.lt
  refine twoRS_of ha ha2 hb (X := fun y => y = bd) (by omega) hs hd ((setS_but (X := fun y => y = bd) u2 (But.refl _ _) (fun _ => rfl)).alloc _) (fun y h => .inr h) (hu.mono fun b h hl => ⟨h.1, by omega, h.2⟩) (hu2.mono fun b h hl => ⟨h.1, by omega, h.2⟩) ?_ ?_
  · have h := Box.new (setS w3 bd u2) (RT.box u) 47
    rw [setS_size] at h
    exact h
  · exact (setS_box hq).below ((Below.refl _ _).alloc (Nat.le_refl _) _)
theorem rs_C {bc bd : Nat} {a0 a1 a2 a3 a4 a5 c0 c1 : Value} (hq : Box w3 bc #[a0, a1, a2, a3, a4, a5] 47) (hq2 : Box w3 bd #[c0, c1] 50) (hne : bc ≠ bd) (hc : w1.heap.size ≤ bc) (hd : w1.heap.size ≤ bd)
    (hu : RT.In w3 (fun b => w1.heap.size ≤ b ∧ b ≠ bc ∧ b ≠ bd) u) (hu2 : ST.In w3 (fun b => w1.heap.size ≤ b ∧ b ≠ bc ∧ b ≠ bd) u2) :
    TwoRS w1 t t' (.pointer (some ⟨bc, 0, none⟩)) (.pointer (some ⟨bd, 0, none⟩)) (setS (setR w3 bc u) bd u2) := by
  refine twoRS_of ha ha2 hb (X := fun y => y = bc ∨ y = bd) hne hc hd (setS_but u2 (setR_but u (But.refl _ _) (fun _ => .inl rfl)) (fun _ => .inr rfl)) (fun y h => h) hu hu2 ?_ ?_
  · exact (setR_box hq).but (X := fun y => y = bd) (setS_but u2 (But.refl _ _) (fun _ => rfl)) hne
  · exact setS_box (hq2.but (X := fun y => y = bc) (setR_but u (But.refl _ _) (fun _ => rfl)) (fun e => hne e.symm))
end
end Go.Proofs.Ytkodlhjcoeljiaa
