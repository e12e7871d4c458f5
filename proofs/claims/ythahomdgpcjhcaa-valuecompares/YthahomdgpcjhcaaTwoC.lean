import Derived.Test.YthahomdgpcjhcaaRoomV
namespace Go.Proofs.Ythahomdgpcjhcaa
open Go.RowKit
set_option maxRecDepth 8000

/-- a value's cells as a block has them -/
def vcells (u : VT) : Array Value := #[.int .i64 u.kind, .int .i64 u.int, .string u.text, .slice u.p u.n u.c]
/-- behind the two copies: two new boxes, the copies elsewhere in new memory -/
def TwoCopies (w1 : World) (t t' : VT) (s5 s6 : Value) (wx : World) : Prop :=
  ∃ bc bd u u2, s5 = .pointer (some ⟨bc, 0, none⟩) ∧ s6 = .pointer (some ⟨bd, 0, none⟩) ∧ bc ≠ bd ∧ w1.heap.size ≤ bc ∧ w1.heap.size ≤ bd ∧
    Box wx bc #[.int .i64 u.kind, .int .i64 u.int, .string u.text, .slice u.p u.n u.c] 24 ∧ Box wx bd #[.int .i64 u2.kind, .int .i64 u2.int, .string u2.text, .slice u2.p u2.n u2.c] 24 ∧
    VT.Alike t u ∧ VT.Alike t' u2 ∧ VT.In wx (fun b => w1.heap.size ≤ b ∧ b ≠ bc ∧ b ≠ bd) u ∧ VT.In wx (fun b => w1.heap.size ≤ b ∧ b ≠ bc ∧ b ≠ bd) u2 ∧ Below w1.heap.size w1 wx
/-- four stores into a box -/
def set4 (w : World) (b : Nat) (u : VT) : World :=
  (((w.setCell ⟨b, 0, none⟩ (.int .i64 u.kind)).setCell ⟨b, 1, none⟩ (.int .i64 u.int)).setCell ⟨b, 2, none⟩ (.string u.text)).setCell ⟨b, 3, none⟩ (.slice u.p u.n u.c)
theorem set4_size (w : World) (b : Nat) (u : VT) : (set4 w b u).heap.size = w.heap.size := by simp [set4, World.setCell]
theorem set4_box {w : World} {b : Nat} {u : VT} {z : Array Value} {e : TypeId} (h : Box w b z e) (hz : z.size = 4) : Box (set4 w b u) b #[.int .i64 u.kind, .int .i64 u.int, .string u.text, .slice u.p u.n u.c] e := by
  have h4 := (((h.set 0 (.int .i64 u.kind)).set 1 (.int .i64 u.int)).set 2 (.string u.text)).set 3 (.slice u.p u.n u.c)
  obtain ⟨l⟩ := z
  match l, hz with
  | [a, b, c, d], _ => simpa [set4] using h4
theorem set4_but {X : Nat → Prop} {a w : World} {b : Nat} (u : VT) (h : But X a w) (hb : b < a.heap.size → X b) : But X a (set4 w b u) :=
  (((h.setCell (p := ⟨b, 0, none⟩) hb _).setCell (p := ⟨b, 1, none⟩) hb _).setCell (p := ⟨b, 2, none⟩) hb _).setCell (p := ⟨b, 3, none⟩) hb _

/-- from what the blocks hold in the end -/
theorem two_of {w1 w3 : World} {t t' u u2 : VT} (ha : VT.Alike t u) (ha2 : VT.Alike t' u2) (hb : Below w1.heap.size w1 w3) {wx : World} {bc bd : Nat} {X : Nat → Prop} (hne : bc ≠ bd) (hc : w1.heap.size ≤ bc) (hd : w1.heap.size ≤ bd) (hx : But X w3 wx) (hX : ∀ y, X y → y = bc ∨ y = bd)
    (hu : VT.In w3 (fun b => w1.heap.size ≤ b ∧ b ≠ bc ∧ b ≠ bd) u) (hu2 : VT.In w3 (fun b => w1.heap.size ≤ b ∧ b ≠ bc ∧ b ≠ bd) u2)
    (h1 : Box wx bc #[.int .i64 u.kind, .int .i64 u.int, .string u.text, .slice u.p u.n u.c] 24) (h2 : Box wx bd #[.int .i64 u2.kind, .int .i64 u2.int, .string u2.text, .slice u2.p u2.n u2.c] 24) :
    TwoCopies w1 t t' (.pointer (some ⟨bc, 0, none⟩)) (.pointer (some ⟨bd, 0, none⟩)) wx := by
  have hno : ∀ b, (w1.heap.size ≤ b ∧ b ≠ bc ∧ b ≠ bd) → b < w3.heap.size → ¬ X b := fun b hb2 _ hx2 => by
    rcases hX b hx2 with h | h
    · exact hb2.2.1 h
    · exact hb2.2.2 h
  refine ⟨bc, bd, u, u2, rfl, rfl, hne, hc, hd, h1, h2, ha, ha2, hu.but hx hno, hu2.but hx hno, hb.trans (hx.below hb.size fun b hb2 hx2 => ?_)⟩
  rcases hX b hx2 with h | h
  · omega
  · omega
theorem two_A {w1 w3 : World} {t t' u u2 : VT} (ha : VT.Alike t u) (ha2 : VT.Alike t' u2) (hb : Below w1.heap.size w1 w3) (hu : VT.In w3 (fun b => w1.heap.size ≤ b) u) (hu2 : VT.In w3 (fun b => w1.heap.size ≤ b) u2) :
    TwoCopies w1 t t' (.pointer (some ⟨w3.heap.size, 0, none⟩)) (.pointer (some ⟨w3.heap.size + 1, 0, none⟩)) ((w3.alloc (.cells (vcells u) 24)).alloc (.cells (vcells u2) 24)) := by
  have hs := hb.size
  refine two_of ha ha2 hb (X := fun _ => False) (by omega) hs (by omega) (((But.refl _ _).alloc _).alloc _) (fun y h => h.elim) (hu.mono fun b h hl => ⟨h, by omega, by omega⟩) (hu2.mono fun b h hl => ⟨h, by omega, by omega⟩) ?_ ?_
  · exact (Box.new w3 (vcells u) 24).below ((Below.refl _ _).alloc (Nat.le_refl _) _)
  · have h := Box.new (w3.alloc (.cells (vcells u) 24)) (vcells u2) 24
    rw [show (w3.alloc (.cells (vcells u) 24)).heap.size = w3.heap.size + 1 by simp] at h
    exact h
theorem two_A' {w1 w3 : World} {t t' u u2 : VT} (ha : VT.Alike t u) (ha2 : VT.Alike t' u2) (hb : Below w1.heap.size w1 w3) (hu : VT.In w3 (fun b => w1.heap.size ≤ b) u) (hu2 : VT.In w3 (fun b => w1.heap.size ≤ b) u2) :
    TwoCopies w1 t t' (.pointer (some ⟨w3.heap.size + 1, 0, none⟩)) (.pointer (some ⟨w3.heap.size, 0, none⟩)) ((w3.alloc (.cells (vcells u2) 24)).alloc (.cells (vcells u) 24)) := by
  have hs := hb.size
  refine two_of ha ha2 hb (X := fun _ => False) (by omega) (by omega) hs (((But.refl _ _).alloc _).alloc _) (fun y h => h.elim) (hu.mono fun b h hl => ⟨h, by omega, by omega⟩) (hu2.mono fun b h hl => ⟨h, by omega, by omega⟩) ?_ ?_
  · have h := Box.new (w3.alloc (.cells (vcells u2) 24)) (vcells u) 24
    rw [show (w3.alloc (.cells (vcells u2) 24)).heap.size = w3.heap.size + 1 by simp] at h
    exact h
  · exact (Box.new w3 (vcells u2) 24).below ((Below.refl _ _).alloc (Nat.le_refl _) _)
theorem two_B {w1 w3 : World} {t t' u u2 : VT} (ha : VT.Alike t u) (ha2 : VT.Alike t' u2) (hb : Below w1.heap.size w1 w3) {bc : Nat} {z : Array Value} (hq : Box w3 bc z 24) (hz : z.size = 4) (hc : w1.heap.size ≤ bc) (hu : VT.In w3 (fun b => w1.heap.size ≤ b ∧ b ≠ bc) u) (hu2 : VT.In w3 (fun b => w1.heap.size ≤ b ∧ b ≠ bc) u2) :
    TwoCopies w1 t t' (.pointer (some ⟨bc, 0, none⟩)) (.pointer (some ⟨w3.heap.size, 0, none⟩)) ((set4 w3 bc u).alloc (.cells (vcells u2) 24)) := by
  have hs := hb.size
  have hl := hq.lt
  refine two_of ha ha2 hb (X := fun y => y = bc) (by omega) hc hs ((set4_but (X := fun y => y = bc) u (But.refl _ _) (fun _ => rfl)).alloc _) (fun y h => .inl h) (hu.mono fun b h hl => ⟨h.1, h.2, by omega⟩) (hu2.mono fun b h hl => ⟨h.1, h.2, by omega⟩) ?_ ?_
  · exact (set4_box hq hz).below ((Below.refl _ _).alloc (Nat.le_refl _) _)
  · have h := Box.new (set4 w3 bc u) (vcells u2) 24
    rw [set4_size] at h
    exact h
theorem two_B' {w1 w3 : World} {t t' u u2 : VT} (ha : VT.Alike t u) (ha2 : VT.Alike t' u2) (hb : Below w1.heap.size w1 w3) {bd : Nat} {z : Array Value} (hq : Box w3 bd z 24) (hz : z.size = 4) (hd : w1.heap.size ≤ bd) (hu : VT.In w3 (fun b => w1.heap.size ≤ b ∧ b ≠ bd) u) (hu2 : VT.In w3 (fun b => w1.heap.size ≤ b ∧ b ≠ bd) u2) :
    TwoCopies w1 t t' (.pointer (some ⟨w3.heap.size, 0, none⟩)) (.pointer (some ⟨bd, 0, none⟩)) ((set4 w3 bd u2).alloc (.cells (vcells u) 24)) := by
  have hs := hb.size
  have hl := hq.lt
  refine two_of ha ha2 hb (X := fun y => y = bd) (by omega) hs hd ((set4_but (X := fun y => y = bd) u2 (But.refl _ _) (fun _ => rfl)).alloc _) (fun y h => .inr h) (hu.mono fun b h hl => ⟨h.1, by omega, h.2⟩) (hu2.mono fun b h hl => ⟨h.1, by omega, h.2⟩) ?_ ?_
  · have h := Box.new (set4 w3 bd u2) (vcells u) 24
    rw [set4_size] at h
    exact h
  · exact (set4_box hq hz).below ((Below.refl _ _).alloc (Nat.le_refl _) _)
theorem two_C {w1 w3 : World} {t t' u u2 : VT} (ha : VT.Alike t u) (ha2 : VT.Alike t' u2) (hb : Below w1.heap.size w1 w3) {bc bd : Nat} {z z2 : Array Value} (hq : Box w3 bc z 24) (hz : z.size = 4) (hq2 : Box w3 bd z2 24) (hz2 : z2.size = 4) (hne : bc ≠ bd) (hc : w1.heap.size ≤ bc) (hd : w1.heap.size ≤ bd)
    (hu : VT.In w3 (fun b => w1.heap.size ≤ b ∧ b ≠ bc ∧ b ≠ bd) u) (hu2 : VT.In w3 (fun b => w1.heap.size ≤ b ∧ b ≠ bc ∧ b ≠ bd) u2) :
    TwoCopies w1 t t' (.pointer (some ⟨bc, 0, none⟩)) (.pointer (some ⟨bd, 0, none⟩)) (set4 (set4 w3 bc u) bd u2) := by
  refine two_of ha ha2 hb (X := fun y => y = bc ∨ y = bd) hne hc hd (set4_but u2 (set4_but u (But.refl _ _) (fun _ => .inl rfl)) (fun _ => .inr rfl)) (fun y h => h) hu hu2 ?_ ?_
  · exact (set4_box hq hz).but (X := fun y => y = bd) (set4_but u2 (But.refl _ _) (fun _ => rfl)) hne
  · exact set4_box (hq2.but (X := fun y => y = bc) (set4_but u (But.refl _ _) (fun _ => rfl)) (fun e => hne e.symm)) hz2
end Go.Proofs.Ythahomdgpcjhcaa
