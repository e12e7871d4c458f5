import Derived.Test.YtieknmpdmdbdlaaGreatDoorExD
namespace Go.Proofs.YtieknmpdmdbdlaaGreatDoor
open Go.RowKit
set_option maxRecDepth 8000

/-- only block b, and new ones, change -/
structure Only (b : Nat) (w w' : World) : Prop where
  os : w'.os = w.os
  tape : w'.tape = w.tape
  output : w'.output = w.output
  size : w.heap.size ≤ w'.heap.size
  block : ∀ k, k < w.heap.size → k ≠ b → w'.heap[k]? = w.heap[k]?
theorem Only.refl (b : Nat) (w : World) : Only b w w := ⟨rfl, rfl, rfl, Nat.le_refl _, fun _ _ _ => rfl⟩
theorem Only.trans {b : Nat} {x y z : World} (h : Only b x y) (k : Only b y z) : Only b x z :=
  ⟨k.os.trans h.os, k.tape.trans h.tape, k.output.trans h.output, Nat.le_trans h.size k.size, fun j hj hb => (k.block j (Nat.lt_of_lt_of_le hj h.size) hb).trans (h.block j hj hb)⟩
theorem Only.of_below {b : Nat} {w w' : World} (h : Below w.heap.size w w') : Only b w w' := ⟨h.os, h.tape, h.output, h.size, fun k hk _ => h.block k hk⟩
theorem Only.below {b B : Nat} {w w' : World} (h : Only b w w') (hb : B ≤ b) (hB : B ≤ w.heap.size) : Below B w w' := ⟨h.os, h.tape, h.output, h.size, fun k hk => h.block k (by omega) (by omega)⟩
theorem Only.alloc {b : Nat} {x w : World} (h : Only b x w) (o : Obj) : Only b x (w.alloc o) := h.trans (.of_below ((Below.refl _ _).alloc (Nat.le_refl _) o))
theorem Only.setCell {b : Nat} {x w : World} (h : Only b x w) (o : Nat) (u : Value) : Only b x (w.setCell ⟨b, o, none⟩ u) :=
  h.trans ⟨rfl, rfl, rfl, by simp, fun k _ hb => Below.heap_setCell w ⟨b, o, none⟩ u k hb⟩
theorem Only.cell {b : Nat} {w w' : World} (h : Only b w w') {p : Addr} {v : Value} (hp : w.cell? p = some v) (hb : p.block ≠ b) : w'.cell? p = some v :=
  (World.cell?_of_block (w := w) (h.block p.block (cell_lt hp) hb)).trans hp

/-- the scanner in block pb -/
structure Sc (w : World) (pb : Nat) (s : ByteArray) (a : Nat) : Prop where
  c0 : w.cell? ⟨pb, 0, none⟩ = some (.string s)
  c1 : w.cell? ⟨pb, 1, none⟩ = some (.int .i64 (a : Int))
  f1 : w.frozen? ⟨pb, 1, none⟩ = false
theorem Sc.on {w w' : World} {pb : Nat} {s : ByteArray} {a : Nat} (h : Sc w pb s a) (hb : Below w.heap.size w w') : Sc w' pb s a :=
  ⟨cell_on h.c0 hb, cell_on h.c1 hb, (hb.frozen (p := ⟨pb, 1, none⟩) (cell_lt h.c1)).trans h.f1⟩

theorem rest_any (pb : Nat) (s : ByteArray) (a : Nat) (w : World) (h : Sc w pb s a) (ha : a ≤ s.size) : Calls Tryz.prog 26 #[.pointer (some ⟨pb, 0, none⟩)] w fun e w' => Below w.heap.size w w' ∧ e = .returned (.string (tl s a)) := by
  have c0 := h.c0
  have c1 := h.c1
  have g1 : ¬ ((a : Int) < 0) := by omega
  have g2 : ¬ ((s.size : Int) < (a : Int)) := by omega
  have g3 : ¬ (s.size < a) := by omega
  clear h
  go_enter Tryz.func26, Tryz.ntmps26
  go_wp2
  go_big_quiet (fail)
  go_wp2
  go_ret
  exact ⟨below_dn (Below.refl _ _) _, rfl⟩

/-- the scanner went on: only its place, and new blocks, change -/
structure Nx (pb : Nat) (w w' : World) (a : Nat) : Prop where
  only : Only pb w w'
  other : ∀ o, o ≠ 1 → w'.cell? ⟨pb, o, none⟩ = w.cell? ⟨pb, o, none⟩
  at_ : w'.cell? ⟨pb, 1, none⟩ = some (.int .i64 (a : Int))
  froz : ∀ o, w'.frozen? ⟨pb, o, none⟩ = w.frozen? ⟨pb, o, none⟩
theorem Nx.sc {pb : Nat} {w w' : World} {s : ByteArray} {a a' : Nat} (h : Nx pb w w' a') (k : Sc w pb s a) : Sc w' pb s a' :=
  ⟨(h.other 0 (by decide)).trans k.c0, h.at_, (h.froz 1).trans k.f1⟩
theorem Nx.trans {pb : Nat} {x y z : World} {a b : Nat} (h : Nx pb x y a) (k : Nx pb y z b) : Nx pb x z b :=
  ⟨h.only.trans k.only, fun o ho => (k.other o ho).trans (h.other o ho), k.at_, fun o => (k.froz o).trans (h.froz o)⟩
theorem Nx.of_below {pb : Nat} {w w' : World} {s : ByteArray} {a : Nat} (k : Sc w pb s a) (h : Below w.heap.size w w') : Nx pb w w' a :=
  have hl : pb < w.heap.size := cell_lt k.c1
  ⟨.of_below h, fun o _ => h.cell (p := ⟨pb, o, none⟩) hl, (h.cell (p := ⟨pb, 1, none⟩) hl).trans k.c1, fun o => h.frozen (p := ⟨pb, o, none⟩) hl⟩
theorem Nx.set {pb : Nat} {w : World} {s : ByteArray} {a : Nat} (k : Sc w pb s a) (b : Nat) : Nx pb w (w.setCell ⟨pb, 1, none⟩ (.int .i64 (b : Int))) b :=
  ⟨(Only.refl _ _).setCell _ _, fun o ho => World.cell?_setCell_other _ _ _ _ (by intro h; cases h; exact ho rfl), World.cell?_setCell_same _ _ _ k.c1, fun o => World.frozen?_setCell _ _ _ _⟩

theorem cut_any (pb : Nat) (s : ByteArray) (a n : Nat) (w : World) (h : Sc w pb s a) (ha : a + n ≤ s.size) (hs : s.size ≤ 1000) : Calls Tryz.prog 36 #[.pointer (some ⟨pb, 0, none⟩), .int .i64 (n : Int)] w fun e w' => Nx pb w w' (a + n) ∧ e = .returned (.string ((tl s a).extract 0 n)) := by
  have HR := hid (rest_any pb s a w h (by omega))
  have H := hid h
  have hz := tl_size s a
  generalize tl s a = r at *
  have g1 : ¬ ((n : Int) < 0) := by omega
  have g2 : ¬ ((r.size : Int) < (n : Int)) := by omega
  have g3 : ¬ (r.size < n) := by omega
  clear h
  go_enter Tryz.func36, Tryz.ntmps36
  go_wp2_with fail
  refine HR.out.mono ?_
  rintro e w1 ⟨hb1, rfl⟩
  have c1 := (H.out.on hb1).c1
  have f1 := (H.out.on hb1).f1
  have HB := hid hb1
  clear hb1
  go_wp2_with fail
  go_ret
  exact ⟨(Nx.of_below H.out HB.out).trans (Nx.set (H.out.on HB.out) (a + n)), rfl⟩
end Go.Proofs.YtieknmpdmdbdlaaGreatDoor
