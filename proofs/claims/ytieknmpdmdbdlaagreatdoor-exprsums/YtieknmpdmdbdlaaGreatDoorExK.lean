import Derived.Test.YtieknmpdmdbdlaaGreatDoorExI
import Derived.Test.YtieknmpdmdbdlaaGreatDoorExJ
namespace Go.Proofs.YtieknmpdmdbdlaaGreatDoor
open Go.RowKit
set_option maxRecDepth 8000

/-- a token without a value -/
def tokV (k ta : Int) (nm : ByteArray) : Value := .agg #[.int .i64 k, .int .i64 ta, .string nm, .int .i64 0, .int .i64 0, .string ⟨#[]⟩, .slice none 0 0]
/-- the parser in block pb -/
structure Ps (w : World) (pb : Nat) (s : ByteArray) (a : Nat) (k ta : Int) (nm : ByteArray) (op : Int) : Prop where
  c0 : w.cell? ⟨pb, 0, none⟩ = some (.string s)
  c1 : w.cell? ⟨pb, 1, none⟩ = some (.int .i64 (a : Int))
  c2 : w.cell? ⟨pb, 2, none⟩ = some (.int .i64 k)
  c3 : w.cell? ⟨pb, 3, none⟩ = some (.int .i64 ta)
  c4 : w.cell? ⟨pb, 4, none⟩ = some (.string nm)
  c5 : w.cell? ⟨pb, 5, none⟩ = some (.int .i64 0)
  c6 : w.cell? ⟨pb, 6, none⟩ = some (.int .i64 0)
  c7 : w.cell? ⟨pb, 7, none⟩ = some (.string ⟨#[]⟩)
  c8 : w.cell? ⟨pb, 8, none⟩ = some (.slice none 0 0)
  c9 : w.cell? ⟨pb, 9, none⟩ = some (.int .i64 op)
  fz : ∀ o, w.frozen? ⟨pb, o, none⟩ = false
theorem Ps.sc {w : World} {pb : Nat} {s : ByteArray} {a : Nat} {k ta : Int} {nm : ByteArray} {op : Int} (h : Ps w pb s a k ta nm op) : Sc w pb s a := ⟨h.c0, h.c1, h.fz 1⟩
theorem Ps.lt {w : World} {pb : Nat} {s : ByteArray} {a : Nat} {k ta : Int} {nm : ByteArray} {op : Int} (h : Ps w pb s a k ta nm op) : pb < w.heap.size := cell_lt h.c0
theorem Ps.on {w w' : World} {pb : Nat} {s : ByteArray} {a : Nat} {k ta : Int} {nm : ByteArray} {op : Int} (h : Ps w pb s a k ta nm op) (hb : Below w.heap.size w w') : Ps w' pb s a k ta nm op :=
  ⟨cell_on h.c0 hb, cell_on h.c1 hb, cell_on h.c2 hb, cell_on h.c3 hb, cell_on h.c4 hb, cell_on h.c5 hb, cell_on h.c6 hb, cell_on h.c7 hb, cell_on h.c8 hb, cell_on h.c9 hb, fun o => (hb.frozen (p := ⟨pb, o, none⟩) h.lt).trans (h.fz o)⟩
theorem Ps.nx {w w' : World} {pb : Nat} {s : ByteArray} {a a' : Nat} {k ta : Int} {nm : ByteArray} {op : Int} (h : Ps w pb s a k ta nm op) (hn : Nx pb w w' a') : Ps w' pb s a' k ta nm op :=
  ⟨(hn.other 0 (by decide)).trans h.c0, hn.at_, (hn.other 2 (by decide)).trans h.c2, (hn.other 3 (by decide)).trans h.c3, (hn.other 4 (by decide)).trans h.c4, (hn.other 5 (by decide)).trans h.c5, (hn.other 6 (by decide)).trans h.c6, (hn.other 7 (by decide)).trans h.c7, (hn.other 8 (by decide)).trans h.c8, (hn.other 9 (by decide)).trans h.c9, fun o => (hn.froz o).trans (h.fz o)⟩

theorem Ps.tok {w : World} {pb : Nat} {s : ByteArray} {a : Nat} {k ta : Int} {nm : ByteArray} {op : Int} (h : Ps w pb s a k ta nm op) (k' ta' : Int) (nm' : ByteArray) :
    Ps (((((((w.setCell ⟨pb, 2, none⟩ (.int .i64 k')).setCell ⟨pb, 3, none⟩ (.int .i64 ta')).setCell ⟨pb, 4, none⟩ (.string nm')).setCell ⟨pb, 5, none⟩ (.int .i64 0)).setCell ⟨pb, 6, none⟩ (.int .i64 0)).setCell ⟨pb, 7, none⟩ (.string ⟨#[]⟩)).setCell ⟨pb, 8, none⟩ (.slice none 0 0)) pb s a k' ta' nm' op := by
  obtain ⟨h0, h1, h2, h3, h4, h5, h6, h7, h8, h9, hf⟩ := h
  exact ⟨by simp [go_sem, h0], by simp [go_sem, h1], by simp [go_sem, h2], by simp [go_sem, h3], by simp [go_sem, h4], by simp [go_sem, h5], by simp [go_sem, h6], by simp [go_sem, h7], by simp [go_sem, h8], by simp [go_sem, h9], fun o => by simp [hf o]⟩
theorem Ps.other {w : World} {pb : Nat} {s : ByteArray} {a : Nat} {k ta : Int} {nm : ByteArray} {op : Int} (h : Ps w pb s a k ta nm op) {tb : Nat} (ht : tb ≠ pb) (o : Nat) (u : Value) : Ps (w.setCell ⟨tb, o, none⟩ u) pb s a k ta nm op := by
  have hc : ∀ q, (w.setCell ⟨tb, o, none⟩ u).cell? ⟨pb, q, none⟩ = w.cell? ⟨pb, q, none⟩ := fun q => World.cell?_setCell_other _ _ _ _ (by intro h; cases h; exact ht rfl)
  exact ⟨(hc _).trans h.c0, (hc _).trans h.c1, (hc _).trans h.c2, (hc _).trans h.c3, (hc _).trans h.c4, (hc _).trans h.c5, (hc _).trans h.c6, (hc _).trans h.c7, (hc _).trans h.c8, (hc _).trans h.c9, fun q => (World.frozen?_setCell _ _ _ _).trans (h.fz q)⟩
theorem Only.new {pb : Nat} {x w : World} {tb : Nat} (h : Only pb x w) (ht : x.heap.size ≤ tb) (o : Nat) (u : Value) : Only pb x (w.setCell ⟨tb, o, none⟩ u) :=
  ⟨h.os, h.tape, h.output, by simpa using h.size, fun k hk hb => (Below.heap_setCell w ⟨tb, o, none⟩ u k (by simp; omega)).trans (h.block k hk hb)⟩

theorem advance_any (pb : Nat) (s : ByteArray) (a a' : Nat) (k ta k' ta' : Int) (nm nm' : ByteArray) (op : Int) (w : World) (h : Ps w pb s a k ta nm op)
    (HN : ∀ w1, Sc w1 pb s a → Calls Tryz.prog 19 #[.pointer (some ⟨pb, 0, none⟩)] w1 fun e w' => Nx pb w1 w' a' ∧ e = .returned (tokV k' ta' nm')) :
    Calls Tryz.prog 15 #[.pointer (some ⟨pb, 0, none⟩)] w fun e w' => Only pb w w' ∧ Ps w' pb s a' k' ta' nm' op ∧ e = .returned (tokV k ta nm) := by
  have HH := hid HN
  have H := hid h
  have x2 := cell_al h.c2
  have x3 := cell_al h.c3
  have x4 := cell_al h.c4
  have x5 := cell_al h.c5
  have x6 := cell_al h.c6
  have x7 := cell_al h.c7
  have x8 := cell_al h.c8
  clear h HN
  unfold tokV at *
  go_enter Tryz.func15, Tryz.ntmps15
  go_wp2_with fail
  have HZ0 := hid ((Zt.new w).below ((Below.refl _ _).alloc (Nat.le_refl _) (.cells #[.int .i64 k, .int .i64 ta, .string nm, .int .i64 0, .int .i64 0, .string ⟨#[]⟩, .slice none 0 0] 53)))
  have HB0 := hid (((Below.refl w.heap.size w).alloc (Nat.le_refl _) (.cells #[.int .i64 0, .int .i64 0, .string ⟨#[]⟩, .int .i64 0, .int .i64 0, .string ⟨#[]⟩, .slice none 0 0] 53)).alloc (by simp) (.cells #[.int .i64 k, .int .i64 ta, .string nm, .int .i64 0, .int .i64 0, .string ⟨#[]⟩, .slice none 0 0] 53))
  have q0 : ((w.alloc (.cells #[.int .i64 0, .int .i64 0, .string ⟨#[]⟩, .int .i64 0, .int .i64 0, .string ⟨#[]⟩, .slice none 0 0] 53)).alloc (.cells #[.int .i64 k, .int .i64 ta, .string nm, .int .i64 0, .int .i64 0, .string ⟨#[]⟩, .slice none 0 0] 53)).cell? ⟨w.heap.size + 1, 0, none⟩ = some (.int .i64 k) := by simp [go_sem]
  have q1 : ((w.alloc (.cells #[.int .i64 0, .int .i64 0, .string ⟨#[]⟩, .int .i64 0, .int .i64 0, .string ⟨#[]⟩, .slice none 0 0] 53)).alloc (.cells #[.int .i64 k, .int .i64 ta, .string nm, .int .i64 0, .int .i64 0, .string ⟨#[]⟩, .slice none 0 0] 53)).cell? ⟨w.heap.size + 1, 1, none⟩ = some (.int .i64 ta) := by simp [go_sem]
  have q2 : ((w.alloc (.cells #[.int .i64 0, .int .i64 0, .string ⟨#[]⟩, .int .i64 0, .int .i64 0, .string ⟨#[]⟩, .slice none 0 0] 53)).alloc (.cells #[.int .i64 k, .int .i64 ta, .string nm, .int .i64 0, .int .i64 0, .string ⟨#[]⟩, .slice none 0 0] 53)).cell? ⟨w.heap.size + 1, 2, none⟩ = some (.string nm) := by simp [go_sem]
  have q3 : ((w.alloc (.cells #[.int .i64 0, .int .i64 0, .string ⟨#[]⟩, .int .i64 0, .int .i64 0, .string ⟨#[]⟩, .slice none 0 0] 53)).alloc (.cells #[.int .i64 k, .int .i64 ta, .string nm, .int .i64 0, .int .i64 0, .string ⟨#[]⟩, .slice none 0 0] 53)).cell? ⟨w.heap.size + 1, 3, none⟩ = some (.int .i64 0) := by simp [go_sem]
  have q4 : ((w.alloc (.cells #[.int .i64 0, .int .i64 0, .string ⟨#[]⟩, .int .i64 0, .int .i64 0, .string ⟨#[]⟩, .slice none 0 0] 53)).alloc (.cells #[.int .i64 k, .int .i64 ta, .string nm, .int .i64 0, .int .i64 0, .string ⟨#[]⟩, .slice none 0 0] 53)).cell? ⟨w.heap.size + 1, 4, none⟩ = some (.int .i64 0) := by simp [go_sem]
  have q5 : ((w.alloc (.cells #[.int .i64 0, .int .i64 0, .string ⟨#[]⟩, .int .i64 0, .int .i64 0, .string ⟨#[]⟩, .slice none 0 0] 53)).alloc (.cells #[.int .i64 k, .int .i64 ta, .string nm, .int .i64 0, .int .i64 0, .string ⟨#[]⟩, .slice none 0 0] 53)).cell? ⟨w.heap.size + 1, 5, none⟩ = some (.string ⟨#[]⟩) := by simp [go_sem]
  have q6 : ((w.alloc (.cells #[.int .i64 0, .int .i64 0, .string ⟨#[]⟩, .int .i64 0, .int .i64 0, .string ⟨#[]⟩, .slice none 0 0] 53)).alloc (.cells #[.int .i64 k, .int .i64 ta, .string nm, .int .i64 0, .int .i64 0, .string ⟨#[]⟩, .slice none 0 0] 53)).cell? ⟨w.heap.size + 1, 6, none⟩ = some (.slice none 0 0) := by simp [go_sem]
  clear x2 x3 x4 x5 x6 x7 x8
  generalize (w.alloc (.cells #[.int .i64 0, .int .i64 0, .string ⟨#[]⟩, .int .i64 0, .int .i64 0, .string ⟨#[]⟩, .slice none 0 0] 53)).alloc (.cells #[.int .i64 k, .int .i64 ta, .string nm, .int .i64 0, .int .i64 0, .string ⟨#[]⟩, .slice none 0 0] 53) = w0 at *
  have hp : pb < w.heap.size := H.out.lt
  have H0 := hid (H.out.on HB0.out)
  refine (HH.out w0 H0.out.sc).mono ?_
  rintro e w1 ⟨hn, rfl⟩
  have hne : ¬ w.heap.size = pb := by omega
  have hne1 : ¬ w.heap.size + 1 = pb := by omega
  replace q0 := hn.only.cell q0 hne1
  replace q1 := hn.only.cell q1 hne1
  replace q2 := hn.only.cell q2 hne1
  replace q3 := hn.only.cell q3 hne1
  replace q4 := hn.only.cell q4 hne1
  replace q5 := hn.only.cell q5 hne1
  replace q6 := hn.only.cell q6 hne1
  have HZ1 := hid (HZ0.out.only hn.only hne)
  have H1 := hid (H0.out.nx hn)
  have HO := hid ((Only.of_below (b := pb) HB0.out).trans hn.only)
  clear hn
  obtain ⟨z0, z1, z2, z3, z4, z5, z6, zf⟩ := HZ1.out
  obtain ⟨_, _, y2, y3, y4, y5, y6, y7, y8, _, yf⟩ := H1.out
  generalize hq : w.heap.size = tb at *
  have hne' : ¬ pb = tb := by omega
  have hne1' : ¬ pb = tb + 1 := by omega
  go_wp2
  refine bodyPost_ret (v := tokV k ta nm) (by simp [results, Tryz.results15, go_sem, tokV, z0, z1, z2, z3, z4, z5, z6]) rfl ⟨?_, ?_, rfl⟩
  · have ht : w.heap.size ≤ tb := by omega
    have h7 := ((((((HO.out.setCell 2 (.int .i64 k')).setCell 3 (.int .i64 ta')).setCell 4 (.string nm')).setCell 5 (.int .i64 0)).setCell 6 (.int .i64 0)).setCell 7 (.string ⟨#[]⟩)).setCell 8 (.slice none 0 0)
    exact ((((((h7.new ht _ _).new ht _ _).new ht _ _).new ht _ _).new ht _ _).new ht _ _).new ht _ _
  · exact (((((((H1.out.tok k' ta' nm').other hne _ _).other hne _ _).other hne _ _).other hne _ _).other hne _ _).other hne _ _).other hne _ _
end Go.Proofs.YtieknmpdmdbdlaaGreatDoor
