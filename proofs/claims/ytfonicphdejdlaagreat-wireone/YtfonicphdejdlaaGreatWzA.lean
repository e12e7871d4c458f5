import Derived.Test.YtfonicphdejdlaaGreatPack12
namespace Go.Proofs.YtfonicphdejdlaaGreat
open Go.RowKit
set_option maxRecDepth 8000
set_option maxHeartbeats 2000000 in
theorem wsame_any (w : World) (S S' : Nat → Prop) (p p' : Option Addr) (n c c' : Nat) (f : Nat → Int) (h : Byts w S p n c f) (h' : Byts w S' p' n c' f) : Calls Tryz.prog 14 #[.slice p n c, .slice p' n c'] w fun x w' => x = .returned (.bool true) ∧ Below w.heap.size w w' := by
  have H := hid h
  have H' := hid h'
  have hnn := h.nn
  clear h h'
  go_enter Tryz.func14, Tryz.ntmps14
  go_wp2_with fail
  go_loopw [5] (fun x wr => ∃ j : Nat, j ≤ n ∧ x = .int .i64 j ∧ Below w.heap.size w wr) (fun x _ => n - (intOf x).toNat)
  case atStart => exact ⟨0, Nat.zero_le _, rfl, Below.refl _ _⟩
  case round =>
    obtain ⟨j, hj, rfl, hbel⟩ := hrel
    by_cases hlt : j < n
    · have hlt' : (j : Int) < (n : Int) := by omega
      obtain ⟨b1, o1, hp, _, hl1, ha⟩ := H.out.at_ (by omega)
      obtain ⟨b2, o2, hp', _, hl2, ha'⟩ := H'.out.at_ (by omega)
      subst hp hp'
      have d1 := (World.cell?_of_block (a := ⟨b1, o1 + j, none⟩) (hbel.block b1 hl1)).trans (ha j hlt)
      have d2 := (World.cell?_of_block (a := ⟨b2, o2 + j, none⟩) (hbel.block b2 hl2)).trans (ha' j hlt)
      have HB := hid hbel
      clear ha ha' hbel
      go_wp2_with fail
      go_region
      go_wp2
      go_roundw
      case rel => exact ⟨j + 1, by omega, by go_num, HB.out.drew⟩
      case measure => simp [intOf]; omega
    · obtain rfl : j = n := by omega
      have hlt' : ¬ (j : Int) < (j : Int) := by omega
      have HB := hid hbel
      clear hbel
      go_wp2
      go_ret
      exact ⟨rfl, HB.out⟩
/-- two values without items that are the same -/
structure Leaf (t u : VT) : Prop where
  kind : u.kind = t.kind
  int : u.int = t.int
  text : u.text = t.text
  n : t.n = 0
  n' : u.n = 0
set_option maxHeartbeats 2000000 in
theorem sameValue_leaf (t u : VT) (h : Leaf t u) (w : World) : Calls Tryz.prog 32 #[t.val, u.val] w fun x w' => x = .returned (.bool true) ∧ Below w.heap.size w w' := by
  obtain ⟨h1, h2, h3, h4, h5⟩ := h
  unfold VT.val
  rw [h1, h2, h3, h4, h5]
  clear h1 h2 h3 h4 h5
  go_enter Tryz.func32, Tryz.ntmps32
  go_wp2_with fail
  go_loopw [5] (fun x wr => x = .int .i64 0 ∧ Below w.heap.size w wr ∧ Box wr w.heap.size #[.int .i64 t.kind, .int .i64 t.int, .string t.text, .slice t.p 0 t.c] 24) (fun x _ => 0 - (intOf x).toNat)
  case atStart => exact ⟨rfl, ((Below.refl _ _).alloc (Nat.le_refl _) _).alloc (by simp) _, (Box.new w _ _).below ((Below.refl _ _).alloc (Nat.le_refl _) _)⟩
  case round =>
    obtain ⟨rfl, hb, hx⟩ := hrel
    have c3 := hx.cell 3
    simp only [List.getElem?_toArray, List.getElem?_cons_zero, List.getElem?_cons_succ] at c3
    have HB := hid hb
    clear hb hx
    go_wp2
    go_ret
    exact ⟨rfl, HB.out⟩
/-- two records without items in their values that are the same -/
structure LeafR (r q : RT) : Prop where
  key : q.key = r.key
  v : Leaf r.v q.v
  n : q.n = r.n
  loop : ∀ j, j < r.n → q.loop j = r.loop j
set_option maxHeartbeats 4000000 in
theorem sameRecord_leaf (r q : RT) (h : LeafR r q) (w : World) (S : Nat → Prop) (hr : RT.In w S r) (hq : RT.In w S q) (hS : ∀ b, S b → b < w.heap.size) : Calls Tryz.prog 16 #[r.val, q.val] w fun x w' => x = .returned (.bool true) ∧ Below w.heap.size w w' := by
  have HV := fun W => sameValue_leaf r.v q.v h.v W
  have hk := h.key
  have hn := h.n
  have HLp := hid h.loop
  have hb0 : Below w.heap.size w ((w.alloc (.cells #[.string r.key, .int .i64 r.v.kind, .int .i64 r.v.int, .string r.v.text, .slice r.v.p r.v.n r.v.c, .slice r.p r.n r.c] 27)).alloc (.cells #[.string q.key, .int .i64 q.v.kind, .int .i64 q.v.int, .string q.v.text, .slice q.v.p q.v.n q.v.c, .slice q.p q.n q.c] 27)) := ((Below.refl _ _).alloc (Nat.le_refl _) _).alloc (by simp) _
  have hx0 := (Box.new w #[.string r.key, .int .i64 r.v.kind, .int .i64 r.v.int, .string r.v.text, .slice r.v.p r.v.n r.v.c, .slice r.p r.n r.c] 27).below ((Below.refl _ _).alloc (Nat.le_refl _) (.cells #[.string q.key, .int .i64 q.v.kind, .int .i64 q.v.int, .string q.v.text, .slice q.v.p q.v.n q.v.c, .slice q.p q.n q.c] 27))
  have hy0 := Box.new (w.alloc (.cells #[.string r.key, .int .i64 r.v.kind, .int .i64 r.v.int, .string r.v.text, .slice r.v.p r.v.n r.v.c, .slice r.p r.n r.c] 27)) #[.string q.key, .int .i64 q.v.kind, .int .i64 q.v.int, .string q.v.text, .slice q.v.p q.v.n q.v.c, .slice q.p q.n q.c] 27
  rw [show (w.alloc (.cells #[.string r.key, .int .i64 r.v.kind, .int .i64 r.v.int, .string r.v.text, .slice r.v.p r.v.n r.v.c, .slice r.p r.n r.c] 27)).heap.size = w.heap.size + 1 by simp] at hy0
  rw [hk, hn] at hy0 hx0 hb0
  have HX0 := hid hx0
  have HY0 := hid hy0
  have HB0 := hid hb0
  have hrn := hr.l.nn
  have HIr := hid hr.l
  have HIq := hid hq.l
  have HS := hid hS
  rw [hn] at HIq
  unfold RT.val
  rw [hk, hn]
  unfold VT.val at HV
  clear hk hn h hr hq hS hb0 hx0 hy0
  go_enter Tryz.func16, Tryz.ntmps16
  go_wp2_with fail
  refine (HV _).mono ?_
  rintro x w1 ⟨rfl, hb1⟩
  have hx1 := HX0.out.below hb1
  have hy1 := HY0.out.below hb1
  have c5 := hx1.cell 5
  have d5 := hy1.cell 5
  simp only [List.getElem?_toArray, List.getElem?_cons_zero, List.getElem?_cons_succ] at c5 d5
  have HX1 := hid hx1
  have HY1 := hid hy1
  have HB1 := hid (HB0.out.trans (hb1.mono HB0.out.size))
  clear hx1 hy1 hb1 HV HX0 HY0 HB0
  go_wp2_with fail
  go_loopw [5] (fun x wr => ∃ j : Nat, j ≤ r.n ∧ x = .int .i64 j ∧ Below w1.heap.size w1 wr) (fun x _ => r.n - (intOf x).toNat)
  case atStart => exact ⟨0, Nat.zero_le _, rfl, Below.refl _ _⟩
  case round =>
    obtain ⟨j, hj, rfl, hbel⟩ := hrel
    have hx2 := HX1.out.below hbel
    have hy2 := HY1.out.below hbel
    have a5 := hx2.cell 5
    have b5 := hy2.cell 5
    simp only [List.getElem?_toArray, List.getElem?_cons_zero, List.getElem?_cons_succ] at a5 b5
    have hs1 := HB1.out.size
    have HB2 := hid hbel
    by_cases hlt : j < r.n
    · have hlt' : (j : Int) < (r.n : Int) := by omega
      obtain ⟨b1, o1, hp, hSb1, _, ha⟩ := HIr.out.at_ (by omega)
      obtain ⟨b2, o2, hp', hSb2, _, ha'⟩ := HIq.out.at_ (by omega)
      have hl1 := HS.out b1 hSb1
      have hl2 := HS.out b2 hSb2
      have e1 := (World.cell?_of_block (a := ⟨b1, o1 + j, none⟩) ((hbel.block b1 (by omega)).trans (HB1.out.block b1 hl1))).trans (ha j hlt)
      have e2 := (World.cell?_of_block (a := ⟨b2, o2 + j, none⟩) ((hbel.block b2 (by omega)).trans (HB1.out.block b2 hl2))).trans (ha' j hlt)
      rw [HLp.out j hlt] at e2
      rw [hp] at a5
      rw [hp'] at b5
      clear ha ha' hbel hx2 hy2 c5 d5
      go_wp2_with fail
      go_region
      go_wp2
      go_roundw
      case rel => exact ⟨j + 1, by omega, by go_num, HB2.out.drew⟩
      case measure => simp [intOf]; omega
    · obtain rfl : j = r.n := by omega
      have hlt' : ¬ (r.n : Int) < (r.n : Int) := by omega
      clear hbel hx2 hy2
      go_wp2
      go_ret
      exact ⟨rfl, HB1.out.trans (HB2.out.mono hs1)⟩
end Go.Proofs.YtfonicphdejdlaaGreat
