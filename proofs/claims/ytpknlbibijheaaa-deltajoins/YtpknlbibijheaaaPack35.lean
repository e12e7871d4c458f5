import Derived.Test.YtpknlbibijheaaaDnD
import Derived.Test.YtpknlbibijheaaaDmI
namespace Go.Proofs.Ytpknlbibijheaaa
open Go.RowKit
set_option maxRecDepth 8000
theorem LAlk.nl {s u : LT VT} {w : World} {S : Nat → Prop} (h : LAlk VT.Alike s u) (hu : LT.In elCell w S u) : u.nl = s.nl := by
  unfold LT.nl LT.toL
  rw [h.n, List.map_map, List.map_map]
  apply List.map_congr_left
  intro j hj
  have hj := List.mem_range.1 hj
  exact (norm_of (h.item j hj) (hu.each j (by rw [h.n]; exact hj))).symm
theorem LAlk.cells {s u : LT VT} (h : LAlk VT.Alike s u) : LsAlk s u := ⟨h.n, fun j hj => (h.item j hj).cell⟩
theorem DT.Alike.setA {d u : DT} (h : DT.Alike d u) : LAlk VT.Alike d.set u.set := ⟨h.sn, h.set⟩
theorem DT.Alike.goneL {d u : DT} (h : DT.Alike d u) : u.gone.toL = d.gone.toL := by
  unfold LT.toL
  rw [h.gn]
  apply List.map_congr_left
  intro j hj
  exact h.gone j (List.mem_range.1 hj)
theorem DT.Alike.dalk {d u : DT} (h : DT.Alike d u) : DAlk d u := ⟨h.num.symm, h.setA.cells, h.gn, fun j hj => (h.gone j hj).symm⟩
theorem LAlk.chk {sn : Int} {s u : LT VT} (h : LAlk VT.Alike s u) : chkState ⟨sn, u.p, u.n, u.c, u.item⟩ = chkState ⟨sn, s.p, s.n, s.c, s.item⟩ :=
  (chkState_alike (s := ⟨sn, s.p, s.n, s.c, s.item⟩) (u := ⟨sn, u.p, u.n, u.c, u.item⟩) ⟨rfl, h.n, h.item⟩).symm
theorem hasK_alike {s u : LT VT} (h : LAlk VT.Alike s u) (k : ByteArray) : hasK u.toL k = hasK s.toL k := by
  unfold hasK LT.toL
  rw [h.n, List.any_map, List.any_map]
  have key : ∀ l : List Nat, (∀ j ∈ l, j < s.n) → (l.any ((fun c : VT => c.text.toList == k.toList) ∘ u.item)) = (l.any ((fun c : VT => c.text.toList == k.toList) ∘ s.item)) := by
    intro l
    induction l with
    | nil => intro _; rfl
    | cons a t ih =>
      intro hl
      simp only [List.any_cons, Function.comp]
      rw [(h.item a (hl a List.mem_cons_self)).text]
      exact congrArg _ (ih fun j hj => hl j (List.mem_cons_of_mem _ hj))
  exact key _ fun j hj => List.mem_range.1 hj
theorem DT.Alike.chk {d u : DT} (h : DT.Alike d u) : chkD u = chkD d := by
  unfold chkD
  have e1 : chkState ⟨u.num, u.set.p, u.set.n, u.set.c, u.set.item⟩ = chkState ⟨d.num, d.set.p, d.set.n, d.set.c, d.set.item⟩ := by rw [h.num]; exact h.setA.chk
  rw [e1, h.gn]
  have e2 : firstC (chkGone u.set.toL u.gone.item) d.gone.n = firstC (chkGone d.set.toL d.gone.item) d.gone.n := by
    refine firstC_congr fun j hj => ?_
    unfold chkGone
    rw [h.gone j hj, hasK_alike h.setA]
    by_cases h0 : 0 < j
    · rw [h.gone (j - 1) (by omega)]
    · simp [h0]
  rw [e2]
theorem applyE_alike {sn : Int} {s xs : LT VT} {d yd : DT} {w : World} {S : Nat → Prop} (hs : LAlk VT.Alike s xs) (hd : DT.Alike d yd) (ix : LT.In elCell w S xs) (iy : DT.In w S yd) : applyE sn xs yd = applyE sn s d := by
  have e1 : chkState ⟨sn, xs.p, xs.n, xs.c, xs.item⟩ = chkState ⟨sn, s.p, s.n, s.c, s.item⟩ := hs.chk
  have e2 := hd.chk
  by_cases h1 : chkState ⟨sn, s.p, s.n, s.c, s.item⟩ = 0
  · by_cases h2 : chkD d = 0
    · have a := applyE_val h1 h2
      have b := applyE_val (e1.trans h1) (e2.trans h2)
      have n1 := hs.nl ix
      have n2 : yd.nS = d.nS := hd.setA.nl iy.set
      have n3 := hd.goneL
      have kk : ∀ g, keyIn xs.toL g ↔ keyIn s.toL g := fun g => by rw [← keyIn_nl2, n1, keyIn_nl2]
      rw [n1, n2, n3] at b
      by_cases hg : ∃ g ∈ d.gone.toL, ¬ keyIn s.toL g
      · obtain ⟨g, g1, g2⟩ := hg
        rw [a.1 ⟨g, g1, g2⟩, b.1 ⟨g, g1, fun h => g2 ((kk g).1 h)⟩]
      · have hall : ∀ g ∈ d.gone.toL, keyIn s.toL g := fun g hg1 => Classical.byContradiction fun hn => hg ⟨g, hg1, hn⟩
        rw [a.2 hall, b.2 fun g hg1 => (kk g).2 (hall g hg1)]
    · unfold applyE
      rw [e1, e2]
      simp [h1, h2]
  · unfold applyE
    rw [e1]
    simp [h1]
theorem CSz.alike {s u : LT VT} (h : LAlk VT.Alike s u) (hz : CSz s) : CSz u := ⟨by rw [h.n]; exact hz.n, fun j hj => by rw [(h.item j (by rw [← h.n]; exact hj)).total]; exact hz.item j (by rw [← h.n]; exact hj)⟩
theorem DSz.alike {d u : DT} (h : DT.Alike d u) (hz : DSz d) : DSz u := ⟨by rw [h.sn]; exact hz.set, by rw [h.gn]; exact hz.gone, fun j hj => by rw [(h.set j (by rw [← h.sn]; exact hj)).total]; exact hz.item j (by rw [← h.sn]; exact hj)⟩
/-- what Apply makes of the copies is what it makes of the things -/
theorem Apd.same {s xs v t : LT VT} {d yd : DT} {w : World} {S : Nat → Prop} (hs : LAlk VT.Alike s xs) (hd : DT.Alike d yd) (ix : LT.In elCell w S xs) (iy : DT.In w S yd) (h1 : Apd s d t) (h2 : Apd xs yd v) : LsAlk t v := by
  refine LsAlk.of ?_
  rw [h1.nl, h2.nl, hs.nl ix, hd.goneL]
  have n2 : yd.nS = d.nS := hd.setA.nl iy.set
  rw [n2]
end Go.Proofs.Ytpknlbibijheaaa

namespace Go.Proofs.Ytpknlbibijheaaa
open Go.RowKit
set_option maxRecDepth 8000
/-- while two deltas are copied into two new variables: what is done, in any order -/
structure R4 (W : World) (c d : DT) (D : Nat → Prop) (wx : World) (x0 x1 x2 x3 x4 x5 : Value) (b4 b5 : Nat) (xs yd : DT) : Prop where
  bel : Below W.heap.size W wx
  f0 : D 0 → x0 = .agg #[.int .i64 c.num, .slice c.set.p c.set.n c.set.c, .slice c.gone.p c.gone.n c.gone.c]
  f2 : D 2 → x2 = .agg #[.int .i64 d.num, .slice d.set.p d.set.n d.set.c, .slice d.gone.p d.gone.n d.gone.c]
  f1 : D 1 → x1 = .agg #[.int .i64 xs.num, .slice xs.set.p xs.set.n xs.set.c, .slice xs.gone.p xs.gone.n xs.gone.c] ∧ DT.Alike c xs ∧ DT.In wx (fun b => W.heap.size ≤ b ∧ (D 4 → b ≠ b4) ∧ (D 5 → b ≠ b5)) xs
  f3 : D 3 → x3 = .agg #[.int .i64 yd.num, .slice yd.set.p yd.set.n yd.set.c, .slice yd.gone.p yd.gone.n yd.gone.c] ∧ DT.Alike d yd ∧ DT.In wx (fun b => W.heap.size ≤ b ∧ (D 4 → b ≠ b4) ∧ (D 5 → b ≠ b5)) yd
  p4 : D 4 → x4 = .pointer (some ⟨b4, 0, none⟩) ∧ W.heap.size ≤ b4 ∧ b4 < wx.heap.size
  p5 : D 5 → x5 = .pointer (some ⟨b5, 0, none⟩) ∧ W.heap.size ≤ b5 ∧ b5 < wx.heap.size
  z4 : D 4 → ¬ D 6 → Box wx b4 #[.int .i64 0, .slice none 0 0, .slice none 0 0] 30
  z5 : D 5 → ¬ D 7 → Box wx b5 #[.int .i64 0, .slice none 0 0, .slice none 0 0] 30
  y6 : D 6 → D 4 ∧ Box wx b4 #[.int .i64 xs.num, .slice xs.set.p xs.set.n xs.set.c, .slice xs.gone.p xs.gone.n xs.gone.c] 30
  y7 : D 7 → D 5 ∧ Box wx b5 #[.int .i64 yd.num, .slice yd.set.p yd.set.n yd.set.c, .slice yd.gone.p yd.gone.n yd.gone.c] 30
  ne : D 4 → D 5 → b4 ≠ b5
  o6 : D 6 → D 4 ∧ D 1 ∧ D 3 ∧ D 5
  o7 : D 7 → D 6 ∧ D 3
section
variable {W wx wy : World} {c d : DT} {D : Nat → Prop} {x0 x1 x2 x3 x4 x5 : Value} {b4 b5 : Nat} {xs yd : DT}
theorem R4.start (hD : ∀ j, ¬ D j) : R4 W c d D W.drew x0 x1 x2 x3 x4 x5 b4 b5 xs yd :=
  ⟨(Below.refl _ _).drew, fun h => absurd h (hD _), fun h => absurd h (hD _), fun h => absurd h (hD _), fun h => absurd h (hD _), fun h => absurd h (hD _), fun h => absurd h (hD _), fun h => absurd h (hD _), fun h => absurd h (hD _), fun h => absurd h (hD _), fun h => absurd h (hD _), fun h => absurd h (hD _), fun h => absurd h (hD _), fun h => absurd h (hD _)⟩
theorem res4 {P Q : Prop} (h : P ∨ Q) (hq : ¬ Q) : P := h.resolve_right hq
theorem R4.load0 (h : R4 W c d D wx x0 x1 x2 x3 x4 x5 b4 b5 xs yd) : R4 W c d (fun j => D j ∨ j = 0) wx (.agg #[.int .i64 c.num, .slice c.set.p c.set.n c.set.c, .slice c.gone.p c.gone.n c.gone.c]) x1 x2 x3 x4 x5 b4 b5 xs yd :=
  ⟨h.bel, fun _ => rfl, fun g => h.f2 (res4 g (by decide)), fun g => by
      obtain ⟨h1, h2, h3⟩ := h.f1 (res4 g (by decide))
      exact ⟨h1, h2, h3.mono fun b hb _ => ⟨hb.1, fun k => hb.2.1 (res4 k (by decide)), fun k => hb.2.2 (res4 k (by decide))⟩⟩, fun g => by
      obtain ⟨h1, h2, h3⟩ := h.f3 (res4 g (by decide))
      exact ⟨h1, h2, h3.mono fun b hb _ => ⟨hb.1, fun k => hb.2.1 (res4 k (by decide)), fun k => hb.2.2 (res4 k (by decide))⟩⟩, fun g => h.p4 (res4 g (by decide)), fun g => h.p5 (res4 g (by decide)), fun g k => h.z4 (res4 g (by decide)) fun e => k (.inl e), fun g k => h.z5 (res4 g (by decide)) fun e => k (.inl e), fun g => ⟨.inl (h.y6 (res4 g (by decide))).1, (h.y6 (res4 g (by decide))).2⟩, fun g => ⟨.inl (h.y7 (res4 g (by decide))).1, (h.y7 (res4 g (by decide))).2⟩, fun g k => h.ne (res4 g (by decide)) (res4 k (by decide)), fun g => by obtain ⟨a, b, c, e⟩ := h.o6 (res4 g (by decide)); exact ⟨.inl a, .inl b, .inl c, .inl e⟩, fun g => by obtain ⟨a, b⟩ := h.o7 (res4 g (by decide)); exact ⟨.inl a, .inl b⟩⟩
theorem R4.load2 (h : R4 W c d D wx x0 x1 x2 x3 x4 x5 b4 b5 xs yd) : R4 W c d (fun j => D j ∨ j = 2) wx x0 x1 (.agg #[.int .i64 d.num, .slice d.set.p d.set.n d.set.c, .slice d.gone.p d.gone.n d.gone.c]) x3 x4 x5 b4 b5 xs yd :=
  ⟨h.bel, fun g => h.f0 (res4 g (by decide)), fun _ => rfl, fun g => by
      obtain ⟨h1, h2, h3⟩ := h.f1 (res4 g (by decide))
      exact ⟨h1, h2, h3.mono fun b hb _ => ⟨hb.1, fun k => hb.2.1 (res4 k (by decide)), fun k => hb.2.2 (res4 k (by decide))⟩⟩, fun g => by
      obtain ⟨h1, h2, h3⟩ := h.f3 (res4 g (by decide))
      exact ⟨h1, h2, h3.mono fun b hb _ => ⟨hb.1, fun k => hb.2.1 (res4 k (by decide)), fun k => hb.2.2 (res4 k (by decide))⟩⟩, fun g => h.p4 (res4 g (by decide)), fun g => h.p5 (res4 g (by decide)), fun g k => h.z4 (res4 g (by decide)) fun e => k (.inl e), fun g k => h.z5 (res4 g (by decide)) fun e => k (.inl e), fun g => ⟨.inl (h.y6 (res4 g (by decide))).1, (h.y6 (res4 g (by decide))).2⟩, fun g => ⟨.inl (h.y7 (res4 g (by decide))).1, (h.y7 (res4 g (by decide))).2⟩, fun g k => h.ne (res4 g (by decide)) (res4 k (by decide)), fun g => by obtain ⟨a, b, c, e⟩ := h.o6 (res4 g (by decide)); exact ⟨.inl a, .inl b, .inl c, .inl e⟩, fun g => by obtain ⟨a, b⟩ := h.o7 (res4 g (by decide)); exact ⟨.inl a, .inl b⟩⟩
theorem R4.below (h : R4 W c d D wx x0 x1 x2 x3 x4 x5 b4 b5 xs yd) (hb : Below wx.heap.size wx wy) : R4 W c d D wy x0 x1 x2 x3 x4 x5 b4 b5 xs yd :=
  ⟨h.bel.trans (hb.mono h.bel.size), h.f0, h.f2, fun g => by obtain ⟨h1, h2, h3⟩ := h.f1 g; exact ⟨h1, h2, h3.below hb⟩, fun g => by obtain ⟨h1, h2, h3⟩ := h.f3 g; exact ⟨h1, h2, h3.below hb⟩, fun g => by obtain ⟨h1, h2, h3⟩ := h.p4 g; exact ⟨h1, h2, Nat.lt_of_lt_of_le h3 hb.size⟩, fun g => by obtain ⟨h1, h2, h3⟩ := h.p5 g; exact ⟨h1, h2, Nat.lt_of_lt_of_le h3 hb.size⟩, fun g k => (h.z4 g k).below hb, fun g k => (h.z5 g k).below hb, fun g => ⟨(h.y6 g).1, (h.y6 g).2.below hb⟩, fun g => ⟨(h.y7 g).1, (h.y7 g).2.below hb⟩, h.ne, h.o6, h.o7⟩
theorem R4.call1 {us : DT} (h : R4 W c d D wx x0 x1 x2 x3 x4 x5 b4 b5 xs yd) (h6 : ¬ D 6) (hb : Below wx.heap.size wx wy) (ha : DT.Alike c us) (hu : DT.In wy (fun b => wx.heap.size ≤ b) us) : R4 W c d (fun j => D j ∨ j = 1) wy x0 (.agg #[.int .i64 us.num, .slice us.set.p us.set.n us.set.c, .slice us.gone.p us.gone.n us.gone.c]) x2 x3 x4 x5 b4 b5 us yd := by
  have k := h.below hb
  have hs := h.bel.size
  exact ⟨k.bel, fun g => k.f0 (res4 g (by decide)), fun g => k.f2 (res4 g (by decide)), fun _ => ⟨rfl, ha, hu.mono fun b hb1 _ => ⟨by omega, fun g => by have := (h.p4 (res4 g (by decide))).2.2; omega, fun g => by have := (h.p5 (res4 g (by decide))).2.2; omega⟩⟩, fun g => by
      obtain ⟨h1, h2, h3⟩ := k.f3 (res4 g (by decide))
      exact ⟨h1, h2, h3.mono fun b hb _ => ⟨hb.1, fun k => hb.2.1 (res4 k (by decide)), fun k => hb.2.2 (res4 k (by decide))⟩⟩, fun g => k.p4 (res4 g (by decide)), fun g => k.p5 (res4 g (by decide)), fun g q => k.z4 (res4 g (by decide)) fun e => q (.inl e), fun g q => k.z5 (res4 g (by decide)) fun e => q (.inl e), fun g => absurd (res4 g (by decide)) h6, fun g => ⟨.inl (k.y7 (res4 g (by decide))).1, (k.y7 (res4 g (by decide))).2⟩, fun g q => k.ne (res4 g (by decide)) (res4 q (by decide)), fun g => by obtain ⟨a, b, c, e⟩ := k.o6 (res4 g (by decide)); exact ⟨.inl a, .inl b, .inl c, .inl e⟩, fun g => by obtain ⟨a, b⟩ := k.o7 (res4 g (by decide)); exact ⟨.inl a, .inl b⟩⟩
theorem R4.call3 {u : DT} (h : R4 W c d D wx x0 x1 x2 x3 x4 x5 b4 b5 xs yd) (h7 : ¬ D 7) (hb : Below wx.heap.size wx wy) (ha : DT.Alike d u) (hu : DT.In wy (fun b => wx.heap.size ≤ b) u) : R4 W c d (fun j => D j ∨ j = 3) wy x0 x1 x2 (.agg #[.int .i64 u.num, .slice u.set.p u.set.n u.set.c, .slice u.gone.p u.gone.n u.gone.c]) x4 x5 b4 b5 xs u := by
  have k := h.below hb
  have hs := h.bel.size
  exact ⟨k.bel, fun g => k.f0 (res4 g (by decide)), fun g => k.f2 (res4 g (by decide)), fun g => by
      obtain ⟨h1, h2, h3⟩ := k.f1 (res4 g (by decide))
      exact ⟨h1, h2, h3.mono fun b hb _ => ⟨hb.1, fun k => hb.2.1 (res4 k (by decide)), fun k => hb.2.2 (res4 k (by decide))⟩⟩, fun _ => ⟨rfl, ha, hu.mono fun b hb1 _ => ⟨by omega, fun g => by have := (h.p4 (res4 g (by decide))).2.2; omega, fun g => by have := (h.p5 (res4 g (by decide))).2.2; omega⟩⟩, fun g => k.p4 (res4 g (by decide)), fun g => k.p5 (res4 g (by decide)), fun g q => k.z4 (res4 g (by decide)) fun e => q (.inl e), fun g q => k.z5 (res4 g (by decide)) fun e => q (.inl e), fun g => ⟨.inl (k.y6 (res4 g (by decide))).1, (k.y6 (res4 g (by decide))).2⟩, fun g => absurd (res4 g (by decide)) h7, fun g q => k.ne (res4 g (by decide)) (res4 q (by decide)), fun g => by obtain ⟨a, b, c, e⟩ := k.o6 (res4 g (by decide)); exact ⟨.inl a, .inl b, .inl c, .inl e⟩, fun g => by obtain ⟨a, b⟩ := k.o7 (res4 g (by decide)); exact ⟨.inl a, .inl b⟩⟩
theorem R4.alloc4 (h : R4 W c d D wx x0 x1 x2 x3 x4 x5 b4 b5 xs yd) (h4 : ¬ D 4) : R4 W c d (fun j => D j ∨ j = 4) (wx.alloc (.cells #[.int .i64 0, .slice none 0 0, .slice none 0 0] 30)) x0 x1 x2 x3 (.pointer (some ⟨wx.heap.size, 0, none⟩)) x5 wx.heap.size b5 xs yd := by
  have hb : Below wx.heap.size wx (wx.alloc (.cells #[.int .i64 0, .slice none 0 0, .slice none 0 0] 30)) := (Below.refl _ _).alloc (Nat.le_refl _) _
  have k := h.below hb
  have hs := h.bel.size
  have h6 : ¬ D 6 := fun e => h4 (h.y6 e).1
  exact ⟨k.bel, fun g => k.f0 (res4 g (by decide)), fun g => k.f2 (res4 g (by decide)), fun g => by
      obtain ⟨h1, h2, h3⟩ := h.f1 (res4 g (by decide))
      exact ⟨h1, h2, (h3.mono (S' := fun b => (W.heap.size ≤ b ∧ ((D 4 ∨ 4 = 4) → b ≠ wx.heap.size) ∧ ((D 5 ∨ 5 = 4) → b ≠ b5))) fun b hb hl => ⟨hb.1, fun _ => by omega, fun k => hb.2.2 (res4 k (by decide))⟩).below hb⟩, fun g => by
      obtain ⟨h1, h2, h3⟩ := h.f3 (res4 g (by decide))
      exact ⟨h1, h2, (h3.mono (S' := fun b => (W.heap.size ≤ b ∧ ((D 4 ∨ 4 = 4) → b ≠ wx.heap.size) ∧ ((D 5 ∨ 5 = 4) → b ≠ b5))) fun b hb hl => ⟨hb.1, fun _ => by omega, fun k => hb.2.2 (res4 k (by decide))⟩).below hb⟩, fun _ => ⟨rfl, hs, by simp⟩, fun g => k.p5 (res4 g (by decide)), fun _ _ => Box.new _ _ _, fun g q => k.z5 (res4 g (by decide)) fun e => q (.inl e), fun g => absurd (res4 g (by decide)) h6, fun g => ⟨.inl (k.y7 (res4 g (by decide))).1, (k.y7 (res4 g (by decide))).2⟩, fun _ q => by have := (h.p5 (res4 q (by decide))).2.2; omega, fun g => by obtain ⟨a, b, c, e⟩ := k.o6 (res4 g (by decide)); exact ⟨.inl a, .inl b, .inl c, .inl e⟩, fun g => by obtain ⟨a, b⟩ := k.o7 (res4 g (by decide)); exact ⟨.inl a, .inl b⟩⟩
theorem R4.alloc5 (h : R4 W c d D wx x0 x1 x2 x3 x4 x5 b4 b5 xs yd) (h5 : ¬ D 5) : R4 W c d (fun j => D j ∨ j = 5) (wx.alloc (.cells #[.int .i64 0, .slice none 0 0, .slice none 0 0] 30)) x0 x1 x2 x3 x4 (.pointer (some ⟨wx.heap.size, 0, none⟩)) b4 wx.heap.size xs yd := by
  have hb : Below wx.heap.size wx (wx.alloc (.cells #[.int .i64 0, .slice none 0 0, .slice none 0 0] 30)) := (Below.refl _ _).alloc (Nat.le_refl _) _
  have k := h.below hb
  have hs := h.bel.size
  have h7 : ¬ D 7 := fun e => h5 (h.y7 e).1
  exact ⟨k.bel, fun g => k.f0 (res4 g (by decide)), fun g => k.f2 (res4 g (by decide)), fun g => by
      obtain ⟨h1, h2, h3⟩ := h.f1 (res4 g (by decide))
      exact ⟨h1, h2, (h3.mono (S' := fun b => (W.heap.size ≤ b ∧ ((D 4 ∨ 4 = 5) → b ≠ b4) ∧ ((D 5 ∨ 5 = 5) → b ≠ wx.heap.size))) fun b hb hl => ⟨hb.1, fun k => hb.2.1 (res4 k (by decide)), fun _ => by omega⟩).below hb⟩, fun g => by
      obtain ⟨h1, h2, h3⟩ := h.f3 (res4 g (by decide))
      exact ⟨h1, h2, (h3.mono (S' := fun b => (W.heap.size ≤ b ∧ ((D 4 ∨ 4 = 5) → b ≠ b4) ∧ ((D 5 ∨ 5 = 5) → b ≠ wx.heap.size))) fun b hb hl => ⟨hb.1, fun k => hb.2.1 (res4 k (by decide)), fun _ => by omega⟩).below hb⟩, fun g => k.p4 (res4 g (by decide)), fun _ => ⟨rfl, hs, by simp⟩, fun g q => k.z4 (res4 g (by decide)) fun e => q (.inl e), fun _ _ => Box.new _ _ _, fun g => ⟨.inl (k.y6 (res4 g (by decide))).1, (k.y6 (res4 g (by decide))).2⟩, fun g => absurd (res4 g (by decide)) h7, fun q _ => by have := (h.p4 (res4 q (by decide))).2.2; omega, fun g => by obtain ⟨a, b, c, e⟩ := k.o6 (res4 g (by decide)); exact ⟨.inl a, .inl b, .inl c, .inl e⟩, fun g => by obtain ⟨a, b⟩ := k.o7 (res4 g (by decide)); exact ⟨.inl a, .inl b⟩⟩
theorem R4.store6 (h : R4 W c d D wx x0 x1 x2 x3 x4 x5 b4 b5 xs yd) (d4 : D 4) (d5 : D 5) (d1 : D 1) (d3 : D 3) (h6 : ¬ D 6) (h7 : ¬ D 7) : R4 W c d (fun j => D j ∨ j = 6) (((wx.setCell ⟨b4, 0, none⟩ (.int .i64 xs.num)).setCell ⟨b4, 1, none⟩ (.slice xs.set.p xs.set.n xs.set.c)).setCell ⟨b4, 2, none⟩ (.slice xs.gone.p xs.gone.n xs.gone.c)) x0 x1 x2 x3 x4 x5 b4 b5 xs yd := by
  have hbt : But (fun x => x = b4) wx (((wx.setCell ⟨b4, 0, none⟩ (.int .i64 xs.num)).setCell ⟨b4, 1, none⟩ (.slice xs.set.p xs.set.n xs.set.c)).setCell ⟨b4, 2, none⟩ (.slice xs.gone.p xs.gone.n xs.gone.c)) := (((But.one _ _).setAt 0 _).setAt 1 _).setAt 2 _
  obtain ⟨e4, q4, l4⟩ := h.p4 d4
  obtain ⟨e5, q5, l5⟩ := h.p5 d5
  have hne := h.ne d4 d5
  have hs := hbt.size
  refine ⟨h.bel.trans (hbt.below h.bel.size fun q hq => by omega), fun g => h.f0 (res4 g (by decide)), fun g => h.f2 (res4 g (by decide)), fun g => ?_, fun g => ?_, fun _ => ⟨e4, q4, by omega⟩, fun _ => ⟨e5, q5, by omega⟩, fun _ q => (q (.inr rfl)).elim, fun _ q => (h.z5 d5 h7).but hbt (by omega), fun _ => ⟨.inl d4, by simpa using (((h.z4 d4 h6).set 0 (.int .i64 xs.num)).set 1 (.slice xs.set.p xs.set.n xs.set.c)).set 2 (.slice xs.gone.p xs.gone.n xs.gone.c)⟩, fun g => absurd (res4 g (by decide)) h7, fun _ _ => hne, fun _ => ⟨.inl d4, .inl d1, .inl d3, .inl d5⟩, fun g => absurd (res4 g (by decide)) h7⟩
  · obtain ⟨h1, h2, h3⟩ := h.f1 d1
    exact ⟨h1, h2, (h3.kept hs fun b hb hl => hbt.block b hl (hb.2.1 d4)).mono fun b hb _ => ⟨hb.1, fun _ => hb.2.1 d4, fun _ => hb.2.2 d5⟩⟩
  · obtain ⟨h1, h2, h3⟩ := h.f3 d3
    exact ⟨h1, h2, (h3.kept hs fun b hb hl => hbt.block b hl (hb.2.1 d4)).mono fun b hb _ => ⟨hb.1, fun _ => hb.2.1 d4, fun _ => hb.2.2 d5⟩⟩
theorem R4.store7 (h : R4 W c d D wx x0 x1 x2 x3 x4 x5 b4 b5 xs yd) (d4 : D 4) (d5 : D 5) (d1 : D 1) (d3 : D 3) (d6 : D 6) (h7 : ¬ D 7) : R4 W c d (fun j => D j ∨ j = 7) (((wx.setCell ⟨b5, 0, none⟩ (.int .i64 yd.num)).setCell ⟨b5, 1, none⟩ (.slice yd.set.p yd.set.n yd.set.c)).setCell ⟨b5, 2, none⟩ (.slice yd.gone.p yd.gone.n yd.gone.c)) x0 x1 x2 x3 x4 x5 b4 b5 xs yd := by
  have hbt : But (fun x => x = b5) wx (((wx.setCell ⟨b5, 0, none⟩ (.int .i64 yd.num)).setCell ⟨b5, 1, none⟩ (.slice yd.set.p yd.set.n yd.set.c)).setCell ⟨b5, 2, none⟩ (.slice yd.gone.p yd.gone.n yd.gone.c)) := (((But.one _ _).setAt 0 _).setAt 1 _).setAt 2 _
  obtain ⟨e4, q4, l4⟩ := h.p4 d4
  obtain ⟨e5, q5, l5⟩ := h.p5 d5
  have hne := h.ne d4 d5
  have hs := hbt.size
  refine ⟨h.bel.trans (hbt.below h.bel.size fun q hq => by omega), fun g => h.f0 (res4 g (by decide)), fun g => h.f2 (res4 g (by decide)), fun g => ?_, fun g => ?_, fun _ => ⟨e4, q4, by omega⟩, fun _ => ⟨e5, q5, by omega⟩, fun _ q => (q (.inl d6)).elim, fun _ q => (q (.inr rfl)).elim, fun _ => ⟨.inl d4, (h.y6 d6).2.but hbt (by omega)⟩, fun _ => ⟨.inl d5, by simpa using (((h.z5 d5 h7).set 0 (.int .i64 yd.num)).set 1 (.slice yd.set.p yd.set.n yd.set.c)).set 2 (.slice yd.gone.p yd.gone.n yd.gone.c)⟩, fun _ _ => hne, fun _ => ⟨.inl d4, .inl d1, .inl d3, .inl d5⟩, fun _ => ⟨.inl d6, .inl d3⟩⟩
  · obtain ⟨h1, h2, h3⟩ := h.f1 d1
    exact ⟨h1, h2, (h3.kept hs fun b hb hl => hbt.block b hl (hb.2.2 d5)).mono fun b hb _ => ⟨hb.1, fun _ => hb.2.1 d4, fun _ => hb.2.2 d5⟩⟩
  · obtain ⟨h1, h2, h3⟩ := h.f3 d3
    exact ⟨h1, h2, (h3.kept hs fun b hb hl => hbt.block b hl (hb.2.2 d5)).mono fun b hb _ => ⟨hb.1, fun _ => hb.2.1 d4, fun _ => hb.2.2 d5⟩⟩
end
end Go.Proofs.Ytpknlbibijheaaa
