import Derived.Test.YtpknlbibijheaabPack29
import Derived.Test.YtpknlbibijheaabPack22
namespace Go.Proofs.Ytpknlbibijheaab
open Go.RowKit
set_option maxRecDepth 8000
theorem LAlk.nl {s u : LT VT} {w : World} {S : Nat → Prop} (h : LAlk VT.Alike s u) (hu : LT.In elCell w S u) : u.nl = s.nl := by
  unfold LT.nl LT.toL
  rw [h.n, List.map_map, List.map_map]
  apply List.map_congr_left
  intro j hj
  have hj := List.mem_range.1 hj
  exact (norm_of (h.item j hj) (hu.each j (by rw [h.n]; exact hj))).symm
theorem LAlk.cells {s u : LT VT} (h : LAlk VT.Alike s u) : LsAlk s u := ⟨h.n, fun j hj => (h.item j hj).cell⟩
theorem DT.Alike.setA {d u : DT} (h : DT.Alike d u) : LAlk VT.Alike d.set u.set := ⟨h.sn, h.set⟩
theorem DT.Alike.goneL {d u : DT} (h : DT.Alike d u) : u.gone.toL = d.gone.toL := by
  unfold LT.toL
  rw [h.gn]
  apply List.map_congr_left
  intro j hj
  exact h.gone j (List.mem_range.1 hj)
theorem DT.Alike.dalk {d u : DT} (h : DT.Alike d u) : DAlk d u := ⟨h.num.symm, h.setA.cells, h.gn, fun j hj => (h.gone j hj).symm⟩
theorem LAlk.chk {sn : Int} {s u : LT VT} (h : LAlk VT.Alike s u) : chkState ⟨sn, u.p, u.n, u.c, u.item⟩ = chkState ⟨sn, s.p, s.n, s.c, s.item⟩ :=
  (chkState_alike (s := ⟨sn, s.p, s.n, s.c, s.item⟩) (u := ⟨sn, u.p, u.n, u.c, u.item⟩) ⟨rfl, h.n, h.item⟩).symm
theorem hasK_alike {s u : LT VT} (h : LAlk VT.Alike s u) (k : ByteArray) : hasK u.toL k = hasK s.toL k := by
  unfold hasK LT.toL
  rw [h.n, List.any_map, List.any_map]
  have key : ∀ l : List Nat, (∀ j ∈ l, j < s.n) → (l.any ((fun c : VT => c.text.toList == k.toList) ∘ u.item)) = (l.any ((fun c : VT => c.text.toList == k.toList) ∘ s.item)) := by
    intro l
    induction l with
    | nil => intro _; rfl
    | cons a t ih =>
      intro hl
      simp only [List.any_cons, Function.comp]
      rw [(h.item a (hl a List.mem_cons_self)).text]
      exact congrArg _ (ih fun j hj => hl j (List.mem_cons_of_mem _ hj))
  exact key _ fun j hj => List.mem_range.1 hj
theorem DT.Alike.chk {d u : DT} (h : DT.Alike d u) : chkD u = chkD d := by
  unfold chkD
  have e1 : chkState ⟨u.num, u.set.p, u.set.n, u.set.c, u.set.item⟩ = chkState ⟨d.num, d.set.p, d.set.n, d.set.c, d.set.item⟩ := by rw [h.num]; exact h.setA.chk
  rw [e1, h.gn]
  have e2 : firstC (chkGone u.set.toL u.gone.item) d.gone.n = firstC (chkGone d.set.toL d.gone.item) d.gone.n := by
    refine firstC_congr fun j hj => ?_
    unfold chkGone
    rw [h.gone j hj, hasK_alike h.setA]
    by_cases h0 : 0 < j
    · rw [h.gone (j - 1) (by omega)]
    · simp [h0]
  rw [e2]
theorem applyE_alike {sn : Int} {s xs : LT VT} {d yd : DT} {w : World} {S : Nat → Prop} (hs : LAlk VT.Alike s xs) (hd : DT.Alike d yd) (ix : LT.In elCell w S xs) (iy : DT.In w S yd) : applyE sn xs yd = applyE sn s d := by
  have e1 : chkState ⟨sn, xs.p, xs.n, xs.c, xs.item⟩ = chkState ⟨sn, s.p, s.n, s.c, s.item⟩ := hs.chk
  have e2 := hd.chk
  by_cases h1 : chkState ⟨sn, s.p, s.n, s.c, s.item⟩ = 0
  · by_cases h2 : chkD d = 0
    · have a := applyE_val h1 h2
      have b := applyE_val (e1.trans h1) (e2.trans h2)
      have n1 := hs.nl ix
      have n2 : yd.nS = d.nS := hd.setA.nl iy.set
      have n3 := hd.goneL
      have kk : ∀ g, keyIn xs.toL g ↔ keyIn s.toL g := fun g => by rw [← keyIn_nl2, n1, keyIn_nl2]
      rw [n1, n2, n3] at b
      by_cases hg : ∃ g ∈ d.gone.toL, ¬ keyIn s.toL g
      · obtain ⟨g, g1, g2⟩ := hg
        rw [a.1 ⟨g, g1, g2⟩, b.1 ⟨g, g1, fun h => g2 ((kk g).1 h)⟩]
      · have hall : ∀ g ∈ d.gone.toL, keyIn s.toL g := fun g hg1 => Classical.byContradiction fun hn => hg ⟨g, hg1, hn⟩
        rw [a.2 hall, b.2 fun g hg1 => (kk g).2 (hall g hg1)]
    · unfold applyE
      rw [e1, e2]
      simp [h1, h2]
  · unfold applyE
    rw [e1]
    simp [h1]
theorem CSz.alike {s u : LT VT} (h : LAlk VT.Alike s u) (hz : CSz s) : CSz u := ⟨by rw [h.n]; exact hz.n, fun j hj => by rw [(h.item j (by rw [← h.n]; exact hj)).total]; exact hz.item j (by rw [← h.n]; exact hj)⟩
theorem DSz.alike {d u : DT} (h : DT.Alike d u) (hz : DSz d) : DSz u := ⟨by rw [h.sn]; exact hz.set, by rw [h.gn]; exact hz.gone, fun j hj => by rw [(h.set j (by rw [← h.sn]; exact hj)).total]; exact hz.item j (by rw [← h.sn]; exact hj)⟩
/-- what Apply makes of the copies is what it makes of the things -/
theorem Apd.same {s xs v t : LT VT} {d yd : DT} {w : World} {S : Nat → Prop} (hs : LAlk VT.Alike s xs) (hd : DT.Alike d yd) (ix : LT.In elCell w S xs) (iy : DT.In w S yd) (h1 : Apd s d t) (h2 : Apd xs yd v) : LsAlk t v := by
  refine LsAlk.of ?_
  rw [h1.nl, h2.nl, hs.nl ix, hd.goneL]
  have n2 : yd.nS = d.nS := hd.setA.nl iy.set
  rw [n2]
end Go.Proofs.Ytpknlbibijheaab

namespace Go.Proofs.Ytpknlbibijheaab
open Go.RowKit
set_option maxRecDepth 8000
/-- while two states are copied into two new variables: what is done, in any order -/
structure R5 (W : World) (sn : Int) (s : LT VT) (dn : Int) (d : LT VT) (D : Nat → Prop) (wx : World) (x0 x1 x2 x3 x4 x5 : Value) (b4 b5 : Nat) (xs yd : LT VT) : Prop where
  bel : Below W.heap.size W wx
  f0 : D 0 → x0 = .agg #[.int .i64 sn, .slice s.p s.n s.c]
  f2 : D 2 → x2 = .agg #[.int .i64 dn, .slice d.p d.n d.c]
  f1 : D 1 → x1 = .agg #[.int .i64 sn, .slice xs.p xs.n xs.c] ∧ LAlk VT.Alike s xs ∧ LT.In elCell wx (fun b => W.heap.size ≤ b ∧ (D 4 → b ≠ b4) ∧ (D 5 → b ≠ b5)) xs
  f3 : D 3 → x3 = .agg #[.int .i64 dn, .slice yd.p yd.n yd.c] ∧ LAlk VT.Alike d yd ∧ LT.In elCell wx (fun b => W.heap.size ≤ b ∧ (D 4 → b ≠ b4) ∧ (D 5 → b ≠ b5)) yd
  p4 : D 4 → x4 = .pointer (some ⟨b4, 0, none⟩) ∧ W.heap.size ≤ b4 ∧ b4 < wx.heap.size
  p5 : D 5 → x5 = .pointer (some ⟨b5, 0, none⟩) ∧ W.heap.size ≤ b5 ∧ b5 < wx.heap.size
  z4 : D 4 → ¬ D 6 → Box wx b4 #[.int .i64 0, .slice none 0 0] 24
  z5 : D 5 → ¬ D 7 → Box wx b5 #[.int .i64 0, .slice none 0 0] 24
  y6 : D 6 → D 4 ∧ Box wx b4 #[.int .i64 sn, .slice xs.p xs.n xs.c] 24
  y7 : D 7 → D 5 ∧ Box wx b5 #[.int .i64 dn, .slice yd.p yd.n yd.c] 24
  ne : D 4 → D 5 → b4 ≠ b5
  o6 : D 6 → D 4 ∧ D 1 ∧ D 3 ∧ D 5
  o7 : D 7 → D 6 ∧ D 3
section
variable {W wx wy : World} {sn : Int} {s : LT VT} {dn : Int} {d : LT VT} {D : Nat → Prop} {x0 x1 x2 x3 x4 x5 : Value} {b4 b5 : Nat} {xs yd : LT VT}
theorem R5.start (hD : ∀ j, ¬ D j) : R5 W sn s dn d D W.drew x0 x1 x2 x3 x4 x5 b4 b5 xs yd :=
  ⟨(Below.refl _ _).drew, fun h => absurd h (hD _), fun h => absurd h (hD _), fun h => absurd h (hD _), fun h => absurd h (hD _), fun h => absurd h (hD _), fun h => absurd h (hD _), fun h => absurd h (hD _), fun h => absurd h (hD _), fun h => absurd h (hD _), fun h => absurd h (hD _), fun h => absurd h (hD _), fun h => absurd h (hD _), fun h => absurd h (hD _)⟩
theorem res5 {P Q : Prop} (h : P ∨ Q) (hq : ¬ Q) : P := h.resolve_right hq
theorem R5.load0 (h : R5 W sn s dn d D wx x0 x1 x2 x3 x4 x5 b4 b5 xs yd) : R5 W sn s dn d (fun j => D j ∨ j = 0) wx (.agg #[.int .i64 sn, .slice s.p s.n s.c]) x1 x2 x3 x4 x5 b4 b5 xs yd :=
  ⟨h.bel, fun _ => rfl, fun g => h.f2 (res5 g (by decide)), fun g => by
      obtain ⟨h1, h2, h3⟩ := h.f1 (res5 g (by decide))
      exact ⟨h1, h2, h3.mono fun b hb _ => ⟨hb.1, fun k => hb.2.1 (res5 k (by decide)), fun k => hb.2.2 (res5 k (by decide))⟩⟩, fun g => by
      obtain ⟨h1, h2, h3⟩ := h.f3 (res5 g (by decide))
      exact ⟨h1, h2, h3.mono fun b hb _ => ⟨hb.1, fun k => hb.2.1 (res5 k (by decide)), fun k => hb.2.2 (res5 k (by decide))⟩⟩, fun g => h.p4 (res5 g (by decide)), fun g => h.p5 (res5 g (by decide)), fun g k => h.z4 (res5 g (by decide)) fun e => k (.inl e), fun g k => h.z5 (res5 g (by decide)) fun e => k (.inl e), fun g => ⟨.inl (h.y6 (res5 g (by decide))).1, (h.y6 (res5 g (by decide))).2⟩, fun g => ⟨.inl (h.y7 (res5 g (by decide))).1, (h.y7 (res5 g (by decide))).2⟩, fun g k => h.ne (res5 g (by decide)) (res5 k (by decide)), fun g => by obtain ⟨a, b, c, e⟩ := h.o6 (res5 g (by decide)); exact ⟨.inl a, .inl b, .inl c, .inl e⟩, fun g => by obtain ⟨a, b⟩ := h.o7 (res5 g (by decide)); exact ⟨.inl a, .inl b⟩⟩
theorem R5.load2 (h : R5 W sn s dn d D wx x0 x1 x2 x3 x4 x5 b4 b5 xs yd) : R5 W sn s dn d (fun j => D j ∨ j = 2) wx x0 x1 (.agg #[.int .i64 dn, .slice d.p d.n d.c]) x3 x4 x5 b4 b5 xs yd :=
  ⟨h.bel, fun g => h.f0 (res5 g (by decide)), fun _ => rfl, fun g => by
      obtain ⟨h1, h2, h3⟩ := h.f1 (res5 g (by decide))
      exact ⟨h1, h2, h3.mono fun b hb _ => ⟨hb.1, fun k => hb.2.1 (res5 k (by decide)), fun k => hb.2.2 (res5 k (by decide))⟩⟩, fun g => by
      obtain ⟨h1, h2, h3⟩ := h.f3 (res5 g (by decide))
      exact ⟨h1, h2, h3.mono fun b hb _ => ⟨hb.1, fun k => hb.2.1 (res5 k (by decide)), fun k => hb.2.2 (res5 k (by decide))⟩⟩, fun g => h.p4 (res5 g (by decide)), fun g => h.p5 (res5 g (by decide)), fun g k => h.z4 (res5 g (by decide)) fun e => k (.inl e), fun g k => h.z5 (res5 g (by decide)) fun e => k (.inl e), fun g => ⟨.inl (h.y6 (res5 g (by decide))).1, (h.y6 (res5 g (by decide))).2⟩, fun g => ⟨.inl (h.y7 (res5 g (by decide))).1, (h.y7 (res5 g (by decide))).2⟩, fun g k => h.ne (res5 g (by decide)) (res5 k (by decide)), fun g => by obtain ⟨a, b, c, e⟩ := h.o6 (res5 g (by decide)); exact ⟨.inl a, .inl b, .inl c, .inl e⟩, fun g => by obtain ⟨a, b⟩ := h.o7 (res5 g (by decide)); exact ⟨.inl a, .inl b⟩⟩
/-- what holds, moved to a world with more memory -/
theorem R5.below (h : R5 W sn s dn d D wx x0 x1 x2 x3 x4 x5 b4 b5 xs yd) (hb : Below wx.heap.size wx wy) : R5 W sn s dn d D wy x0 x1 x2 x3 x4 x5 b4 b5 xs yd :=
  ⟨h.bel.trans (hb.mono h.bel.size), h.f0, h.f2, fun g => by obtain ⟨h1, h2, h3⟩ := h.f1 g; exact ⟨h1, h2, h3.below hb⟩, fun g => by obtain ⟨h1, h2, h3⟩ := h.f3 g; exact ⟨h1, h2, h3.below hb⟩, fun g => by obtain ⟨h1, h2, h3⟩ := h.p4 g; exact ⟨h1, h2, Nat.lt_of_lt_of_le h3 hb.size⟩, fun g => by obtain ⟨h1, h2, h3⟩ := h.p5 g; exact ⟨h1, h2, Nat.lt_of_lt_of_le h3 hb.size⟩, fun g k => (h.z4 g k).below hb, fun g k => (h.z5 g k).below hb, fun g => ⟨(h.y6 g).1, (h.y6 g).2.below hb⟩, fun g => ⟨(h.y7 g).1, (h.y7 g).2.below hb⟩, h.ne, h.o6, h.o7⟩
theorem R5.call1 {us : LT VT} (h : R5 W sn s dn d D wx x0 x1 x2 x3 x4 x5 b4 b5 xs yd) (h6 : ¬ D 6) (hb : Below wx.heap.size wx wy) (ha : LAlk VT.Alike s us) (hu : LT.In elCell wy (fun b => wx.heap.size ≤ b) us) : R5 W sn s dn d (fun j => D j ∨ j = 1) wy x0 (.agg #[.int .i64 sn, .slice us.p us.n us.c]) x2 x3 x4 x5 b4 b5 us yd := by
  have k := h.below hb
  have hs := h.bel.size
  exact ⟨k.bel, fun g => k.f0 (res5 g (by decide)), fun g => k.f2 (res5 g (by decide)), fun _ => ⟨rfl, ha, hu.mono fun b hb1 _ => ⟨by omega, fun g => by have := (h.p4 (res5 g (by decide))).2.2; omega, fun g => by have := (h.p5 (res5 g (by decide))).2.2; omega⟩⟩, fun g => by
      obtain ⟨h1, h2, h3⟩ := k.f3 (res5 g (by decide))
      exact ⟨h1, h2, h3.mono fun b hb _ => ⟨hb.1, fun k => hb.2.1 (res5 k (by decide)), fun k => hb.2.2 (res5 k (by decide))⟩⟩, fun g => k.p4 (res5 g (by decide)), fun g => k.p5 (res5 g (by decide)), fun g q => k.z4 (res5 g (by decide)) fun e => q (.inl e), fun g q => k.z5 (res5 g (by decide)) fun e => q (.inl e), fun g => absurd (res5 g (by decide)) h6, fun g => ⟨.inl (k.y7 (res5 g (by decide))).1, (k.y7 (res5 g (by decide))).2⟩, fun g q => k.ne (res5 g (by decide)) (res5 q (by decide)), fun g => by obtain ⟨a, b, c, e⟩ := k.o6 (res5 g (by decide)); exact ⟨.inl a, .inl b, .inl c, .inl e⟩, fun g => by obtain ⟨a, b⟩ := k.o7 (res5 g (by decide)); exact ⟨.inl a, .inl b⟩⟩
theorem R5.call3 {u : LT VT} (h : R5 W sn s dn d D wx x0 x1 x2 x3 x4 x5 b4 b5 xs yd) (h7 : ¬ D 7) (hb : Below wx.heap.size wx wy) (ha : LAlk VT.Alike d u) (hu : LT.In elCell wy (fun b => wx.heap.size ≤ b) u) : R5 W sn s dn d (fun j => D j ∨ j = 3) wy x0 x1 x2 (.agg #[.int .i64 dn, .slice u.p u.n u.c]) x4 x5 b4 b5 xs u := by
  have k := h.below hb
  have hs := h.bel.size
  exact ⟨k.bel, fun g => k.f0 (res5 g (by decide)), fun g => k.f2 (res5 g (by decide)), fun g => by
      obtain ⟨h1, h2, h3⟩ := k.f1 (res5 g (by decide))
      exact ⟨h1, h2, h3.mono fun b hb _ => ⟨hb.1, fun k => hb.2.1 (res5 k (by decide)), fun k => hb.2.2 (res5 k (by decide))⟩⟩, fun _ => ⟨rfl, ha, hu.mono fun b hb1 _ => ⟨by omega, fun g => by have := (h.p4 (res5 g (by decide))).2.2; omega, fun g => by have := (h.p5 (res5 g (by decide))).2.2; omega⟩⟩, fun g => k.p4 (res5 g (by decide)), fun g => k.p5 (res5 g (by decide)), fun g q => k.z4 (res5 g (by decide)) fun e => q (.inl e), fun g q => k.z5 (res5 g (by decide)) fun e => q (.inl e), fun g => ⟨.inl (k.y6 (res5 g (by decide))).1, (k.y6 (res5 g (by decide))).2⟩, fun g => absurd (res5 g (by decide)) h7, fun g q => k.ne (res5 g (by decide)) (res5 q (by decide)), fun g => by obtain ⟨a, b, c, e⟩ := k.o6 (res5 g (by decide)); exact ⟨.inl a, .inl b, .inl c, .inl e⟩, fun g => by obtain ⟨a, b⟩ := k.o7 (res5 g (by decide)); exact ⟨.inl a, .inl b⟩⟩
theorem R5.alloc4 (h : R5 W sn s dn d D wx x0 x1 x2 x3 x4 x5 b4 b5 xs yd) (h4 : ¬ D 4) : R5 W sn s dn d (fun j => D j ∨ j = 4) (wx.alloc (.cells #[.int .i64 0, .slice none 0 0] 24)) x0 x1 x2 x3 (.pointer (some ⟨wx.heap.size, 0, none⟩)) x5 wx.heap.size b5 xs yd := by
  have hb : Below wx.heap.size wx (wx.alloc (.cells #[.int .i64 0, .slice none 0 0] 24)) := (Below.refl _ _).alloc (Nat.le_refl _) _
  have k := h.below hb
  have hs := h.bel.size
  have h6 : ¬ D 6 := fun e => h4 (h.y6 e).1
  exact ⟨k.bel, fun g => k.f0 (res5 g (by decide)), fun g => k.f2 (res5 g (by decide)), fun g => by
      obtain ⟨h1, h2, h3⟩ := h.f1 (res5 g (by decide))
      exact ⟨h1, h2, (h3.mono (S' := fun b => (W.heap.size ≤ b ∧ ((D 4 ∨ 4 = 4) → b ≠ wx.heap.size) ∧ ((D 5 ∨ 5 = 4) → b ≠ b5))) fun b hb hl => ⟨hb.1, fun _ => by omega, fun k => hb.2.2 (res5 k (by decide))⟩).below hb⟩, fun g => by
      obtain ⟨h1, h2, h3⟩ := h.f3 (res5 g (by decide))
      exact ⟨h1, h2, (h3.mono (S' := fun b => (W.heap.size ≤ b ∧ ((D 4 ∨ 4 = 4) → b ≠ wx.heap.size) ∧ ((D 5 ∨ 5 = 4) → b ≠ b5))) fun b hb hl => ⟨hb.1, fun _ => by omega, fun k => hb.2.2 (res5 k (by decide))⟩).below hb⟩, fun _ => ⟨rfl, hs, by simp⟩, fun g => k.p5 (res5 g (by decide)), fun _ _ => Box.new _ _ _, fun g q => k.z5 (res5 g (by decide)) fun e => q (.inl e), fun g => absurd (res5 g (by decide)) h6, fun g => ⟨.inl (k.y7 (res5 g (by decide))).1, (k.y7 (res5 g (by decide))).2⟩, fun _ q => by have := (h.p5 (res5 q (by decide))).2.2; omega, fun g => by obtain ⟨a, b, c, e⟩ := k.o6 (res5 g (by decide)); exact ⟨.inl a, .inl b, .inl c, .inl e⟩, fun g => by obtain ⟨a, b⟩ := k.o7 (res5 g (by decide)); exact ⟨.inl a, .inl b⟩⟩
theorem R5.alloc5 (h : R5 W sn s dn d D wx x0 x1 x2 x3 x4 x5 b4 b5 xs yd) (h5 : ¬ D 5) : R5 W sn s dn d (fun j => D j ∨ j = 5) (wx.alloc (.cells #[.int .i64 0, .slice none 0 0] 24)) x0 x1 x2 x3 x4 (.pointer (some ⟨wx.heap.size, 0, none⟩)) b4 wx.heap.size xs yd := by
  have hb : Below wx.heap.size wx (wx.alloc (.cells #[.int .i64 0, .slice none 0 0] 24)) := (Below.refl _ _).alloc (Nat.le_refl _) _
  have k := h.below hb
  have hs := h.bel.size
  have h7 : ¬ D 7 := fun e => h5 (h.y7 e).1
  exact ⟨k.bel, fun g => k.f0 (res5 g (by decide)), fun g => k.f2 (res5 g (by decide)), fun g => by
      obtain ⟨h1, h2, h3⟩ := h.f1 (res5 g (by decide))
      exact ⟨h1, h2, (h3.mono (S' := fun b => (W.heap.size ≤ b ∧ ((D 4 ∨ 4 = 5) → b ≠ b4) ∧ ((D 5 ∨ 5 = 5) → b ≠ wx.heap.size))) fun b hb hl => ⟨hb.1, fun k => hb.2.1 (res5 k (by decide)), fun _ => by omega⟩).below hb⟩, fun g => by
      obtain ⟨h1, h2, h3⟩ := h.f3 (res5 g (by decide))
      exact ⟨h1, h2, (h3.mono (S' := fun b => (W.heap.size ≤ b ∧ ((D 4 ∨ 4 = 5) → b ≠ b4) ∧ ((D 5 ∨ 5 = 5) → b ≠ wx.heap.size))) fun b hb hl => ⟨hb.1, fun k => hb.2.1 (res5 k (by decide)), fun _ => by omega⟩).below hb⟩, fun g => k.p4 (res5 g (by decide)), fun _ => ⟨rfl, hs, by simp⟩, fun g q => k.z4 (res5 g (by decide)) fun e => q (.inl e), fun _ _ => Box.new _ _ _, fun g => ⟨.inl (k.y6 (res5 g (by decide))).1, (k.y6 (res5 g (by decide))).2⟩, fun g => absurd (res5 g (by decide)) h7, fun q _ => by have := (h.p4 (res5 q (by decide))).2.2; omega, fun g => by obtain ⟨a, b, c, e⟩ := k.o6 (res5 g (by decide)); exact ⟨.inl a, .inl b, .inl c, .inl e⟩, fun g => by obtain ⟨a, b⟩ := k.o7 (res5 g (by decide)); exact ⟨.inl a, .inl b⟩⟩
theorem R5.store6 (h : R5 W sn s dn d D wx x0 x1 x2 x3 x4 x5 b4 b5 xs yd) (d4 : D 4) (d5 : D 5) (d1 : D 1) (d3 : D 3) (h6 : ¬ D 6) (h7 : ¬ D 7) : R5 W sn s dn d (fun j => D j ∨ j = 6) ((wx.setCell ⟨b4, 0, none⟩ (.int .i64 sn)).setCell ⟨b4, 1, none⟩ (.slice xs.p xs.n xs.c)) x0 x1 x2 x3 x4 x5 b4 b5 xs yd := by
  have hbt : But (fun x => x = b4) wx ((wx.setCell ⟨b4, 0, none⟩ (.int .i64 sn)).setCell ⟨b4, 1, none⟩ (.slice xs.p xs.n xs.c)) := ((But.one _ _).setAt 0 _).setAt 1 _
  obtain ⟨e4, q4, l4⟩ := h.p4 d4
  obtain ⟨e5, q5, l5⟩ := h.p5 d5
  have hne := h.ne d4 d5
  have hs := hbt.size
  refine ⟨h.bel.trans (hbt.below h.bel.size fun q hq => by omega), fun g => h.f0 (res5 g (by decide)), fun g => h.f2 (res5 g (by decide)), fun g => ?_, fun g => ?_, fun _ => ⟨e4, q4, by omega⟩, fun _ => ⟨e5, q5, by omega⟩, fun _ q => (q (.inr rfl)).elim, fun _ q => (h.z5 d5 h7).but hbt (by omega), fun _ => ⟨.inl d4, by simpa using ((h.z4 d4 h6).set 0 (.int .i64 sn)).set 1 (.slice xs.p xs.n xs.c)⟩, fun g => absurd (res5 g (by decide)) h7, fun _ _ => hne, fun _ => ⟨.inl d4, .inl d1, .inl d3, .inl d5⟩, fun g => absurd (res5 g (by decide)) h7⟩
  · obtain ⟨h1, h2, h3⟩ := h.f1 d1
    exact ⟨h1, h2, (h3.but hbt fun b hb _ e => hb.2.1 d4 e).mono fun b hb _ => ⟨hb.1, fun _ => hb.2.1 d4, fun _ => hb.2.2 d5⟩⟩
  · obtain ⟨h1, h2, h3⟩ := h.f3 d3
    exact ⟨h1, h2, (h3.kept hs fun b hb hl => hbt.block b hl (hb.2.1 d4)).mono fun b hb _ => ⟨hb.1, fun _ => hb.2.1 d4, fun _ => hb.2.2 d5⟩⟩
theorem R5.store7 (h : R5 W sn s dn d D wx x0 x1 x2 x3 x4 x5 b4 b5 xs yd) (d4 : D 4) (d5 : D 5) (d1 : D 1) (d3 : D 3) (d6 : D 6) (h7 : ¬ D 7) : R5 W sn s dn d (fun j => D j ∨ j = 7) ((wx.setCell ⟨b5, 0, none⟩ (.int .i64 dn)).setCell ⟨b5, 1, none⟩ (.slice yd.p yd.n yd.c)) x0 x1 x2 x3 x4 x5 b4 b5 xs yd := by
  have hbt : But (fun x => x = b5) wx ((wx.setCell ⟨b5, 0, none⟩ (.int .i64 dn)).setCell ⟨b5, 1, none⟩ (.slice yd.p yd.n yd.c)) := ((But.one _ _).setAt 0 _).setAt 1 _
  obtain ⟨e4, q4, l4⟩ := h.p4 d4
  obtain ⟨e5, q5, l5⟩ := h.p5 d5
  have hne := h.ne d4 d5
  have hs := hbt.size
  refine ⟨h.bel.trans (hbt.below h.bel.size fun q hq => by omega), fun g => h.f0 (res5 g (by decide)), fun g => h.f2 (res5 g (by decide)), fun g => ?_, fun g => ?_, fun _ => ⟨e4, q4, by omega⟩, fun _ => ⟨e5, q5, by omega⟩, fun _ q => (q (.inl d6)).elim, fun _ q => (q (.inr rfl)).elim, fun _ => ⟨.inl d4, (h.y6 d6).2.but hbt (by omega)⟩, fun _ => ⟨.inl d5, by simpa using ((h.z5 d5 h7).set 0 (.int .i64 dn)).set 1 (.slice yd.p yd.n yd.c)⟩, fun _ _ => hne, fun _ => ⟨.inl d4, .inl d1, .inl d3, .inl d5⟩, fun _ => ⟨.inl d6, .inl d3⟩⟩
  · obtain ⟨h1, h2, h3⟩ := h.f1 d1
    exact ⟨h1, h2, (h3.but hbt fun b hb _ e => hb.2.2 d5 e).mono fun b hb _ => ⟨hb.1, fun _ => hb.2.1 d4, fun _ => hb.2.2 d5⟩⟩
  · obtain ⟨h1, h2, h3⟩ := h.f3 d3
    exact ⟨h1, h2, (h3.kept hs fun b hb hl => hbt.block b hl (hb.2.2 d5)).mono fun b hb _ => ⟨hb.1, fun _ => hb.2.1 d4, fun _ => hb.2.2 d5⟩⟩
end
end Go.Proofs.Ytpknlbibijheaab

namespace Go.Proofs.Ytpknlbibijheaab
open Go.RowKit
set_option maxRecDepth 8000
/-- while cells and keys are gathered: a variable of a number and two rows -/
structure JoI (W3 wr : World) (O : Nat) (num : Int) (vO vP : Value) (xs : List VT) (ps : List ByteArray) : Prop where
  box : Box wr O #[.int .i64 num, vO, vP] 29
  own : CRow W3.heap.size wr vO xs
  row : StRow W3.heap.size wr vP ps
  ap : ∀ g, vO.ownBlock = some g → vP.ownBlock ≠ some g
  ap2 : ∀ j, j < xs.length → VT.In wr (fun b => W3.heap.size ≤ b ∧ vO.ownBlock ≠ some b ∧ vP.ownBlock ≠ some b) (xs.getD j zC)
  but : But (fun b => b = O) W3 wr
  lo : O < W3.heap.size
theorem JoI.below {W3 wr w' : World} {O : Nat} {num : Int} {vO vP : Value} {xs : List VT} {ps : List ByteArray} (h : JoI W3 wr O num vO vP xs ps) (hb : Below wr.heap.size wr w') : JoI W3 w' O num vO vP xs ps :=
  ⟨h.box.below hb, h.own.below hb, h.row.below hb, h.ap, fun j hj => (h.ap2 j hj).below hb, h.but.trans (But.ofBelow hb), h.lo⟩
theorem JoI.midO {W3 wr w5 : World} {O : Nat} {num : Int} {vO vP : Value} {xs : List VT} {ps : List ByteArray} {o : Obj} (h : JoI W3 wr O num vO vP xs ps) (hg : (wr.alloc o).grownBy w5 vO.ownBlock) : Box w5 O #[.int .i64 num, vO, vP] 29 := by
  have hl := h.box.lt
  refine (h.box.below (below1 wr o)).kept (hg.block _ (by simp; omega) fun e => ?_)
  have := (h.own.own.lt _ e.symm).1
  have := h.lo
  omega
theorem JoI.midP {W3 wr w5 : World} {O : Nat} {num : Int} {vO vP : Value} {xs : List VT} {ps : List ByteArray} {o : Obj} (h : JoI W3 wr O num vO vP xs ps) (hg : (wr.alloc o).grownBy w5 vP.ownBlock) : Box w5 O #[.int .i64 num, vO, vP] 29 := by
  have hl := h.box.lt
  refine (h.box.below (below1 wr o)).kept (hg.block _ (by simp; omega) fun e => ?_)
  have := (h.row.lt _ e.symm).1
  have := h.lo
  omega
theorem near_not {w : World} {v v' : Value} {b : Nat} (hn : Near w v v') (hv : v.ownBlock ≠ some b) (hb : b < w.heap.size) : v'.ownBlock ≠ some b := fun e => by
  rcases hn with h1 | h1
  · exact hv (h1 ▸ e)
  · have := h1 b e; omega
theorem JoI.stepO {W3 wr w5 : World} {O : Nat} {num : Int} {vO vP v5 : Value} {xs : List VT} {ps : List ByteArray} {o : Obj} {u : VT} (h : JoI W3 wr O num vO vP xs ps) (hu : VT.In wr (fun b => W3.heap.size ≤ b ∧ vO.ownBlock ≠ some b ∧ vP.ownBlock ≠ some b) u)
    (hown : w5.ownsRow W3.heap.size 45 2 v5 (xs.length + 1) (((List.range xs.length).flatMap fun j => elCell.cells (xs.getD j zC)) ++ elCell.cells u)) (hg : (wr.alloc o).grownBy w5 vO.ownBlock) (hn : Near (wr.alloc o) vO v5) : JoI W3 (w5.setCell ⟨O, 1, none⟩ v5) O num v5 vP (xs ++ [u]) ps := by
  have hlo := h.lo
  have hbs := h.but.size
  have h0 := h.below (below1 wr o)
  have hsz : (wr.alloc o).heap.size = wr.heap.size + 1 := by simp
  have h1 : CRow W3.heap.size w5 v5 (xs ++ [u]) := h0.own.push ((hu.below (below1 wr o)).mono fun b hb _ => ⟨hb.1, hb.2.1⟩) hown hg hn
  have hb1 : But (fun q => q = O) w5 (w5.setCell ⟨O, 1, none⟩ v5) := (But.one w5 O).setAt _ _
  have mvI : ∀ {c : VT}, VT.In (wr.alloc o) (fun b => W3.heap.size ≤ b ∧ vO.ownBlock ≠ some b ∧ vP.ownBlock ≠ some b) c → VT.In (w5.setCell ⟨O, 1, none⟩ v5) (fun b => W3.heap.size ≤ b ∧ v5.ownBlock ≠ some b ∧ vP.ownBlock ≠ some b) c := fun {c} hc => by
    have k1 : VT.In (wr.alloc o) (fun b => W3.heap.size ≤ b ∧ vO.ownBlock ≠ some b ∧ vP.ownBlock ≠ some b ∧ v5.ownBlock ≠ some b) c := hc.mono fun b hb hl => ⟨hb.1, hb.2.1, hb.2.2, near_not hn hb.2.1 hl⟩
    have k2 := k1.kept hg.size fun b hb hl => hg.block b hl fun e => hb.2.1 e.symm
    have k3 := k2.but hb1 fun b hb _ e => by have := hb.1; omega
    exact k3.mono fun b hb _ => ⟨hb.1, hb.2.2.2, hb.2.2.1⟩
  refine ⟨by simpa using (h.midO hg).set 1 v5, OwnL.keep h1 hb1.size fun k hk hl => hb1.block k hl (by omega), ?_, ?_, ?_, ?_, hlo⟩
  · refine ownsRow_keep (ownsRow_keep h0.row fun g hg2 hl => hg.block g hl fun e => h.ap g e.symm hg2) fun g hg2 hl => hb1.block g hl ?_
    have := (h.row.lt g hg2).1
    omega
  · intro g hg1 hg2
    rcases hn with hn | hn
    · exact h.ap g (hn ▸ hg1) hg2
    · have := hn g hg1
      have := (h.row.lt g hg2).2
      omega
  · intro j hj
    rw [List.length_append, List.length_singleton] at hj
    by_cases hjn : j < xs.length
    · have e : (xs ++ [u]).getD j zC = xs.getD j zC := by simp [hjn, List.getElem?_append_left hjn]
      rw [e]
      exact mvI (h0.ap2 j hjn)
    · obtain rfl : j = xs.length := by omega
      have e : (xs ++ [u]).getD xs.length zC = u := by simp
      rw [e]
      exact mvI (hu.below (below1 wr o))
  · refine ((h.but.trans (But.ofBelow (below1 wr o))).grown hg fun k hk hl => ?_).trans hb1
    have := (h.own.own.lt k hk).1
    omega
theorem JoI.stepP {W3 wr w5 : World} {O : Nat} {num : Int} {vO vP v5 : Value} {xs : List VT} {ps : List ByteArray} {o : Obj} {key : ByteArray} (h : JoI W3 wr O num vO vP xs ps)
    (hown : StRow W3.heap.size w5 v5 (ps ++ [key])) (hg : (wr.alloc o).grownBy w5 vP.ownBlock) (hn : Near (wr.alloc o) vP v5) : JoI W3 (w5.setCell ⟨O, 2, none⟩ v5) O num vO v5 xs (ps ++ [key]) := by
  have hlo := h.lo
  have hbs := h.but.size
  have h0 := h.below (below1 wr o)
  have hsz : (wr.alloc o).heap.size = wr.heap.size + 1 := by simp
  have hb1 : But (fun q => q = O) w5 (w5.setCell ⟨O, 2, none⟩ v5) := (But.one w5 O).setAt _ _
  have mvI : ∀ {c : VT}, VT.In (wr.alloc o) (fun b => W3.heap.size ≤ b ∧ vO.ownBlock ≠ some b ∧ vP.ownBlock ≠ some b) c → VT.In (w5.setCell ⟨O, 2, none⟩ v5) (fun b => W3.heap.size ≤ b ∧ vO.ownBlock ≠ some b ∧ v5.ownBlock ≠ some b) c := fun {c} hc => by
    have k1 : VT.In (wr.alloc o) (fun b => W3.heap.size ≤ b ∧ vO.ownBlock ≠ some b ∧ vP.ownBlock ≠ some b ∧ v5.ownBlock ≠ some b) c := hc.mono fun b hb hl => ⟨hb.1, hb.2.1, hb.2.2, near_not hn hb.2.2 hl⟩
    have k2 := k1.kept hg.size fun b hb hl => hg.block b hl fun e => hb.2.2.1 e.symm
    have k3 := k2.but hb1 fun b hb _ e => by have := hb.1; omega
    exact k3.mono fun b hb _ => ⟨hb.1, hb.2.1, hb.2.2.2⟩
  refine ⟨by simpa using (h.midP hg).set 2 v5, ?_, ownsRow_keep hown fun g hg2 hl => hb1.block g hl (by have := (hown.lt g hg2).1; omega), ?_, fun j hj => mvI (h0.ap2 j hj), ?_, hlo⟩
  · refine ⟨?_, fun j hj => (mvI (h0.ap2 j hj)).mono fun b hb _ => ⟨hb.1, hb.2.1⟩⟩
    refine ownsRow_keep (ownsRow_keep h0.own.own fun g hg2 hl => hg.block g hl fun e => h.ap g hg2 e.symm) fun g hg2 hl => hb1.block g hl ?_
    have := (h.own.own.lt g hg2).1
    omega
  · intro g hg1 hg2
    rcases hn with hn | hn
    · exact h.ap g hg1 (hn ▸ hg2)
    · have := hn g hg2
      have := (h.own.own.lt g hg1).2
      omega
  · refine ((h.but.trans (But.ofBelow (below1 wr o))).grown hg fun k hk hl => ?_).trans hb1
    have := (h.row.lt k hk).1
    omega
theorem jGone_has {d f : DT} (hd : Rise id d.gone.toL) (hf : Rise id f.gone.toL) : (jGone d f).length < f.gone.n ↔ ∃ g ∈ f.gone.toL, g ∈ d.gone.toL := by
  have hsub : (jGone d f).Sublist f.gone.toL := wo_sub _ _ _ _ _ _
  have hl := LT.toL_len f.gone
  constructor
  · intro h
    refine Classical.byContradiction fun hn => ?_
    have e : jGone d f = f.gone.toL := by
      refine Rise.ext (k := id) (wo_rise _ _ _ _ hf hd) hf fun x => ?_
      rw [jGone, wo_mem _ _ _ _ hf hd x]
      exact ⟨fun h => h.1, fun h => ⟨h, fun y hy e => hn ⟨x, h, by have e2 : y = x := e; rw [← e2]; exact hy⟩⟩⟩
    rw [e, hl] at h
    omega
  · rintro ⟨g, h1, h2⟩
    rcases Nat.lt_or_ge (jGone d f).length f.gone.n with h | h
    · exact h
    · have e := hsub.eq_of_length_le (by omega)
      have : g ∈ jGone d f := by rw [e]; exact h1
      rw [jGone, wo_mem _ _ _ _ hf hd g] at this
      exact (this.2 g h2 rfl).elim
theorem joinE_val {d f : DT} (h1 : chkD d = 0) (h2 : chkD f = 0) : ((∃ g ∈ f.gone.toL, g ∈ d.gone.toL) → joinE d f = 110) ∧ ((∀ g ∈ f.gone.toL, g ∉ d.gone.toL) → joinE d f = if 64 < (jS d.nS f.gone.toL f.nS).length ∨ 64 < (jG d.gone.toL f.nS f.gone.toL).length then 111 else 0) := by
  have hg := jGone_has (d := d) (f := f) (chkD_ok h1).gone (chkD_ok h2).gone
  have e1 : (jSet d f).length = (jS d.nS f.gone.toL f.nS).length := by rw [DT.nS, DT.nS, jS_nat, List.length_map]; rfl
  have e2 : (jAll d f).length = (jG d.gone.toL f.nS f.gone.toL).length := by rw [DT.nS, jG_nat]; rfl
  unfold joinE
  rw [if_neg (by simpa using h1), if_neg (by simpa using h2)]
  constructor
  · intro h
    rw [if_pos (hg.2 h)]
  · intro h
    rw [if_neg (fun k => by obtain ⟨g, a, b⟩ := hg.1 k; exact h g a b), e1, e2]
structure JoK (d f : DT) (K : List ByteArray) : Prop where
  hd : DOk d
  hf : DOk f
  rK : Rise id K
  mK : ∀ k, k ∈ K ↔ keyIn d.set.toL k ∨ keyIn f.set.toL k ∨ k ∈ d.gone.toL ∨ k ∈ f.gone.toL
theorem JoK.rR {d f : DT} {K : List ByteArray} (h : JoK d f K) : Rise VT.text (jS d.nS f.gone.toL f.nS) := jS_rise (nS_rise h.hd.set) (nS_rise h.hf.set) h.hf.gone
theorem JoK.rG {d f : DT} {K : List ByteArray} (h : JoK d f K) : Rise id (jG d.gone.toL f.nS f.gone.toL) := jG_rise h.hd.gone h.hf.gone (nS_rise h.hf.set)
theorem JoK.inS {d f : DT} {K : List ByteArray} (h : JoK d f K) : ∀ c ∈ jS d.nS f.gone.toL f.nS, c.text ∈ K := by
  intro c hc
  rw [h.mK]
  rcases (keyIn_jS (nS_rise h.hd.set) (nS_rise h.hf.set) h.hf.gone c.text).1 ⟨c, hc, rfl⟩ with h1 | ⟨h1, _⟩
  · exact .inr (.inl (keyIn_norm.1 h1))
  · exact .inl (keyIn_norm.1 h1)
theorem JoK.inG {d f : DT} {K : List ByteArray} (h : JoK d f K) : ∀ k ∈ jG d.gone.toL f.nS f.gone.toL, id k ∈ K := by
  intro k hk
  show k ∈ K
  rw [h.mK]
  rcases (jG_key h.hd.gone h.hf.gone (nS_rise h.hf.set) k).1 hk with h1 | ⟨h1, _⟩
  · exact .inr (.inr (.inr h1))
  · exact .inr (.inr (.inl h1))
def zD : DT := ⟨0, ⟨none, 0, 0, fun _ => zC⟩, ⟨none, 0, 0, fun _ => ⟨#[]⟩⟩⟩
theorem zD_in (w : World) (S : Nat → Prop) : DT.In w S zD := ⟨LT.In.none_ _ _ _ none 0 _ (Nat.zero_le _) (fun _ => rfl), LT.In.none_ _ _ _ none 0 _ (Nat.zero_le _) (fun _ => rfl), by show (-9223372036854775808 : Int) ≤ 0; omega, by show (0 : Int) ≤ 9223372036854775807; omega⟩
theorem strs_toL (p : Option Addr) (c : Nat) (ps : List ByteArray) : LT.toL ⟨p, ps.length, c, fun j => ps.getD j ⟨#[]⟩⟩ = ps := by
  unfold LT.toL
  apply List.ext_getElem
  · simp
  · intro i h1 h2
    simp at h1
    simp [h1]
theorem StRow.in_ {base : Nat} {w : World} {p : Option Addr} {n c : Nat} {ps : List ByteArray} (h : StRow base w (.slice p n c) ps) (hn : ps.length ≤ 140737488355328) (hk : ∀ k ∈ ps, k.size ≤ 140737488355328) : LT.In elStr w (fun b => base ≤ b) ⟨p, ps.length, c, fun j => ps.getD j ⟨#[]⟩⟩ ∧ n = ps.length := by
  have e : ps.map Value.string = (List.range ps.length).flatMap fun j => elStr.cells (ps.getD j ⟨#[]⟩) := by
    have h1 := strs_flat ⟨p, ps.length, c, fun j => ps.getD j ⟨#[]⟩⟩
    rw [strs_toL] at h1
    exact h1.symm
  have h2 : OwnL elStr base w (.slice p n c) ps.length (fun j => ps.getD j ⟨#[]⟩) := by
    refine ⟨by rw [← e]; exact h, fun j hj => ?_⟩
    show (ps.getD j ⟨#[]⟩).size ≤ _
    have e2 : ps.getD j ⟨#[]⟩ = ps[j] := by simp [hj]
    rw [e2]
    exact hk _ (List.getElem_mem hj)
  obtain ⟨p', c', e3, h3⟩ := h2.in_ hn
  cases e3
  exact ⟨h3, rfl⟩
end Go.Proofs.Ytpknlbibijheaab
