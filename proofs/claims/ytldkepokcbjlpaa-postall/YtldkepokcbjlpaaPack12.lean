import Derived.Test.YtldkepokcbjlpaaPack11
import Derived.Deep.DeepCutAuto
namespace Go.Proofs.Ytldkepokcbjlpaa
open Go.RowKit
set_option maxRecDepth 60000
def LT.push {α : Type} (l : LT α) (p : Option Addr) (c : Nat) (u : α) : LT α := ⟨p, l.n + 1, c, fun q => if q < l.n then l.item q else u⟩
def Ps.C (P : Ps) (b k : Nat) : Prop := k = b ∨ P.lv.ownBlock = some k
structure QSet (w : World) (b : Nat) (P : Ps) (w' : World) (P' : Ps) : Prop where
  inv : PsI w' b P'
  but : But (P.C b) w w'
  cs : ∀ k, P'.C b k → P.C b k ∨ w.heap.size ≤ k
theorem PsI.lt {w : World} {b : Nat} {P : Ps} (h : PsI w b P) {k : Nat} (hk : P.C b k) : k < w.heap.size := by
  rcases hk with rfl | e
  · exact h.box.lt
  · exact (h.own.lt k e).2
theorem QSet.same {w w' : World} {b : Nat} {P : Ps} (h : PsI w b P) (hb : Below w.heap.size w w') : QSet w b P w' P := ⟨h.below hb, But.ofBelow hb, fun _ hk => .inl hk⟩
theorem QSet.trans {w w1 w2 : World} {b : Nat} {P P1 P2 : Ps} (h : QSet w b P w1 P1) (g : QSet w1 b P1 w2 P2) : QSet w b P w2 P2 := by
  refine ⟨g.inv, ⟨g.but.os.trans h.but.os, g.but.tape.trans h.but.tape, g.but.output.trans h.but.output, Nat.le_trans h.but.size g.but.size, fun k hl hn => ?_⟩, fun k hk => ?_⟩
  · exact (g.but.block k (Nat.lt_of_lt_of_le hl h.but.size) (fun e => by rcases h.cs k e with h1 | h1; exact hn h1; omega)).trans (h.but.block k hl hn)
  · rcases g.cs k hk with h1 | h1
    · exact h.cs k h1
    · exact .inr (Nat.le_trans h.but.size h1)
def Ps.push (P : Ps) (p : Option Addr) (c : Nat) (x : Int) : Ps := { P with sts := P.sts.push p c x }
theorem rowsU_push (l : LT Int) (p : Option Addr) (c : Nat) (u : Int) : rowsU (l.push p c u) = rowsU l ++ elU8.cells u := by
  unfold rowsU LT.push
  simp only
  rw [List.range_succ, List.flatMap_append]
  congr 1
  · rw [List.flatMap_def, List.flatMap_def]
    congr 1
    apply List.map_congr_left
    intro j hj
    rw [if_pos (List.mem_range.1 hj)]
  · simp
theorem PsI.pushed {w w1 w2 : World} {b : Nat} {P : Ps} {p : Option Addr} {c : Nat} {x : Int} (h : PsI w b P) (hx : 0 ≤ x ∧ x ≤ 4) (hn : (P.sts.n : Int) + 1 ≤ 10000) (hb : Below w.heap.size w w1) (ho : w2.ownsRow 0 85 1 (.slice p (P.sts.n + 1) c) (P.sts.n + 1) (rowsU P.sts ++ elU8.cells x)) (hg : w1.grownBy w2 P.lv.ownBlock) (hnr : Near w1 P.lv (.slice p (P.sts.n + 1) c)) :
    QSet w b P (w2.setCell ⟨b, 3, none⟩ (.slice p (P.sts.n + 1) c)) (P.push p c x) := by
  have h1 := h.below hb
  have hbx : Box w2 b P.arr 84 := h1.box.kept (hg.block b h1.box.lt (fun e => h.ne e.symm))
  have hvb : (Value.slice p (P.sts.n + 1) c).ownBlock ≠ some b := fun e => by
    rcases hnr with h2 | h2
    · exact h.ne (by rw [← h2]; exact e)
    · have := h2 b e; have := h1.box.lt; omega
  rw [← rowsU_push P.sts p c x] at ho
  refine ⟨⟨?_, ?_, hvb, fun j hj => ?_, h.t0, h.t1, h.f0, h.f1, ?_⟩, ⟨?_, ?_, ?_, ?_, fun k hl hk => ?_⟩, fun k hk => ?_⟩
  · have := hbx.set 3 (.slice p (P.sts.n + 1) c)
    exact this
  · exact ownsRow_keep ho (fun k hk _ => Below.heap_setCell _ _ _ _ (fun e => hvb (by have e2 : k = b := (by simp only at e; omega); rw [← e2]; exact hk)))
  · simp only [Ps.push, LT.push]
    split
    · exact h.st j (by assumption)
    · exact hx
  · show ((P.sts.n + 1 : Nat) : Int) ≤ 10000; omega
  · exact hg.os.trans hb.os
  · exact hg.tape.trans hb.tape
  · exact hg.output.trans hb.output
  · have h3 := hg.size; have h4 := hb.size; have h5 : (w2.setCell ⟨b, 3, none⟩ (.slice p (P.sts.n + 1) c)).heap.size = w2.heap.size := by simp [World.setCell]
    omega
  · rw [Below.heap_setCell _ _ _ _ (fun e => hk (.inl (by simp only at e; omega)))]
    exact (hg.block k (Nat.lt_of_lt_of_le hl hb.size) (fun e => hk (.inr e.symm))).trans (hb.block k hl)
  · rcases hk with e | e
    · exact .inl (.inl e)
    · rcases hnr with h2 | h2
      · exact .inl (.inr (by rw [← h2]; exact e))
      · exact .inr (Nat.le_trans hb.size (h2 k e))
theorem kindU8 : ∃ i, Kind 77 85 i (.int .u8 0) 1 1 := by
  obtain ⟨i0, hi, hz0, hz1, hz2⟩ := info_parts (show (Try.prog.info? 85).map (fun i => (i.zero, i.size, i.bytes)) = some (some (.int .u8 0), 1, 1) by kernel_rfl)
  exact ⟨i0, Try.underlying77, hi, hz0, hz1, hz2, rfl, by decide⟩
def Ps.trigE (P : Ps) : Int := if P.under ≠ 0 then 141 else if 9999 < P.next then 142 else 0
structure TrigQ (w : World) (b : Nat) (P : Ps) (e : Ending) (w' : World) (P' : Ps) : Prop where
  s : QSet w b P w' P'
  n : ¬ P.trigE = 0 → P' = P ∧ e = .returned (.tuple #[.int .i64 0, .int .i64 P.trigE])
  y : P.trigE = 0 → e = .returned (.tuple #[.int .i64 P.next, .int .i64 0]) ∧ ∃ p c, P' = P.push p c 1
def TrigP (w : World) (b : Nat) (P : Ps) (e : Ending) (w' : World) : Prop := ∃ P', TrigQ w b P e w' P'
set_option maxHeartbeats 4000000 in
theorem trigger_any (w : World) (b : Nat) (P : Ps) (hI : PsI w b P) : Calls Try.prog 12 #[.pointer (some ⟨b, 0, none⟩)] w fun e w' => TrigP w b P e w' := by
  have HI := hid hI
  have HN := hid (next_any w b P hI)
  have HU : Hid (∀ V, Below w.heap.size w V → Calls Try.prog 30 #[.pointer (some ⟨b, 0, none⟩)] V fun e w' => e = .returned (.int .i64 P.under) ∧ Below V.heap.size V w') := fun V hV => under_any V b P (hI.below hV)
  clear hI
  by_cases h1 : P.under = 0
  rotate_left
  · have HE : Hid (P.trigE = 141) := if_pos h1
    have h1' : (P.under != 0) = true := by simp [h1]
    clear h1
    go_enter Try.func12, Try.ntmps12
    go_wp2_with (first | (go_at_call 29; refine HN.out.mono ?_; rintro e w1 ⟨rfl, hb1⟩) | (go_at_call 30; refine (HU.out _ hb1).mono ?_; rintro e w2 ⟨rfl, hb2⟩))
    refine bodyPost_ret (v := .tuple #[.int .i64 0, .int .i64 141]) (by simp [results, Try.results12, go_sem]) rfl ?_
    exact ⟨P, QSet.same HI.out (hb1.trans (hb2.mono hb1.size)), fun _ => ⟨rfl, by rw [HE.out]⟩, fun h => (by rw [HE.out] at h; cases h)⟩
  have HH := hid h1
  by_cases h2 : 9999 < P.next
  · have HE : Hid (P.trigE = 142) := by unfold Hid Ps.trigE; rw [if_neg (by simpa using h1), if_pos h2]
    clear h1
    go_enter Try.func12, Try.ntmps12
    go_wp2_with (first | (go_at_call 29; refine HN.out.mono ?_; rintro e w1 ⟨rfl, hb1⟩) | (go_at_call 30; refine (HU.out _ hb1).mono ?_; rintro e w2 ⟨rfl, hb2⟩; rw [HH.out]))
    refine bodyPost_ret (v := .tuple #[.int .i64 0, .int .i64 142]) (by simp [results, Try.results12, go_sem]) rfl ?_
    exact ⟨P, QSet.same HI.out (hb1.trans (hb2.mono hb1.size)), fun _ => ⟨rfl, by rw [HE.out]⟩, fun h => (by rw [HE.out] at h; cases h)⟩
  have HE : Hid (P.trigE = 0) := by unfold Hid Ps.trigE; rw [if_neg (by simpa using h1), if_neg h2]
  have hn9 : (P.sts.n : Int) + 1 ≤ 10000 := by unfold Ps.next at h2; have := HI.out.f0; omega
  obtain ⟨i0, Kd⟩ := kindU8
  have HKd := hid Kd
  clear h1 Kd
  go_enter Try.func12, Try.ntmps12
  go_upto_region 6 with (first | (go_at_call 29; refine HN.out.mono ?_; rintro e w1 ⟨rfl, hb1⟩) | (go_at_call 30; refine (HU.out _ hb1).mono ?_; rintro e w2 ⟨rfl, hb2⟩; rw [HH.out]))
  have hb := hb1.trans (hb2.mono hb1.size)
  have HB := hid hb
  have hI2 := HI.out.below hb
  have c3 := hI2.box.cell 3
  have f3 := hI2.box.frozen 3
  have bl := hI2.box.lt
  simp [Ps.arr] at c3
  have hal : Below w2.heap.size w2 (w2.alloc (.cells #[.int .u8 1] 85)) := (Below.refl _ _).alloc (Nat.le_refl _) _
  have HIa := hid (hI2.below hal)
  have HNw : Hid (∀ j u', (elU8.cells 1)[j]? = some u' → (w2.alloc (.cells #[.int .u8 1] 85)).cell? ((⟨w2.heap.size, 0, none⟩ : Addr).add j) = some u') := fun j u' hu => by
    rw [Go.WideShapes.add_plain, (Box.new w2 #[.int .u8 1] 85).cell]
    rw [show 0 + j = j by omega]
    simpa [elU8] using hu
  have HAl := hid hal
  clear hI2 hal hb hb1 hb2 HN HU
  go_wp2_with (at_builtin; refine wpList_app rfl (.tmp 18) (.tmp 19) 77 85 i0 _ 1 1 HKd.out rfl 0 (.slice P.sts.p P.sts.n P.sts.c) P.sts.n (rowsU P.sts) rfl HIa.out.own ⟨w2.heap.size, 0, none⟩ 1 1 (elU8.cells 1) rfl rfl HNw.out (elU8.one 1) (by omega) (by omega) (Nat.zero_le _) ?_)
  intro v6 w6 ho6 hg6 hn6
  obtain ⟨p6, c6, rfl⟩ := ownsRow_slice ho6
  have hb6 : Box w6 b P.arr 84 := HIa.out.box.kept (hg6.block b HIa.out.box.lt (fun e => HI.out.ne e.symm))
  have y3 := hb6.cell 3
  have g3 := hb6.frozen 3
  have bl6 := hb6.lt
  simp [Ps.arr] at y3
  have HS6 := hid (HI.out.pushed (w1 := w2.alloc (.cells #[.int .u8 1] 85)) (w2 := w6) (p := p6) (c := c6) (x := 1) ⟨by omega, by omega⟩ hn9 (HB.out.trans (HAl.out.mono HB.out.size)) ho6 hg6 hn6)
  clear ho6 hg6 hn6 hb6 HNw
  go_wp2
  refine bodyPost_ret (v := .tuple #[.int .i64 P.next, .int .i64 0]) (by simp [results, Try.results12, go_sem]) rfl ?_
  exact ⟨P.push p6 c6 1, HS6.out, fun h => absurd HE.out h, fun _ => ⟨rfl, p6, c6, rfl⟩⟩
end Go.Proofs.Ytldkepokcbjlpaa

namespace Go.Proofs.Ytldkepokcbjlpaa
open Go.RowKit
set_option maxRecDepth 60000
def Ps.setSt (P : Ps) (i : Nat) (x : Int) : Ps := { P with sts := { P.sts with item := fun j => if j = i then x else P.sts.item j } }
theorem rowsU_map (l : LT Int) : rowsU l = (List.range l.n).map fun j => Value.int .u8 (l.item j) := by
  unfold rowsU
  exact List.map_eq_flatMap.symm
theorem rowsU_set (l : LT Int) (i : Nat) (x : Int) : (rowsU l).set i (.int .u8 x) = rowsU { l with item := fun j => if j = i then x else l.item j } := by
  rw [rowsU_map, rowsU_map]
  apply List.ext_getElem?
  intro k
  rw [List.getElem?_set]
  simp only [List.length_map, List.length_range, List.getElem?_map]
  by_cases hk : k < l.n
  · rw [List.getElem?_range hk]
    by_cases hi : i = k
    · subst hi; simp [hk]
    · rw [if_neg hi]
      have : ¬ k = i := fun e => hi e.symm
      simp [this]
  · rw [List.getElem?_eq_none (by simp; omega)]
    by_cases hi : i = k
    · subst hi; simp [hk]
    · rw [if_neg hi]; rfl
theorem ownsRow_put {w : World} {base : Nat} {e : TypeId} {p : Option Addr} {n c : Nat} {xs : List Value} {g o j : Nat} (h : w.ownsRow base e 1 (.slice p n c) n xs) (hp : p = some ⟨g, o, none⟩) (hj : j < n) (u : Value) : o = 0 ∧ (w.setCell ⟨g, j, none⟩ u).ownsRow base e 1 (.slice p n c) n (xs.set j u) := by
  obtain ⟨hl, ⟨hv, h0⟩ | ⟨g2, cap, cur, hv, hb, hh, hnc, hcm, hcs, ht⟩⟩ := h
  · omega
  · simp only [Value.slice.injEq] at hv
    obtain ⟨rfl, _, rfl⟩ := hv
    simp only [Option.some.injEq, Addr.mk.injEq] at hp
    obtain ⟨rfl, rfl, _⟩ := hp
    refine ⟨rfl, by rw [List.length_set]; exact hl, .inr ⟨g2, c, cur.setIfInBounds j u, rfl, hb, ?_, hnc, hcm, by simpa using hcs, ?_⟩⟩
    · have hb2 : Box w g2 cur e := hh
      exact hb2.set j u
    · rw [Array.toList_setIfInBounds, ← ht, Nat.mul_one, List.take_set]
theorem ownsRow_frozen {w : World} {base : Nat} {e : TypeId} {p : Option Addr} {n c : Nat} {xs : List Value} {g o : Nat} (h : w.ownsRow base e 1 (.slice p n c) n xs) (hp : p = some ⟨g, o, none⟩) (j : Nat) : w.frozen? ⟨g, j, none⟩ = false := by
  obtain ⟨hl, ⟨hv, h0⟩ | ⟨g2, cap, cur, hv, hb, hh, hnc, hcm, hcs, ht⟩⟩ := h
  · simp only [Value.slice.injEq] at hv
    rw [hv.1] at hp; cases hp
  · simp only [Value.slice.injEq] at hv
    obtain ⟨rfl, _, rfl⟩ := hv
    simp only [Option.some.injEq, Addr.mk.injEq] at hp
    obtain ⟨rfl, rfl, _⟩ := hp
    have hb2 : Box w g2 cur e := hh
    exact hb2.frozen j
end Go.Proofs.Ytldkepokcbjlpaa
