import Derived.Test.YtdpfgflofjiheaaZt
namespace Go.Proofs.Ytdpfgflofjiheaa
open Go.RowKit
set_option maxRecDepth 8000
theorem AnI.grow_a {w w' : World} {S : Nat → Prop} {X : An} {v' : Value} {x : EV} (h : AnI w S X) (hr : EvRow 0 w' v' (X.a ++ [x])) (hg_ : w.grownBy w' X.va.ownBlock) (hn : Near w X.va v') (hS : ∀ b, w.heap.size ≤ b → S b) (hl : X.a.length < 4398046511064) : AnI w' S { X with va := v', a := X.a ++ [x] } := by
  obtain ⟨l1, l2, l3, l4⟩ := h.ll
  exact ⟨hr, ownsRow_keep h.rb fun g hg hl => hg_.block g hl fun e => h.ab g e.symm hg, ownsRow_keep h.rc fun g hg hl => hg_.block g hl fun e => h.ac g e.symm hg, ownsRow_keep h.rp fun g hg hl => hg_.block g hl fun e => h.ap g e.symm hg, (fun g hg => hn.elim (fun h1 => h.sa g (h1 ▸ hg)) (fun h1 => hS g (h1 g hg))), h.sb, h.sc, h.sp, (fun g hg e => (hn.elim (fun h1 => h.ab g (h1 ▸ hg) e) (fun h1 => by have := h1 g hg; have := (World.ownsRow.lt h.rb g e).2; omega))), (fun g hg e => (hn.elim (fun h1 => h.ac g (h1 ▸ hg) e) (fun h1 => by have := h1 g hg; have := (World.ownsRow.lt h.rc g e).2; omega))), (fun g hg e => (hn.elim (fun h1 => h.ap g (h1 ▸ hg) e) (fun h1 => by have := h1 g hg; have := (World.ownsRow.lt h.rp g e).2; omega))), h.bc, h.bp, h.cp, ⟨(by simp only [List.length_append, List.length_singleton]; omega), l2, l3, l4⟩⟩
theorem AnI.grow_b {w w' : World} {S : Nat → Prop} {X : An} {v' : Value} {x : EV} (h : AnI w S X) (hr : EvRow 0 w' v' (X.b ++ [x])) (hg_ : w.grownBy w' X.vb.ownBlock) (hn : Near w X.vb v') (hS : ∀ b, w.heap.size ≤ b → S b) (hl : X.b.length < 4398046511064) : AnI w' S { X with vb := v', b := X.b ++ [x] } := by
  obtain ⟨l1, l2, l3, l4⟩ := h.ll
  exact ⟨ownsRow_keep h.ra fun g hg hl => hg_.block g hl fun e => h.ab g hg e.symm, hr, ownsRow_keep h.rc fun g hg hl => hg_.block g hl fun e => h.bc g e.symm hg, ownsRow_keep h.rp fun g hg hl => hg_.block g hl fun e => h.bp g e.symm hg, h.sa, (fun g hg => hn.elim (fun h1 => h.sb g (h1 ▸ hg)) (fun h1 => hS g (h1 g hg))), h.sc, h.sp, (fun g hg e => (hn.elim (fun h1 => h.ab g hg (h1 ▸ e)) (fun h1 => by have := h1 g e; have := (World.ownsRow.lt h.ra g hg).2; omega))), h.ac, h.ap, (fun g hg e => (hn.elim (fun h1 => h.bc g (h1 ▸ hg) e) (fun h1 => by have := h1 g hg; have := (World.ownsRow.lt h.rc g e).2; omega))), (fun g hg e => (hn.elim (fun h1 => h.bp g (h1 ▸ hg) e) (fun h1 => by have := h1 g hg; have := (World.ownsRow.lt h.rp g e).2; omega))), h.cp, ⟨l1, (by simp only [List.length_append, List.length_singleton]; omega), l3, l4⟩⟩
theorem AnI.grow_c {w w' : World} {S : Nat → Prop} {X : An} {v' : Value} {x : EV} (h : AnI w S X) (hr : EvRow 0 w' v' (X.c ++ [x])) (hg_ : w.grownBy w' X.vc.ownBlock) (hn : Near w X.vc v') (hS : ∀ b, w.heap.size ≤ b → S b) (hl : X.c.length < 4398046511064) : AnI w' S { X with vc := v', c := X.c ++ [x] } := by
  obtain ⟨l1, l2, l3, l4⟩ := h.ll
  exact ⟨ownsRow_keep h.ra fun g hg hl => hg_.block g hl fun e => h.ac g hg e.symm, ownsRow_keep h.rb fun g hg hl => hg_.block g hl fun e => h.bc g hg e.symm, hr, ownsRow_keep h.rp fun g hg hl => hg_.block g hl fun e => h.cp g e.symm hg, h.sa, h.sb, (fun g hg => hn.elim (fun h1 => h.sc g (h1 ▸ hg)) (fun h1 => hS g (h1 g hg))), h.sp, h.ab, (fun g hg e => (hn.elim (fun h1 => h.ac g hg (h1 ▸ e)) (fun h1 => by have := h1 g e; have := (World.ownsRow.lt h.ra g hg).2; omega))), h.ap, (fun g hg e => (hn.elim (fun h1 => h.bc g hg (h1 ▸ e)) (fun h1 => by have := h1 g e; have := (World.ownsRow.lt h.rb g hg).2; omega))), h.bp, (fun g hg e => (hn.elim (fun h1 => h.cp g (h1 ▸ hg) e) (fun h1 => by have := h1 g hg; have := (World.ownsRow.lt h.rp g e).2; omega))), ⟨l1, l2, (by simp only [List.length_append, List.length_singleton]; omega), l4⟩⟩
theorem AnI.grow_p {w w' : World} {S : Nat → Prop} {X : An} {v' : Value} {x : Int} (h : AnI w S X) (hr : InRow 0 w' v' (X.p ++ [x])) (hg_ : w.grownBy w' X.vp.ownBlock) (hn : Near w X.vp v') (hS : ∀ b, w.heap.size ≤ b → S b) (hl : X.p.length < 4398046511064) : AnI w' S { X with vp := v', p := X.p ++ [x] } := by
  obtain ⟨l1, l2, l3, l4⟩ := h.ll
  exact ⟨ownsRow_keep h.ra fun g hg hl => hg_.block g hl fun e => h.ap g hg e.symm, ownsRow_keep h.rb fun g hg hl => hg_.block g hl fun e => h.bp g hg e.symm, ownsRow_keep h.rc fun g hg hl => hg_.block g hl fun e => h.cp g hg e.symm, hr, h.sa, h.sb, h.sc, (fun g hg => hn.elim (fun h1 => h.sp g (h1 ▸ hg)) (fun h1 => hS g (h1 g hg))), h.ab, h.ac, (fun g hg e => (hn.elim (fun h1 => h.ap g hg (h1 ▸ e)) (fun h1 => by have := h1 g e; have := (World.ownsRow.lt h.ra g hg).2; omega))), h.bc, (fun g hg e => (hn.elim (fun h1 => h.bp g hg (h1 ▸ e)) (fun h1 => by have := h1 g e; have := (World.ownsRow.lt h.rb g hg).2; omega))), (fun g hg e => (hn.elim (fun h1 => h.cp g hg (h1 ▸ e)) (fun h1 => by have := h1 g e; have := (World.ownsRow.lt h.rc g hg).2; omega))), ⟨l1, l2, l3, (by simp only [List.length_append, List.length_singleton]; omega)⟩⟩
/-- the answers while they grow: in a variable of their own -/
structure Gr (B : Nat) (S0 : Nat → Prop) (W0 wr : World) (Y : An) : Prop where
  box : Box wr (B + 2) Y.cs 51
  rows : AnI wr (fun b => S0 b ∨ W0.heap.size ≤ b) Y
  but : But (fun b => S0 b ∨ b = B + 2) W0 wr
  sz : W0.heap.size = B + 3
  lo : ∀ b, S0 b → b < B
theorem Gr.mid_a {B : Nat} {S0 : Nat → Prop} {W0 wr w5 : World} {Y : An} {o : Obj} (h : Gr B S0 W0 wr Y) (hg : (wr.alloc o).grownBy w5 Y.va.ownBlock) : Box w5 (B + 2) Y.cs 51 := by
  have hl := h.box.lt
  refine (h.box.below (below1 wr o)).kept (hg.block _ (by simp; omega) fun e => ?_)
  rcases h.rows.sa _ e.symm with h1 | h1
  · have := h.lo _ h1; omega
  · have := h.sz; omega
theorem Gr.step_a {B : Nat} {S0 : Nat → Prop} {W0 wr w5 : World} {Y : An} {o : Obj} {v5 : Value} {x : EV} (h : Gr B S0 W0 wr Y) (hr : EvRow 0 w5 v5 (Y.a ++ [x])) (hg : (wr.alloc o).grownBy w5 Y.va.ownBlock) (hn : Near (wr.alloc o) Y.va v5) (hl : Y.a.length < 4398046511064) : Gr B S0 W0 (w5.setCell ⟨B + 2, 0, none⟩ v5) { Y with va := v5, a := Y.a ++ [x] } := by
  have hsz := h.sz
  have hbs := h.but.size
  have hnB : ¬ (S0 (B + 2) ∨ W0.heap.size ≤ B + 2) := by
    rintro (h1 | h1)
    · have := h.lo _ h1; omega
    · omega
  have hb1 : But (fun q => q = B + 2) w5 (w5.setCell ⟨B + 2, 0, none⟩ v5) := (But.one w5 (B + 2)).setAt _ _
  have hr1 := (h.rows.below (below1 wr o)).grow_a hr hg hn (fun b hb => .inr (by simp at hb; omega)) hl
  refine ⟨?_, hr1.but hb1 (fun k hk _ e => hnB (by rw [e] at hk; exact hk)), ?_, hsz, h.lo⟩
  · have := (h.mid_a hg).set 0 v5
    simpa [An.cs] using this
  · refine ((h.but.trans (But.ofBelow (below1 wr o))).grown hg fun k hk hl => ?_).trans (hb1.mono fun k _ e => .inr e)
    rcases h.rows.sa k hk with h1 | h1
    · exact .inl h1
    · omega
theorem Gr.mid_b {B : Nat} {S0 : Nat → Prop} {W0 wr w5 : World} {Y : An} {o : Obj} (h : Gr B S0 W0 wr Y) (hg : (wr.alloc o).grownBy w5 Y.vb.ownBlock) : Box w5 (B + 2) Y.cs 51 := by
  have hl := h.box.lt
  refine (h.box.below (below1 wr o)).kept (hg.block _ (by simp; omega) fun e => ?_)
  rcases h.rows.sb _ e.symm with h1 | h1
  · have := h.lo _ h1; omega
  · have := h.sz; omega
theorem Gr.step_b {B : Nat} {S0 : Nat → Prop} {W0 wr w5 : World} {Y : An} {o : Obj} {v5 : Value} {x : EV} (h : Gr B S0 W0 wr Y) (hr : EvRow 0 w5 v5 (Y.b ++ [x])) (hg : (wr.alloc o).grownBy w5 Y.vb.ownBlock) (hn : Near (wr.alloc o) Y.vb v5) (hl : Y.b.length < 4398046511064) : Gr B S0 W0 (w5.setCell ⟨B + 2, 1, none⟩ v5) { Y with vb := v5, b := Y.b ++ [x] } := by
  have hsz := h.sz
  have hbs := h.but.size
  have hnB : ¬ (S0 (B + 2) ∨ W0.heap.size ≤ B + 2) := by
    rintro (h1 | h1)
    · have := h.lo _ h1; omega
    · omega
  have hb1 : But (fun q => q = B + 2) w5 (w5.setCell ⟨B + 2, 1, none⟩ v5) := (But.one w5 (B + 2)).setAt _ _
  have hr1 := (h.rows.below (below1 wr o)).grow_b hr hg hn (fun b hb => .inr (by simp at hb; omega)) hl
  refine ⟨?_, hr1.but hb1 (fun k hk _ e => hnB (by rw [e] at hk; exact hk)), ?_, hsz, h.lo⟩
  · have := (h.mid_b hg).set 1 v5
    simpa [An.cs] using this
  · refine ((h.but.trans (But.ofBelow (below1 wr o))).grown hg fun k hk hl => ?_).trans (hb1.mono fun k _ e => .inr e)
    rcases h.rows.sb k hk with h1 | h1
    · exact .inl h1
    · omega
theorem Gr.mid_c {B : Nat} {S0 : Nat → Prop} {W0 wr w5 : World} {Y : An} {o : Obj} (h : Gr B S0 W0 wr Y) (hg : (wr.alloc o).grownBy w5 Y.vc.ownBlock) : Box w5 (B + 2) Y.cs 51 := by
  have hl := h.box.lt
  refine (h.box.below (below1 wr o)).kept (hg.block _ (by simp; omega) fun e => ?_)
  rcases h.rows.sc _ e.symm with h1 | h1
  · have := h.lo _ h1; omega
  · have := h.sz; omega
theorem Gr.step_c {B : Nat} {S0 : Nat → Prop} {W0 wr w5 : World} {Y : An} {o : Obj} {v5 : Value} {x : EV} (h : Gr B S0 W0 wr Y) (hr : EvRow 0 w5 v5 (Y.c ++ [x])) (hg : (wr.alloc o).grownBy w5 Y.vc.ownBlock) (hn : Near (wr.alloc o) Y.vc v5) (hl : Y.c.length < 4398046511064) : Gr B S0 W0 (w5.setCell ⟨B + 2, 2, none⟩ v5) { Y with vc := v5, c := Y.c ++ [x] } := by
  have hsz := h.sz
  have hbs := h.but.size
  have hnB : ¬ (S0 (B + 2) ∨ W0.heap.size ≤ B + 2) := by
    rintro (h1 | h1)
    · have := h.lo _ h1; omega
    · omega
  have hb1 : But (fun q => q = B + 2) w5 (w5.setCell ⟨B + 2, 2, none⟩ v5) := (But.one w5 (B + 2)).setAt _ _
  have hr1 := (h.rows.below (below1 wr o)).grow_c hr hg hn (fun b hb => .inr (by simp at hb; omega)) hl
  refine ⟨?_, hr1.but hb1 (fun k hk _ e => hnB (by rw [e] at hk; exact hk)), ?_, hsz, h.lo⟩
  · have := (h.mid_c hg).set 2 v5
    simpa [An.cs] using this
  · refine ((h.but.trans (But.ofBelow (below1 wr o))).grown hg fun k hk hl => ?_).trans (hb1.mono fun k _ e => .inr e)
    rcases h.rows.sc k hk with h1 | h1
    · exact .inl h1
    · omega
theorem Gr.mid_p {B : Nat} {S0 : Nat → Prop} {W0 wr w5 : World} {Y : An} {o : Obj} (h : Gr B S0 W0 wr Y) (hg : (wr.alloc o).grownBy w5 Y.vp.ownBlock) : Box w5 (B + 2) Y.cs 51 := by
  have hl := h.box.lt
  refine (h.box.below (below1 wr o)).kept (hg.block _ (by simp; omega) fun e => ?_)
  rcases h.rows.sp _ e.symm with h1 | h1
  · have := h.lo _ h1; omega
  · have := h.sz; omega
theorem Gr.step_p {B : Nat} {S0 : Nat → Prop} {W0 wr w5 : World} {Y : An} {o : Obj} {v5 : Value} {x : Int} (h : Gr B S0 W0 wr Y) (hr : InRow 0 w5 v5 (Y.p ++ [x])) (hg : (wr.alloc o).grownBy w5 Y.vp.ownBlock) (hn : Near (wr.alloc o) Y.vp v5) (hl : Y.p.length < 4398046511064) : Gr B S0 W0 (w5.setCell ⟨B + 2, 3, none⟩ v5) { Y with vp := v5, p := Y.p ++ [x] } := by
  have hsz := h.sz
  have hbs := h.but.size
  have hnB : ¬ (S0 (B + 2) ∨ W0.heap.size ≤ B + 2) := by
    rintro (h1 | h1)
    · have := h.lo _ h1; omega
    · omega
  have hb1 : But (fun q => q = B + 2) w5 (w5.setCell ⟨B + 2, 3, none⟩ v5) := (But.one w5 (B + 2)).setAt _ _
  have hr1 := (h.rows.below (below1 wr o)).grow_p hr hg hn (fun b hb => .inr (by simp at hb; omega)) hl
  refine ⟨?_, hr1.but hb1 (fun k hk _ e => hnB (by rw [e] at hk; exact hk)), ?_, hsz, h.lo⟩
  · have := (h.mid_p hg).set 3 v5
    simpa [An.cs] using this
  · refine ((h.but.trans (But.ofBelow (below1 wr o))).grown hg fun k hk hl => ?_).trans (hb1.mono fun k _ e => .inr e)
    rcases h.rows.sp k hk with h1 | h1
    · exact .inl h1
    · omega
set_option maxHeartbeats 16000000 in
/-- marks behind each list -/
theorem grows_any (X : An) (n : Int) (w : World) (S : Nat → Prop) (hX : AnI w S X) (hle : X.a.length ≤ 4398046511024 ∧ X.b.length ≤ 4398046511024 ∧ X.c.length ≤ 4398046511024 ∧ X.p.length ≤ 4398046511024) :
    Calls Try.prog 24 #[X.val, .int .i64 n] w fun e w' => ∃ Y : An, e = .returned Y.val ∧ AnI w' (fun b => S b ∨ w.heap.size ≤ b) Y ∧ But S w w' := by
  obtain ⟨xp1, xc1, xe1⟩ := ownsRow_slice hX.ra
  obtain ⟨xp2, xc2, xe2⟩ := ownsRow_slice hX.rb
  obtain ⟨xp3, xc3, xe3⟩ := ownsRow_slice hX.rc
  obtain ⟨xp4, xc4, xe4⟩ := ownsRow_slice hX.rp
  obtain ⟨na, hna⟩ : ∃ z, z = X.a.length := ⟨_, rfl⟩
  obtain ⟨nb, hnb⟩ : ∃ z, z = X.b.length := ⟨_, rfl⟩
  obtain ⟨nc, hnc⟩ : ∃ z, z = X.c.length := ⟨_, rfl⟩
  obtain ⟨np, hnp⟩ : ∃ z, z = X.p.length := ⟨_, rfl⟩
  rw [← hna] at xe1
  rw [← hnb] at xe2
  rw [← hnc] at xe3
  rw [← hnp] at xe4
  have hcs : X.cs = #[.slice xp1 na xc1, .slice xp2 nb xc2, .slice xp3 nc xc3, .slice xp4 np xc4, .int .i64 X.e, .int .i64 X.f, .int .i64 X.h] := by unfold An.cs; rw [xe1, xe2, xe3, xe4]
  have hxv : X.val = .agg #[.slice xp1 na xc1, .slice xp2 nb xc2, .slice xp3 nc xc3, .slice xp4 np xc4, .int .i64 X.e, .int .i64 X.f, .int .i64 X.h] := by unfold An.val; rw [hcs]
  obtain ⟨i0, Kd⟩ := kindEv
  have HKd := hid Kd
  obtain ⟨i1, Ki⟩ := kindIn
  have HKi := hid Ki
  obtain ⟨B, hB⟩ : ∃ B, B = w.heap.size := ⟨_, rfl⟩
  rw [hxv]
  obtain ⟨W0, hW0⟩ : ∃ W0, W0 = ((w.alloc (.cells #[.slice xp1 na xc1, .slice xp2 nb xc2, .slice xp3 nc xc3, .slice xp4 np xc4, .int .i64 X.e, .int .i64 X.f, .int .i64 X.h] 51)).alloc (.cells #[.slice none 0 0, .slice none 0 0, .slice none 0 0, .slice none 0 0, .int .i64 0, .int .i64 0, .int .i64 0] 51)).alloc (.cells #[.slice xp1 na xc1, .slice xp2 nb xc2, .slice xp3 nc xc3, .slice xp4 np xc4, .int .i64 X.e, .int .i64 X.f, .int .i64 X.h] 51) := ⟨_, rfl⟩
  have hB0 : Below w.heap.size w W0 := by rw [hW0]; exact (below2 _ _ _).alloc (by simp; omega) _
  have hs0 : W0.heap.size = B + 3 := by rw [hW0, hB]; simp
  have bR : Box W0 (B + 1) #[.slice none 0 0, .slice none 0 0, .slice none 0 0, .slice none 0 0, .int .i64 0, .int .i64 0, .int .i64 0] 51 := by
    have h1 := Box.new (w.alloc (.cells #[.slice xp1 na xc1, .slice xp2 nb xc2, .slice xp3 nc xc3, .slice xp4 np xc4, .int .i64 X.e, .int .i64 X.f, .int .i64 X.h] 51)) #[.slice none 0 0, .slice none 0 0, .slice none 0 0, .slice none 0 0, .int .i64 0, .int .i64 0, .int .i64 0] 51
    rw [World.size_alloc, ← hB] at h1
    rw [hW0]
    exact h1.below (below1 _ _)
  have bG : Box W0 (B + 2) X.cs 51 := by
    have h1 := Box.new ((w.alloc (.cells #[.slice xp1 na xc1, .slice xp2 nb xc2, .slice xp3 nc xc3, .slice xp4 np xc4, .int .i64 X.e, .int .i64 X.f, .int .i64 X.h] 51)).alloc (.cells #[.slice none 0 0, .slice none 0 0, .slice none 0 0, .slice none 0 0, .int .i64 0, .int .i64 0, .int .i64 0] 51)) #[.slice xp1 na xc1, .slice xp2 nb xc2, .slice xp3 nc xc3, .slice xp4 np xc4, .int .i64 X.e, .int .i64 X.f, .int .i64 X.h] 51
    rw [World.size_alloc, World.size_alloc, ← hB] at h1
    rw [hW0, hcs]
    exact h1
  obtain ⟨S0, hS0⟩ : ∃ S0 : Nat → Prop, S0 = fun b => S b ∧ b < B := ⟨_, rfl⟩
  have hG0 : Gr B S0 W0 W0 X := by
    refine ⟨bG, ?_, But.refl _ _, hs0, fun b hb => by rw [hS0] at hb; exact hb.2⟩
    rw [hS0, hB]
    exact ((hX.mono (S' := fun b => S b ∧ b < w.heap.size) fun k hk hl => ⟨hk, hl⟩).keep fun k hk _ => hB0.block k hk.2).mono fun k hk _ => .inl hk
  have HW0 := hid hW0
  have HB0 := hid hB0
  have HBB := hid hB
  have HSz := hid hs0
  have HR := hid bR
  have HG0 := hid hG0
  have HS0 := hid hS0
  have HLe := hid hle
  clear hB hW0 hB0 hs0 bR bG hS0 hG0 hX hna hnb hnc hnp xe1 xe2 xe3 xe4 hxv hcs Kd Ki hle
  go_enter Try.func24, Try.ntmps24
  go_upto_region 2 with fail
  rw [← HW0.out]
  rw [← HBB.out]
  have HBw : Hid (B = w.heap.size) := HBB.out
  clear HBB
  go_wp2_with fail
  go_loopw [6] (fun x wr => ∃ (k : Nat) (Y : An), k ≤ 40 ∧ x = .int .i64 (k : Int) ∧ Gr B S0 W0 wr Y ∧ Y.a.length ≤ 4398046511024 + k ∧ Y.b.length ≤ 4398046511024 + k ∧ Y.c.length ≤ 4398046511024 + k ∧ Y.p.length ≤ 4398046511024 + k) (fun x _ => 40 - (intOf x).toNat)
  case atStart => exact ⟨0, X, by omega, rfl, HG0.out, HLe.out.1, HLe.out.2.1, HLe.out.2.2.1, HLe.out.2.2.2⟩
  case round =>
    obtain ⟨k, ⟨va, vb, vc, vp, a, b, c, p, ee, ff, hh⟩, hk, rfl, hG, la, lb, lc, lp⟩ := hrel
    dsimp only at la lb lc lp
    obtain ⟨yp1, yc1, ye1⟩ := ownsRow_slice hG.rows.ra
    obtain ⟨yp2, yc2, ye2⟩ := ownsRow_slice hG.rows.rb
    obtain ⟨yp3, yc3, ye3⟩ := ownsRow_slice hG.rows.rc
    obtain ⟨yp4, yc4, ye4⟩ := ownsRow_slice hG.rows.rp
    dsimp only at ye1 ye2 ye3 ye4
    subst ye1 ye2 ye3 ye4
    obtain ⟨ma, hma⟩ : ∃ z, z = a.length := ⟨_, rfl⟩
    obtain ⟨mb, hmb⟩ : ∃ z, z = b.length := ⟨_, rfl⟩
    obtain ⟨mc, hmc⟩ : ∃ z, z = c.length := ⟨_, rfl⟩
    obtain ⟨mp, hmp⟩ : ∃ z, z = p.length := ⟨_, rfl⟩
    rw [← hma] at hG la
    rw [← hmb] at hG lb
    rw [← hmc] at hG lc
    rw [← hmp] at hG lp
    have HMa := hid hma
    have HMb := hid hmb
    have HMc := hid hmc
    have HMp := hid hmp
    have HG := hid hG
    clear hma hmb hmc hmp hG
    by_cases hlt : k < 40
    · have hlt' : (k : Int) < 40 := by omega
      have b0 : Box wr (B + 2) #[.slice yp1 ma yc1, .slice yp2 mb yc2, .slice yp3 mc yc3, .slice yp4 mp yc4, .int .i64 ee, .int .i64 ff, .int .i64 hh] 51 := HG.out.box
      have c0 := b0.cell 0
      have bl0 := b0.lt
      simp at c0
      have HRw0 : Hid (EvRow 0 wr (.slice yp1 ma yc1) a) := HG.out.rows.ra
      have hown0 : World.ownsRow wr 0 39 2 (.slice yp1 ma yc1) ma (a.flatMap EV.cells) := by have h := HRw0.out; unfold EvRow at h; rw [← HMa.out] at h; exact h
      have HOw0 := hid hown0
      clear b0 hown0
      go_wp2_with (at_builtin; refine wpList_app rfl (.tmp 13) (.tmp 17) 31 39 i0 _ 2 16 HKd.out rfl 0 (.slice yp1 ma yc1) ma _ rfl (World.ownsRow.alloc HOw0.out _) ⟨wr.heap.size, 0, none⟩ 1 1 [.int .i64 _, .int .i64 _] rfl rfl (news2 wr _ _) (one2 _ _) (by omega) (by omega) (Nat.zero_le _) ?_)
      intro v0 w0 ho0 hg0 hn0
      obtain ⟨zp0, zc0, rfl⟩ := ownsRow_slice ho0
      rw [HMa.out] at ho0
      obtain ⟨x0, hx0⟩ : ∃ x, EvRow 0 w0 (.slice zp0 (ma + 1) zc0) (a ++ [x]) := ⟨⟨_, _⟩, EvRow.push (by rw [← HMa.out] at ho0 ⊢; exact ho0)⟩
      have bm0 : Box w0 (B + 2) #[.slice yp1 ma yc1, .slice yp2 mb yc2, .slice yp3 mc yc3, .slice yp4 mp yc4, .int .i64 ee, .int .i64 ff, .int .i64 hh] 51 := HG.out.mid_a hg0
      have d0 := bm0.cell 0
      have df0 := bm0.frozen 0
      have dl0 := bm0.lt
      simp at d0
      have hst0 := HG.out.step_a hx0 hg0 hn0 (by dsimp only; rw [← HMa.out]; omega)
      obtain ⟨V0, hV0⟩ : ∃ V, V = w0.setCell ⟨B + 2, 0, none⟩ (.slice zp0 (ma + 1) zc0) := ⟨_, rfl⟩
      rw [← hV0] at hst0
      have HV0 := hid hV0
      have HGs0 := hid hst0
      dsimp only at HGs0
      clear ho0 hg0 hn0 hx0 bm0 hst0 hV0 c0 bl0 HOw0 HRw0
      go_upto_region 6 with fail
      rw [← HV0.out]
      clear d0 df0 dl0
      have b1 : Box V0 (B + 2) #[.slice zp0 (ma + 1) zc0, .slice yp2 mb yc2, .slice yp3 mc yc3, .slice yp4 mp yc4, .int .i64 ee, .int .i64 ff, .int .i64 hh] 51 := HGs0.out.box
      have c1 := b1.cell 1
      have bl1 := b1.lt
      simp at c1
      have HRw1 : Hid (EvRow 0 V0 (.slice yp2 mb yc2) b) := HGs0.out.rows.rb
      have hown1 : World.ownsRow V0 0 39 2 (.slice yp2 mb yc2) mb (b.flatMap EV.cells) := by have h := HRw1.out; unfold EvRow at h; rw [← HMb.out] at h; exact h
      have HOw1 := hid hown1
      clear b1 hown1
      go_wp2_with (at_builtin; refine wpList_app rfl (.tmp 21) (.tmp 26) 31 39 i0 _ 2 16 HKd.out rfl 0 (.slice yp2 mb yc2) mb _ rfl (World.ownsRow.alloc HOw1.out _) ⟨V0.heap.size, 0, none⟩ 1 1 [.int .i64 _, .int .i64 _] rfl rfl (news2 V0 _ _) (one2 _ _) (by omega) (by omega) (Nat.zero_le _) ?_)
      intro v1 w1 ho1 hg1 hn1
      obtain ⟨zp1, zc1, rfl⟩ := ownsRow_slice ho1
      rw [HMb.out] at ho1
      obtain ⟨x1, hx1⟩ : ∃ x, EvRow 0 w1 (.slice zp1 (mb + 1) zc1) (b ++ [x]) := ⟨⟨_, _⟩, EvRow.push (by rw [← HMb.out] at ho1 ⊢; exact ho1)⟩
      have bm1 : Box w1 (B + 2) #[.slice zp0 (ma + 1) zc0, .slice yp2 mb yc2, .slice yp3 mc yc3, .slice yp4 mp yc4, .int .i64 ee, .int .i64 ff, .int .i64 hh] 51 := HGs0.out.mid_b hg1
      have d1 := bm1.cell 1
      have df1 := bm1.frozen 1
      have dl1 := bm1.lt
      simp at d1
      have hst1 := HGs0.out.step_b hx1 hg1 hn1 (by dsimp only; rw [← HMb.out]; omega)
      obtain ⟨V1, hV1⟩ : ∃ V, V = w1.setCell ⟨B + 2, 1, none⟩ (.slice zp1 (mb + 1) zc1) := ⟨_, rfl⟩
      rw [← hV1] at hst1
      have HV1 := hid hV1
      have HGs1 := hid hst1
      dsimp only at HGs1
      clear ho1 hg1 hn1 hx1 bm1 hst1 hV1 c1 bl1 HOw1 HRw1
      go_upto_region 7 with fail
      rw [← HV1.out]
      clear d1 df1 dl1
      have b2 : Box V1 (B + 2) #[.slice zp0 (ma + 1) zc0, .slice zp1 (mb + 1) zc1, .slice yp3 mc yc3, .slice yp4 mp yc4, .int .i64 ee, .int .i64 ff, .int .i64 hh] 51 := HGs1.out.box
      have c2 := b2.cell 2
      have bl2 := b2.lt
      simp at c2
      have HRw2 : Hid (EvRow 0 V1 (.slice yp3 mc yc3) c) := HGs1.out.rows.rc
      have hown2 : World.ownsRow V1 0 39 2 (.slice yp3 mc yc3) mc (c.flatMap EV.cells) := by have h := HRw2.out; unfold EvRow at h; rw [← HMc.out] at h; exact h
      have HOw2 := hid hown2
      clear b2 hown2
      go_wp2_with (at_builtin; refine wpList_app rfl (.tmp 30) (.tmp 35) 31 39 i0 _ 2 16 HKd.out rfl 0 (.slice yp3 mc yc3) mc _ rfl (World.ownsRow.alloc HOw2.out _) ⟨V1.heap.size, 0, none⟩ 1 1 [.int .i64 _, .int .i64 _] rfl rfl (news2 V1 _ _) (one2 _ _) (by omega) (by omega) (Nat.zero_le _) ?_)
      intro v2 w2 ho2 hg2 hn2
      obtain ⟨zp2, zc2, rfl⟩ := ownsRow_slice ho2
      rw [HMc.out] at ho2
      obtain ⟨x2, hx2⟩ : ∃ x, EvRow 0 w2 (.slice zp2 (mc + 1) zc2) (c ++ [x]) := ⟨⟨_, _⟩, EvRow.push (by rw [← HMc.out] at ho2 ⊢; exact ho2)⟩
      have bm2 : Box w2 (B + 2) #[.slice zp0 (ma + 1) zc0, .slice zp1 (mb + 1) zc1, .slice yp3 mc yc3, .slice yp4 mp yc4, .int .i64 ee, .int .i64 ff, .int .i64 hh] 51 := HGs1.out.mid_c hg2
      have d2 := bm2.cell 2
      have df2 := bm2.frozen 2
      have dl2 := bm2.lt
      simp at d2
      have hst2 := HGs1.out.step_c hx2 hg2 hn2 (by dsimp only; rw [← HMc.out]; omega)
      obtain ⟨V2, hV2⟩ : ∃ V, V = w2.setCell ⟨B + 2, 2, none⟩ (.slice zp2 (mc + 1) zc2) := ⟨_, rfl⟩
      rw [← hV2] at hst2
      have HV2 := hid hV2
      have HGs2 := hid hst2
      dsimp only at HGs2
      clear ho2 hg2 hn2 hx2 bm2 hst2 hV2 c2 bl2 HOw2 HRw2
      go_upto_region 8 with fail
      rw [← HV2.out]
      clear d2 df2 dl2
      have b3 : Box V2 (B + 2) #[.slice zp0 (ma + 1) zc0, .slice zp1 (mb + 1) zc1, .slice zp2 (mc + 1) zc2, .slice yp4 mp yc4, .int .i64 ee, .int .i64 ff, .int .i64 hh] 51 := HGs2.out.box
      have c3 := b3.cell 3
      have bl3 := b3.lt
      simp at c3
      have HRw3 : Hid (InRow 0 V2 (.slice yp4 mp yc4) p) := HGs2.out.rows.rp
      have hown3 : World.ownsRow V2 0 3 1 (.slice yp4 mp yc4) mp (p.flatMap elInt.cells) := by have h := HRw3.out; unfold InRow at h; rw [← HMp.out] at h; exact h
      have HOw3 := hid hown3
      clear b3 hown3
      go_wp2_with (at_builtin; refine wpList_app rfl (.tmp 39) (.tmp 44) 23 3 i1 _ 1 8 HKi.out rfl 0 (.slice yp4 mp yc4) mp _ rfl (World.ownsRow.alloc HOw3.out _) ⟨V2.heap.size, 0, none⟩ 1 1 [.int .i64 _] rfl rfl (newsI V2 _) (by simp [Value.oneCell']) (by omega) (by omega) (Nat.zero_le _) ?_)
      intro v3 w3 ho3 hg3 hn3
      obtain ⟨zp3, zc3, rfl⟩ := ownsRow_slice ho3
      rw [HMp.out] at ho3
      obtain ⟨x3, hx3⟩ : ∃ x, InRow 0 w3 (.slice zp3 (mp + 1) zc3) (p ++ [x]) := ⟨_, InRow.push (by rw [← HMp.out] at ho3 ⊢; exact ho3)⟩
      have bm3 : Box w3 (B + 2) #[.slice zp0 (ma + 1) zc0, .slice zp1 (mb + 1) zc1, .slice zp2 (mc + 1) zc2, .slice yp4 mp yc4, .int .i64 ee, .int .i64 ff, .int .i64 hh] 51 := HGs2.out.mid_p hg3
      have d3 := bm3.cell 3
      have df3 := bm3.frozen 3
      have dl3 := bm3.lt
      simp at d3
      have hst3 := HGs2.out.step_p hx3 hg3 hn3 (by dsimp only; rw [← HMp.out]; omega)
      obtain ⟨V3, hV3⟩ : ∃ V, V = w3.setCell ⟨B + 2, 3, none⟩ (.slice zp3 (mp + 1) zc3) := ⟨_, rfl⟩
      rw [← hV3] at hst3
      have HV3 := hid hV3
      have HGs3 := hid hst3
      dsimp only at HGs3
      clear ho3 hg3 hn3 hx3 bm3 hst3 hV3 c3 bl3 HOw3 HRw3
      go_wp2
      rw [← HV3.out]
      go_roundw
      case rel =>
        refine ⟨k + 1, _, by omega, by go_num, HGs3.out, ?_, ?_, ?_, ?_⟩
        · dsimp only; rw [List.length_append, ← HMa.out, List.length_singleton]; omega
        · dsimp only; rw [List.length_append, ← HMb.out, List.length_singleton]; omega
        · dsimp only; rw [List.length_append, ← HMc.out, List.length_singleton]; omega
        · dsimp only; rw [List.length_append, ← HMp.out, List.length_singleton]; omega
      case measure => simp [intOf]; omega
    · obtain rfl : k = 40 := by omega
      have bG : Box wr (B + 2) #[.slice yp1 ma yc1, .slice yp2 mb yc2, .slice yp3 mc yc3, .slice yp4 mp yc4, .int .i64 ee, .int .i64 ff, .int .i64 hh] 51 := HG.out.box
      have bR := HR.out.but HG.out.but (fun h => h.elim (fun h => by have := HG.out.lo _ h; omega) (fun h => by omega))
      have HRb := hid bR
      have c0 := bG.cell 0
      have r0 := bR.cell 0
      have f0 := bR.frozen 0
      have c1 := bG.cell 1
      have r1 := bR.cell 1
      have f1 := bR.frozen 1
      have c2 := bG.cell 2
      have r2 := bR.cell 2
      have f2 := bR.frozen 2
      have c3 := bG.cell 3
      have r3 := bR.cell 3
      have f3 := bR.frozen 3
      have c4 := bG.cell 4
      have r4 := bR.cell 4
      have f4 := bR.frozen 4
      have c5 := bG.cell 5
      have r5 := bR.cell 5
      have f5 := bR.frozen 5
      have c6 := bG.cell 6
      have r6 := bR.cell 6
      have f6 := bR.frozen 6
      have bl := bG.lt
      have rl := bR.lt
      simp at c0 r0 c1 r1 c2 r2 c3 r3 c4 r4 c5 r5 c6 r6
      clear bG bR
      go_wp2
      have hbx := set7 (y0 := .slice yp1 ma yc1) (y1 := .slice yp2 mb yc2) (y2 := .slice yp3 mc yc3) (y3 := .slice yp4 mp yc4) (y4 := .int .i64 ee) (y5 := .int .i64 ff) (y6 := .int .i64 hh) HRb.out
      have hbt := but7 (But.one wr (B + 1)) (.slice yp1 ma yc1) (.slice yp2 mb yc2) (.slice yp3 mc yc3) (.slice yp4 mp yc4) (.int .i64 ee) (.int .i64 ff) (.int .i64 hh)
      obtain ⟨W5, hW5⟩ : ∃ W5, W5 = (((((((wr.setCell ⟨B + 1, 0, none⟩ (.slice yp1 ma yc1)).setCell ⟨B + 1, 1, none⟩ (.slice yp2 mb yc2)).setCell ⟨B + 1, 2, none⟩ (.slice yp3 mc yc3)).setCell ⟨B + 1, 3, none⟩ (.slice yp4 mp yc4)).setCell ⟨B + 1, 4, none⟩ (.int .i64 ee)).setCell ⟨B + 1, 5, none⟩ (.int .i64 ff)).setCell ⟨B + 1, 6, none⟩ (.int .i64 hh)) := ⟨_, rfl⟩
      rw [← hW5] at hbx hbt ⊢
      clear hW5
      have g0 := hbx.cell 0
      have g1 := hbx.cell 1
      have g2 := hbx.cell 2
      have g3 := hbx.cell 3
      have g4 := hbx.cell 4
      have g5 := hbx.cell 5
      have g6 := hbx.cell 6
      simp at g0 g1 g2 g3 g4 g5 g6
      have s0 := HSz.out
      have s1 := HG.out.but.size
      have hs0 := HS0.out
      have hsB := HB0.out.size
      have hBw := HBw.out
      refine bodyPost_ret (v := .agg #[.slice yp1 ma yc1, .slice yp2 mb yc2, .slice yp3 mc yc3, .slice yp4 mp yc4, .int .i64 ee, .int .i64 ff, .int .i64 hh]) (by simp [results, Try.results24, go_sem, g0, g1, g2, g3, g4, g5, g6]) rfl ⟨⟨.slice yp1 ma yc1, .slice yp2 mb yc2, .slice yp3 mc yc3, .slice yp4 mp yc4, a, b, c, p, ee, ff, hh⟩, rfl, ?_, ?_⟩
      · refine (HG.out.rows.but hbt (fun q hq _ e => ?_)).mono fun q hq _ => ?_
        · rcases hq with h | h
          · have := HG.out.lo _ h; omega
          · omega
        · rcases hq with h | h
          · rw [hs0] at h; exact .inl h.1
          · exact .inr (by omega)
      · exact ⟨hbt.os.trans (HG.out.but.os.trans HB0.out.os), hbt.tape.trans (HG.out.but.tape.trans HB0.out.tape), hbt.output.trans (HG.out.but.output.trans HB0.out.output), by have := hbt.size; omega, fun q hq hS => ((hbt.block q (by omega) (by omega)).trans (HG.out.but.block q (by omega) (fun h => h.elim (fun h => by rw [hs0] at h; exact hS h.1) (fun h => by omega)))).trans (HB0.out.block q hq)⟩
end Go.Proofs.Ytdpfgflofjiheaa
