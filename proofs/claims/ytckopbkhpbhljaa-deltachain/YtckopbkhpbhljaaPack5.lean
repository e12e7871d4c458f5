import Derived.Test.YtckopbkhpbhljaaPack4
namespace Go.Proofs.Ytckopbkhpbhljaa
open Go.RowKit
set_option maxRecDepth 8000
theorem VT.toLT {w : World} {S : Nat → Prop} {t : VT} (h : VT.In w S t) : LT.In elVal w S ⟨t.p, t.n, t.c, t.item⟩ := by
  have hf := h.fit
  refine ⟨fun hn => ?_, fun j hj => h.sub hj, hf.nc, hf.nn, hf.cc, hf.nil⟩
  obtain ⟨b, o, e, hS, hl, ha⟩ := h.at_ hn
  refine ⟨b, o, e, hS, hl, fun j hj r u hu => ?_⟩
  have h4 := ha j hj
  have hr : r < 4 := by
    rcases Nat.lt_or_ge r 4 with h1 | h1
    · exact h1
    · rw [List.getElem?_eq_none (by rw [elVal.len]; exact h1)] at hu; cases hu
  rcases (by omega : r = 0 ∨ r = 1 ∨ r = 2 ∨ r = 3) with rfl | rfl | rfl | rfl
  · cases hu; exact h4.c0
  · cases hu; exact h4.c1
  · cases hu; exact h4.c2
  · cases hu; exact h4.c3
theorem LT.toVT {w : World} {S : Nat → Prop} {l : LT VT} (h : LT.In elVal w S l) {k i : Int} {s : ByteArray} (hf : VT.Fit (.mk k i s l.n l.p l.c l.item)) : VT.In w S (.mk k i s l.n l.p l.c l.item) := by
  refine ⟨hf, fun hn => ?_, h.each⟩
  obtain ⟨b, o, e, hS, hl, ha⟩ := h.at_ hn
  exact ⟨b, o, e, hS, hl, fun j hj => ⟨ha j hj 0 _ rfl, ha j hj 1 _ rfl, ha j hj 2 _ rfl, ha j hj 3 _ rfl⟩⟩
/-- two blocks of the call's own: the argument's and the result's -/
structure TwoK (w0 w : World) (a b : Array Value) (t : TypeId) : Prop where
  ba : Box w w0.heap.size a t
  bb : Box w (w0.heap.size + 1) b t
  bel : Below w0.heap.size w0 w
theorem TwoK.start (w : World) (a b : Array Value) (t : TypeId) : TwoK w ((w.alloc (.cells a t)).alloc (.cells b t)) a b t := by
  refine ⟨(Box.new w a t).below ((Below.refl _ _).alloc (Nat.le_refl _) _), ?_, ((Below.refl _ _).alloc (Nat.le_refl _) _).alloc (by simp) _⟩
  have := Box.new (w.alloc (.cells a t)) b t
  simpa using this
theorem TwoK.below {w0 w w' : World} {a b : Array Value} {t : TypeId} (h : TwoK w0 w a b t) (hb : Below w.heap.size w w') : TwoK w0 w' a b t :=
  ⟨h.ba.below hb, h.bb.below hb, h.bel.trans (hb.mono h.bel.size)⟩
theorem TwoK.setA {w0 w : World} {a b : Array Value} {t : TypeId} (h : TwoK w0 w a b t) (o : Nat) (u : Value) : TwoK w0 (w.setCell ⟨w0.heap.size, o, none⟩ u) (a.setIfInBounds o u) b t :=
  ⟨h.ba.set o u, h.bb.kept (Below.heap_setCell _ _ _ _ (by show w0.heap.size + 1 ≠ w0.heap.size; omega)), h.bel.setCell (p := ⟨w0.heap.size, o, none⟩) (Nat.le_refl _) u⟩
theorem TwoK.setB {w0 w : World} {a b : Array Value} {t : TypeId} (h : TwoK w0 w a b t) (o : Nat) (u : Value) : TwoK w0 (w.setCell ⟨w0.heap.size + 1, o, none⟩ u) a (b.setIfInBounds o u) t :=
  ⟨h.ba.kept (Below.heap_setCell _ _ _ _ (by show w0.heap.size ≠ w0.heap.size + 1; omega)), h.bb.set o u, h.bel.setCell (p := ⟨w0.heap.size + 1, o, none⟩) (Nat.le_succ _) u⟩

set_option maxHeartbeats 2000000 in
/-- fresh.Value -/
theorem freshV (t : VT) : ∀ (w : World) (S : Nat → Prop), VT.In w S t → t.total ≤ 10000 →
    Calls Try.prog 81 #[.agg #[.int .i64 t.kind, .int .i64 t.int, .string t.text, .slice t.p t.n t.c]] w fun e w' => ∃ u : VT, e = .returned (.agg #[.int .i64 u.kind, .int .i64 u.int, .string u.text, .slice u.p u.n u.c]) ∧ VT.Alike t u ∧ VT.In w' (fun b => w.heap.size ≤ b) u ∧ Below w.heap.size w w' := by
  induction t with
  | nil => intro w S hin; exact hin.elim
  | mk k i s n p c f ih =>
    intro w S hin ht
    have hfit := hin.fit
    have hn1 : n ≤ 10000 := by rw [VT.total_upto] at ht; simp only [VT.n] at ht; omega
    simp only [VT.kind_mk, VT.int_mk, VT.text_mk, VT.p_mk, VT.n_mk, VT.c_mk]
    have HL : Hid (∀ W, Below w.heap.size w W → Calls Try.prog 80 #[.slice p n c, .func (.func 81) #[] #[]] W fun e w' => ∃ u : LT VT, e = .returned (.slice u.p u.n u.c) ∧ u.n = n ∧ (∀ j, j < n → VT.Alike (f j) (u.item j)) ∧ LT.In elVal w' (fun b => W.heap.size ≤ b) u ∧ Below W.heap.size W w') := fun W hW =>
      flV VT.Alike ⟨p, n, c, f⟩ W (fun b => S b ∧ b < w.heap.size) (((VT.toLT hin).mono fun b hb hl => ⟨hb, hl⟩).kept hW.size (fun b hb _ => hW.block b hb.2)) hn1
        (fun j hj W2 hW2 => ih j W2 (fun b => S b ∧ b < w.heap.size) (((hin.sub (j := j) hj).mono fun b hb hl => ⟨hb, hl⟩).kept (Nat.le_trans hW.size hW2.size) (fun b hb _ => (hW2.block b (by have := hW.size; omega)).trans (hW.block b hb.2))) (Nat.le_trans (VT.item_total (.mk k i s n p c f) hj) ht))
    have HT := hid (TwoK.start w #[.int .i64 k, .int .i64 i, .string s, .slice p n c] #[.int .i64 0, .int .i64 0, .string ⟨#[]⟩, .slice none 0 0] 60)
    have HF := hid hfit
    have HCl := hid (fun W => clone_any s W hfit.s1)
    clear hin hfit ht ih
    go_enter Try.func81, Try.ntmps81
    go_wp2_with fail
    refine (HCl.out _).mono ?_
    rintro e w1 ⟨rfl, hb1⟩
    have HT1 := hid (HT.out.below hb1)
    have l0 := HT1.out.ba.lt
    have l1 := HT1.out.bb.lt
    have x2 := HT1.out.ba.cell 2
    have f2 := HT1.out.ba.frozen 2
    have x3 := HT1.out.ba.cell 3
    simp at x2 x3
    clear hb1 HT HCl
    go_wp2_with fail
    have HT2 := hid (HT1.out.setA 2 (.string s))
    refine (HL.out _ HT2.out.bel).mono ?_
    rintro e w2 ⟨u, rfl, hn2, hal, hin2, hb2⟩
    have HT3 := hid (HT2.out.below hb2)
    have HU := hid (And.intro hal hin2)
    have m0 := HT3.out.ba.lt
    have m1 := HT3.out.bb.lt
    have y0 := HT3.out.ba.cell 0
    have y1 := HT3.out.ba.cell 1
    have y2 := HT3.out.ba.cell 2
    have y3 := HT3.out.ba.cell 3
    have g3 := HT3.out.ba.frozen 3
    have z0 := HT3.out.bb.cell 0
    have z1 := HT3.out.bb.cell 1
    have z2 := HT3.out.bb.cell 2
    have z3 := HT3.out.bb.cell 3
    have k0 := HT3.out.bb.frozen 0
    have k1 := HT3.out.bb.frozen 1
    have k2 := HT3.out.bb.frozen 2
    have k3 := HT3.out.bb.frozen 3
    simp at y0 y1 y2 y3 z0 z1 z2 z3
    have hsz := hb2.size
    have hsz1 : w.heap.size + 2 ≤ w1.heap.size := by omega
    simp [World.setCell] at hsz
    clear hal hin2 hb2 HT1 HT2 HL x2 x3 f2
    go_wp2
    have HT4 := ((((HT3.out.setA 3 (.slice u.p u.n u.c)).setB 0 (.int .i64 k)).setB 1 (.int .i64 i)).setB 2 (.string s)).setB 3 (.slice u.p u.n u.c)
    have hbt : But (fun x => x = w.heap.size ∨ x = w.heap.size + 1) w2 (((((w2.setCell ⟨w.heap.size, 3, none⟩ (.slice u.p u.n u.c)).setCell ⟨w.heap.size + 1, 0, none⟩ (.int .i64 k)).setCell ⟨w.heap.size + 1, 1, none⟩ (.int .i64 i)).setCell ⟨w.heap.size + 1, 2, none⟩ (.string s)).setCell ⟨w.heap.size + 1, 3, none⟩ (.slice u.p u.n u.c)) :=
      (((((But.refl _ w2).setCell (fun _ => Or.inl rfl) _).setCell (fun _ => Or.inr rfl) _).setCell (fun _ => Or.inr rfl) _).setCell (fun _ => Or.inr rfl) _).setCell (fun _ => Or.inr rfl) _
    obtain ⟨hal, hin2⟩ := HU.out
    obtain ⟨up, un, uc, uf⟩ := u
    simp only at hn2 hal
    subst hn2
    refine bodyPost_ret (v := .agg #[.int .i64 k, .int .i64 i, .string s, .slice up un uc]) (by simp [results, Try.results81, go_sem, z0, z1, z2, z3]) rfl ⟨.mk k i s un up uc uf, rfl, ⟨rfl, rfl, rfl, rfl, hal⟩, ?_, HT4.bel⟩
    refine LT.toVT (l := ⟨up, un, uc, uf⟩) (((hin2.mono (S' := fun b => w1.heap.size ≤ b) (fun b hb _ => by simpa [World.setCell] using hb)).kept hbt.size (fun b hb hl => hbt.block b hl (by omega))).mono (fun b hb _ => by omega)) ⟨HF.out.k0, HF.out.k1, HF.out.i0, HF.out.i1, HF.out.s1, hin2.nc, hin2.nn, hin2.cc, hin2.nil⟩
end Go.Proofs.Ytckopbkhpbhljaa

namespace Go.Proofs.Ytckopbkhpbhljaa
open Go.RowKit
set_option maxRecDepth 8000
/-- how many parts a list of records has -/
def RT.size (r : RT) : Nat := r.n + r.v.total
/-- two cells are alike: their texts and values -/
def VT.AlikeC (t u : VT) : Prop := u.text = t.text ∧ u.n = t.n ∧ ∀ j, j < t.n → VT.Alike (t.item j) (u.item j)
set_option maxHeartbeats 2000000 in
/-- fresh.cell -/
theorem freshC (t : VT) (w : World) (S : Nat → Prop) (hin : VT.In w S t) (ht : t.total ≤ 10000) :
    Calls Try.prog 65 #[.agg #[.string t.text, .slice t.p t.n t.c]] w fun e w' => ∃ u : VT, e = .returned (.agg #[.string u.text, .slice u.p u.n u.c]) ∧ VT.Alike t u ∧ VT.In w' (fun b => w.heap.size ≤ b) u ∧ Below w.heap.size w w' := by
  obtain ⟨k, i, s, n, p, c, f, rfl⟩ := hin.mk_
  have hfit := hin.fit
  have hn1 : n ≤ 10000 := by rw [VT.total_upto] at ht; simp only [VT.n] at ht; omega
  simp only [VT.text_mk, VT.p_mk, VT.n_mk, VT.c_mk]
  have HL : Hid (∀ W, Below w.heap.size w W → Calls Try.prog 80 #[.slice p n c, .func (.func 81) #[] #[]] W fun e w' => ∃ u : LT VT, e = .returned (.slice u.p u.n u.c) ∧ u.n = n ∧ (∀ j, j < n → VT.Alike (f j) (u.item j)) ∧ LT.In elVal w' (fun b => W.heap.size ≤ b) u ∧ Below W.heap.size W w') := fun W hW =>
    flV VT.Alike ⟨p, n, c, f⟩ W (fun b => S b ∧ b < w.heap.size) (((VT.toLT hin).mono fun b hb hl => ⟨hb, hl⟩).kept hW.size (fun b hb _ => hW.block b hb.2)) hn1
      (fun j hj W2 hW2 => freshV (f j) W2 (fun b => S b ∧ b < w.heap.size) (((hin.sub (j := j) hj).mono fun b hb hl => ⟨hb, hl⟩).kept (Nat.le_trans hW.size hW2.size) (fun b hb _ => (hW2.block b (by have := hW.size; omega)).trans (hW.block b hb.2))) (Nat.le_trans (VT.item_total (.mk k i s n p c f) hj) ht))
  have HT := hid (TwoK.start w #[.string s, .slice p n c] #[.string ⟨#[]⟩, .slice none 0 0] 62)
  have HF := hid hfit
  have HCl := hid (fun W => clone_any s W hfit.s1)
  clear hin hfit ht
  go_enter Try.func65, Try.ntmps65
  go_wp2_with fail
  refine (HCl.out _).mono ?_
  rintro e w1 ⟨rfl, hb1⟩
  have HT1 := hid (HT.out.below hb1)
  have l0 := HT1.out.ba.lt
  have l1 := HT1.out.bb.lt
  have x0 := HT1.out.ba.cell 0
  have f0 := HT1.out.ba.frozen 0
  have x1 := HT1.out.ba.cell 1
  simp at x0 x1
  clear hb1 HT HCl
  go_wp2_with fail
  have HT2 := hid (HT1.out.setA 0 (.string s))
  refine (HL.out _ HT2.out.bel).mono ?_
  rintro e w2 ⟨u, rfl, hn2, hal, hin2, hb2⟩
  have HT3 := hid (HT2.out.below hb2)
  have HU := hid (And.intro hal hin2)
  have m0 := HT3.out.ba.lt
  have m1 := HT3.out.bb.lt
  have y0 := HT3.out.ba.cell 0
  have y1 := HT3.out.ba.cell 1
  have g1 := HT3.out.ba.frozen 1
  have z0 := HT3.out.bb.cell 0
  have z1 := HT3.out.bb.cell 1
  have k0 := HT3.out.bb.frozen 0
  have k1 := HT3.out.bb.frozen 1
  simp at y0 y1 z0 z1
  have hsz := hb2.size
  have hsz1 : w.heap.size + 2 ≤ w1.heap.size := by omega
  simp [World.setCell] at hsz
  clear hal hin2 hb2 HT1 HT2 HL x0 x1 f0
  go_wp2
  have HT4 := ((HT3.out.setA 1 (.slice u.p u.n u.c)).setB 0 (.string s)).setB 1 (.slice u.p u.n u.c)
  have hbt : But (fun x => x = w.heap.size ∨ x = w.heap.size + 1) w2 (((w2.setCell ⟨w.heap.size, 1, none⟩ (.slice u.p u.n u.c)).setCell ⟨w.heap.size + 1, 0, none⟩ (.string s)).setCell ⟨w.heap.size + 1, 1, none⟩ (.slice u.p u.n u.c)) :=
    (((But.refl _ w2).setCell (fun _ => Or.inl rfl) _).setCell (fun _ => Or.inr rfl) _).setCell (fun _ => Or.inr rfl) _
  obtain ⟨hal, hin2⟩ := HU.out
  obtain ⟨up, un, uc, uf⟩ := u
  simp only at hn2 hal
  subst hn2
  refine bodyPost_ret (v := .agg #[.string s, .slice up un uc]) (by simp [results, Try.results65, go_sem, z0, z1]) rfl ⟨.mk k i s un up uc uf, rfl, ⟨rfl, rfl, rfl, rfl, hal⟩, ?_, HT4.bel⟩
  refine LT.toVT (l := ⟨up, un, uc, uf⟩) (((hin2.mono (S' := fun b => w1.heap.size ≤ b) (fun b hb _ => by simpa [World.setCell] using hb)).kept hbt.size (fun b hb hl => hbt.block b hl (by omega))).mono (fun b hb _ => by omega)) ⟨HF.out.k0, HF.out.k1, HF.out.i0, HF.out.i1, HF.out.s1, hin2.nc, hin2.nn, hin2.cc, hin2.nil⟩

set_option maxHeartbeats 1000000 in
/-- fresh.State -/
theorem freshS (num : Int) (l : LT VT) (w : World) (S : Nat → Prop) (hin : LT.In elCell w S l) (hn : l.n ≤ 10000) (ht : ∀ j, j < l.n → (l.item j).total ≤ 10000) :
    Calls Try.prog 43 #[.agg #[.int .i64 num, .slice l.p l.n l.c]] w fun e w' => ∃ u : LT VT, e = .returned (.agg #[.int .i64 num, .slice u.p u.n u.c]) ∧ u.n = l.n ∧ (∀ j, j < l.n → VT.Alike (l.item j) (u.item j)) ∧ LT.In elCell w' (fun b => w.heap.size ≤ b) u ∧ Below w.heap.size w w' := by
  have HL : Hid (∀ W, Below w.heap.size w W → Calls Try.prog 64 #[.slice l.p l.n l.c, .func (.func 65) #[] #[]] W fun e w' => ∃ u : LT VT, e = .returned (.slice u.p u.n u.c) ∧ u.n = l.n ∧ (∀ j, j < l.n → VT.Alike (l.item j) (u.item j)) ∧ LT.In elCell w' (fun b => W.heap.size ≤ b) u ∧ Below W.heap.size W w') := fun W hW =>
    flC VT.Alike l W (fun b => S b ∧ b < w.heap.size) ((hin.mono fun b hb hl => ⟨hb, hl⟩).kept hW.size (fun b hb _ => hW.block b hb.2)) hn
      (fun j hj W2 hW2 => freshC (l.item j) W2 (fun b => S b ∧ b < w.heap.size) (VT.In.kept ((hin.each j hj).mono fun b hb hl => ⟨hb, hl⟩) (Nat.le_trans hW.size hW2.size) (fun b hb _ => (hW2.block b (by have := hW.size; omega)).trans (hW.block b hb.2))) (ht j hj))
  have HT := hid (TwoK.start w #[.int .i64 num, .slice l.p l.n l.c] #[.int .i64 0, .slice none 0 0] 24)
  clear hin ht
  go_enter Try.func43, Try.ntmps43
  go_wp2_with fail
  refine (HL.out _ HT.out.bel).mono ?_
  rintro e w2 ⟨u, rfl, hn2, hal, hin2, hb2⟩
  have HT3 := hid (HT.out.below hb2)
  have HU := hid (And.intro hn2 (And.intro hal hin2))
  have m0 := HT3.out.ba.lt
  have m1 := HT3.out.bb.lt
  have y0 := HT3.out.ba.cell 0
  have y1 := HT3.out.ba.cell 1
  have g1 := HT3.out.ba.frozen 1
  have z0 := HT3.out.bb.cell 0
  have z1 := HT3.out.bb.cell 1
  have k0 := HT3.out.bb.frozen 0
  have k1 := HT3.out.bb.frozen 1
  simp at y0 y1 z0 z1
  have hsz := hb2.size
  simp at hsz
  clear hal hin2 hb2 HT HL hn2
  go_wp2
  have HT4 := ((HT3.out.setA 1 (.slice u.p u.n u.c)).setB 0 (.int .i64 num)).setB 1 (.slice u.p u.n u.c)
  have hbt : But (fun x => x = w.heap.size ∨ x = w.heap.size + 1) w2 (((w2.setCell ⟨w.heap.size, 1, none⟩ (.slice u.p u.n u.c)).setCell ⟨w.heap.size + 1, 0, none⟩ (.int .i64 num)).setCell ⟨w.heap.size + 1, 1, none⟩ (.slice u.p u.n u.c)) :=
    (((But.refl _ w2).setCell (fun _ => Or.inl rfl) _).setCell (fun _ => Or.inr rfl) _).setCell (fun _ => Or.inr rfl) _
  obtain ⟨hn2, hal, hin2⟩ := HU.out
  refine bodyPost_ret (v := .agg #[.int .i64 num, .slice u.p u.n u.c]) (by simp [results, Try.results43, go_sem, z0, z1]) rfl ⟨u, rfl, hn2, hal, ?_, HT4.bel⟩
  exact ((hin2.mono (S' := fun b => w.heap.size + 2 ≤ b) (fun b hb _ => by simpa using hb)).kept hbt.size (fun b hb hl => hbt.block b hl (by omega))).mono (S' := fun b => w.heap.size ≤ b) (fun b hb _ => by omega)
end Go.Proofs.Ytckopbkhpbhljaa
