import Derived.Test.YtckopbkhpbhljaaDlF
import Derived.Test.YtckopbkhpbhljaaDlF2
import Derived.Test.YtckopbkhpbhljaaDlF3
import Derived.Test.YtckopbkhpbhljaaDlF4
namespace Go.Proofs.Ytckopbkhpbhljaa
open Go.RowKit
set_option maxRecDepth 8000
theorem kindC : ∃ i, Kind 22 62 i (.agg #[.string ⟨#[]⟩, .slice none 0 0]) 2 40 := by
  obtain ⟨i0, hi, hz0, hz1, hz2⟩ := info_parts (show (Try.prog.info? 62).map (fun i => (i.zero, i.size, i.bytes)) = some (some (.agg #[.string ⟨#[]⟩, .slice none 0 0]), 2, 40) by kernel_rfl)
  exact ⟨i0, Try.underlying22, hi, hz0, hz1, hz2, rfl, by decide⟩
set_option maxHeartbeats 1000000 in
theorem mk_C (p : Option Addr) (n c : Nat) (w : World) : Calls Try.prog 33 #[.slice p n c] w fun e w' => e = .returned (.agg #[.slice p n c, .func (.func 60) #[] #[]]) ∧ Below w.heap.size w w' := by
  go_enter Try.func33, Try.ntmps33
  go_wp2
  have hE := Box.new w #[.slice p n c, .func (.func 60) #[] #[]] 70
  have e0 := hE.cell 0
  have e1 := hE.cell 1
  simp only [List.getElem?_toArray, List.getElem?_cons_zero, List.getElem?_cons_succ] at e0 e1
  exact bodyPost_ret (v := .agg #[.slice p n c, .func (.func 60) #[] #[]]) (by simp [results, Try.results33, go_sem, e0, e1]) rfl ⟨rfl, (Below.refl _ _).alloc (Nat.le_refl _) _⟩
theorem kindS : ∃ i, Kind 28 9 i (.string ⟨#[]⟩) 1 16 := by
  obtain ⟨i0, hi, hz0, hz1, hz2⟩ := info_parts (show (Try.prog.info? 9).map (fun i => (i.zero, i.size, i.bytes)) = some (some (.string ⟨#[]⟩), 1, 16) by kernel_rfl)
  exact ⟨i0, Try.underlying28, hi, hz0, hz1, hz2, rfl, by decide⟩
set_option maxHeartbeats 1000000 in
theorem mk_S (p : Option Addr) (n c : Nat) (w : World) : Calls Try.prog 37 #[.slice p n c] w fun e w' => e = .returned (.agg #[.slice p n c, .func (.func 70) #[] #[]]) ∧ Below w.heap.size w w' := by
  go_enter Try.func37, Try.ntmps37
  go_wp2
  have hE := Box.new w #[.slice p n c, .func (.func 70) #[] #[]] 78
  have e0 := hE.cell 0
  have e1 := hE.cell 1
  simp only [List.getElem?_toArray, List.getElem?_cons_zero, List.getElem?_cons_succ] at e0 e1
  exact bodyPost_ret (v := .agg #[.slice p n c, .func (.func 70) #[] #[]]) (by simp [results, Try.results37, go_sem, e0, e1]) rfl ⟨rfl, (Below.refl _ _).alloc (Nat.le_refl _) _⟩
set_option maxHeartbeats 1000000 in
theorem mrg_CC (la : LT VT) (lb : LT VT) (w : World) : Calls Try.prog 32 #[.agg #[.slice la.p la.n la.c, .func (.func 60) #[] #[]], .agg #[.slice lb.p lb.n lb.c, .func (.func 60) #[] #[]]] w fun e w' => e = .returned (.func (.func 57) #[] #[.pointer (some ⟨w.heap.size, 0, none⟩), .pointer (some ⟨w.heap.size + 1, 0, none⟩)]) ∧ w' = (w.alloc (.cells #[.slice la.p la.n la.c, .func (.func 60) #[] #[]] 70)).alloc (.cells #[.slice lb.p lb.n lb.c, .func (.func 60) #[] #[]] 70) := by
  go_enter Try.func32, Try.ntmps32
  go_wp2
  exact bodyPost_ret (v := .func (.func 57) #[] #[.pointer (some ⟨w.heap.size, 0, none⟩), .pointer (some ⟨w.heap.size + 1, 0, none⟩)]) (by simp [results, Try.results32, go_sem]) rfl ⟨rfl, rfl⟩
set_option maxHeartbeats 1000000 in
theorem mrg_SC (la : LT ByteArray) (lb : LT VT) (w : World) : Calls Try.prog 71 #[.agg #[.slice la.p la.n la.c, .func (.func 70) #[] #[]], .agg #[.slice lb.p lb.n lb.c, .func (.func 60) #[] #[]]] w fun e w' => e = .returned (.func (.func 84) #[] #[.pointer (some ⟨w.heap.size, 0, none⟩), .pointer (some ⟨w.heap.size + 1, 0, none⟩)]) ∧ w' = (w.alloc (.cells #[.slice la.p la.n la.c, .func (.func 70) #[] #[]] 78)).alloc (.cells #[.slice lb.p lb.n lb.c, .func (.func 60) #[] #[]] 70) := by
  go_enter Try.func71, Try.ntmps71
  go_wp2
  exact bodyPost_ret (v := .func (.func 84) #[] #[.pointer (some ⟨w.heap.size, 0, none⟩), .pointer (some ⟨w.heap.size + 1, 0, none⟩)]) (by simp [results, Try.results71, go_sem]) rfl ⟨rfl, rfl⟩
set_option maxHeartbeats 1000000 in
theorem mrg_CS (la : LT VT) (lb : LT ByteArray) (w : World) : Calls Try.prog 72 #[.agg #[.slice la.p la.n la.c, .func (.func 60) #[] #[]], .agg #[.slice lb.p lb.n lb.c, .func (.func 70) #[] #[]]] w fun e w' => e = .returned (.func (.func 87) #[] #[.pointer (some ⟨w.heap.size, 0, none⟩), .pointer (some ⟨w.heap.size + 1, 0, none⟩)]) ∧ w' = (w.alloc (.cells #[.slice la.p la.n la.c, .func (.func 60) #[] #[]] 70)).alloc (.cells #[.slice lb.p lb.n lb.c, .func (.func 70) #[] #[]] 78) := by
  go_enter Try.func72, Try.ntmps72
  go_wp2
  exact bodyPost_ret (v := .func (.func 87) #[] #[.pointer (some ⟨w.heap.size, 0, none⟩), .pointer (some ⟨w.heap.size + 1, 0, none⟩)]) (by simp [results, Try.results72, go_sem]) rfl ⟨rfl, rfl⟩
set_option maxHeartbeats 1000000 in
theorem mrg_SS (la : LT ByteArray) (lb : LT ByteArray) (w : World) : Calls Try.prog 74 #[.agg #[.slice la.p la.n la.c, .func (.func 70) #[] #[]], .agg #[.slice lb.p lb.n lb.c, .func (.func 70) #[] #[]]] w fun e w' => e = .returned (.func (.func 90) #[] #[.pointer (some ⟨w.heap.size, 0, none⟩), .pointer (some ⟨w.heap.size + 1, 0, none⟩)]) ∧ w' = (w.alloc (.cells #[.slice la.p la.n la.c, .func (.func 70) #[] #[]] 78)).alloc (.cells #[.slice lb.p lb.n lb.c, .func (.func 70) #[] #[]] 78) := by
  go_enter Try.func74, Try.ntmps74
  go_wp2
  exact bodyPost_ret (v := .func (.func 90) #[] #[.pointer (some ⟨w.heap.size, 0, none⟩), .pointer (some ⟨w.heap.size + 1, 0, none⟩)]) (by simp [results, Try.results74, go_sem]) rfl ⟨rfl, rfl⟩
/-- a list of items with an address -/
def ltOf {α : Type} (p : Option Addr) (c : Nat) (z : α) (xs : List α) : LT α := ⟨p, xs.length, c, fun j => xs.getD j z⟩
theorem ltOf_toL {α : Type} (p : Option Addr) (c : Nat) (z : α) (xs : List α) : (ltOf p c z xs).toL = xs := by
  apply List.ext_getElem?
  intro j
  by_cases h : j < xs.length
  · rw [LT.toL_get _ (show j < (ltOf p c z xs).n from h)]
    show some (xs.getD j z) = _
    rw [List.getD_eq_getElem?_getD, List.getElem?_eq_getElem h]; rfl
  · rw [List.getElem?_eq_none (show (ltOf p c z xs).toL.length ≤ j by rw [LT.toL_len]; show xs.length ≤ j; omega), List.getElem?_eq_none (show xs.length ≤ j by omega)]
theorem flat_getL {α : Type} (E : El α) : ∀ (xs : List α) (j r : Nat) (z : α), j < xs.length → r < E.size → (xs.flatMap E.cells)[j * E.size + r]? = (E.cells (xs.getD j z))[r]? := by
  intro xs
  induction xs with
  | nil => intro j r z h; simp at h
  | cons x xs ih =>
    intro j r z h hr
    rw [List.flatMap_cons]
    cases j with
    | zero =>
      rw [List.getElem?_append_left (by rw [E.len]; omega)]
      simp
    | succ j =>
      rw [List.getElem?_append_right (by rw [E.len, Nat.add_mul]; omega), E.len]
      have := ih j r z (by simpa using h) hr
      rw [show (j + 1) * E.size + r - E.size = j * E.size + r by rw [Nat.add_mul]; omega, this]
      simp
theorem own_lt {α : Type} {E : El α} {W : World} {base : Nat} {p : Option Addr} {c : Nat} {xs : List α} {Q : Nat → Prop} (z : α) (h : W.ownsRow base E.ty E.size (.slice p xs.length c) xs.length (xs.flatMap E.cells)) (hQ : ∀ k, base ≤ k → Q k) (hx : ∀ x ∈ xs, E.In W Q x) (hn : xs.length ≤ 140737488355328) : LT.In E W Q (ltOf p c z xs) := by
  have hlt := h.lt
  have hcells := fun g hg => h.cells (g := g) hg
  have hmem : ∀ j, j < xs.length → xs.getD j z ∈ xs := fun j hj => by rw [List.getD_eq_getElem?_getD, List.getElem?_eq_getElem hj]; exact List.getElem_mem hj
  obtain ⟨_, ⟨hv, h0⟩ | ⟨g, cap, cur, hv, hbg, hh, hnc, hcm, _⟩⟩ := h
  · simp only [Value.slice.injEq] at hv
    obtain ⟨rfl, _, rfl⟩ := hv
    exact ⟨fun h => absurd h (by show ¬ 0 < xs.length; omega), fun j hj => hx _ (hmem j hj), by show xs.length ≤ 0; omega, hn, by show 0 ≤ maxLen; omega, fun _ => ⟨h0, rfl⟩⟩
  · simp only [Value.slice.injEq] at hv
    obtain ⟨rfl, _, rfl⟩ := hv
    refine ⟨fun _ => ⟨g, 0, rfl, hQ g hbg, (hlt g rfl).2, fun j hj r u hu => ?_⟩, fun j hj => hx _ (hmem j hj), hnc, hn, hcm, fun h => by cases h⟩
    have hr : r < E.size := by
      rcases Nat.lt_or_ge r E.size with h | h
      · exact h
      · rw [List.getElem?_eq_none (by rw [E.len]; exact h)] at hu; cases hu
    have := hcells g rfl (j * E.size + r) u ((flat_getL E xs j r z hj hr).trans hu)
    rw [Go.WideShapes.add_plain] at this
    rw [show 0 + j * E.size + r = 0 + (j * E.size + r) by omega]
    exact this
/-- a list that a loop's body lays longer, in the variable at b0 -/
structure Row {α : Type} (E : El α) (w : World) (B b0 : Nat) (t0 : TypeId) (fk : Nat) (W : World) (xs : List α) : Prop where
  ex : ∃ v, Box W b0 #[v, .func (.func fk) #[] #[]] t0 ∧ W.ownsRow B E.ty E.size v xs.length (xs.flatMap E.cells)
  bel : Below w.heap.size w W
  sz : B ≤ W.heap.size
theorem own_low {base base' : Nat} {e : TypeId} {size n : Nat} {w : World} {v : Value} {xs : List Value} (h : w.ownsRow base e size v n xs) (hb : base' ≤ base) : w.ownsRow base' e size v n xs := by
  obtain ⟨h1, h2 | ⟨g, cap, cur, h3, h4, h5⟩⟩ := h
  · exact ⟨h1, .inl h2⟩
  · exact ⟨h1, .inr ⟨g, cap, cur, h3, Nat.le_trans hb h4, h5⟩⟩
theorem own_tag {W : World} {base : Nat} {e : TypeId} {size : Nat} {v : Value} {n : Nat} {xs : List Value} (h : W.ownsRow base e size v n xs) {g : Nat} (hg : v.ownBlock = some g) : ∃ cur, W.heap[g]? = some (.cells cur e (0, 0)) ∧ base ≤ g := by
  obtain ⟨_, ⟨hv, _⟩ | ⟨b, cap, cur, hv, hbg, hh, _⟩⟩ := h
  · rw [hv] at hg; simp [Value.ownBlock] at hg
  · rw [hv] at hg
    simp only [Value.ownBlock, Option.some.injEq] at hg
    subst hg
    exact ⟨cur, hh, hbg⟩
theorem own_okTN {W : World} {T : TypeId → Prop} {base : Nat} {e : TypeId} {size : Nat} {v : Value} {n : Nat} {xs : List Value} (h : W.ownsRow base e size v n xs) (hT : ¬ T e) {g : Nat} (hg : v.ownBlock = some g) {o : Obj} (ho : W.heap[g]? = some o) : ¬ okTN T o := by
  obtain ⟨cur, h1, _⟩ := own_tag h hg
  rw [h1] at ho
  cases ho
  rintro (⟨c, t, h2, h3⟩ | h2)
  · cases h2; exact hT h3
  · simp [okN, Obj.isCells] at h2
theorem Row.ab {α β : Type} {E : El α} {w : World} {B b0 : Nat} {t0 : TypeId} {fk : Nat} {T : TypeId → Prop} (g : β → List α) (hT : ¬ T E.ty) (hb : b0 < B) (hw : w.heap.size ≤ B) : Ab B (okTN T) (fun s W => Row E w B b0 t0 fk W (g s)) := by
  rintro s W W' X ⟨⟨v, hbx, hown⟩, hbel, hsz⟩ hbt hx
  refine ⟨⟨v, hbx.but hbt fun e => ?_, ownsRow_keep hown fun k hk hl => hbt.block k hl fun e => ?_⟩, hbel.trans (hbt.below hbel.size fun k hk e => ?_), Nat.le_trans hsz hbt.size⟩
  · have := (hx b0 hbx.lt e).1; omega
  · obtain ⟨_, o, h1, h2⟩ := hx k hl e
    exact own_okTN hown hT hk h1 h2
  · have := (hx k (by have := hbel.size; omega) e).1; omega
theorem row_box {W W2 : World} {B b0 : Nat} {t0 : TypeId} {v f : Value} {e : TypeId} {size n : Nat} {xs : List Value} {o : Obj} (hbx : Box W b0 #[v, f] t0) (hown : W.ownsRow B e size v n xs) (hb : b0 < B) (hg : (W.alloc o).grownBy W2 v.ownBlock) : Box W2 b0 #[v, f] t0 :=
  (hbx.kept (Below.heap_alloc _ _ _ hbx.lt)).kept (hg.block b0 (by simp; have := hbx.lt; omega) (fun e => by obtain ⟨_, _, h⟩ := own_tag hown e.symm; omega))
/-- one item more -/
theorem Row.push {α : Type} {E : El α} {w : World} {B b0 : Nat} {t0 : TypeId} {fk : Nat} {T : TypeId → Prop} {W W2 : World} {xs : List α} {v v' : Value} {x : α} {o : Obj} (hbx : Box W b0 #[v, .func (.func fk) #[] #[]] t0) (hown : W.ownsRow B E.ty E.size v xs.length (xs.flatMap E.cells)) (hbel : Below w.heap.size w W) (hsz : B ≤ W.heap.size)
    (hT : ¬ T E.ty) (hb : b0 < B) (hw : w.heap.size ≤ b0) (ho : W2.ownsRow B E.ty E.size v' (xs.length + 1) (xs.flatMap E.cells ++ E.cells x)) (hg : (W.alloc o).grownBy W2 v.ownBlock) :
    KeepB B T b0 W (W2.setCell ⟨b0, 0, none⟩ v') ∧ Row E w B b0 t0 fk (W2.setCell ⟨b0, 0, none⟩ v') (xs ++ [x]) := by
  have hs2 := hg.size
  simp only [World.size_alloc] at hs2
  have hkeep : ∀ k, k < W.heap.size → k ≠ b0 → v.ownBlock ≠ some k → (W2.setCell ⟨b0, 0, none⟩ v').heap[k]? = W.heap[k]? := fun k hk hn hv =>
    ((Below.heap_setCell _ _ _ _ hn).trans (hg.block k (by simp; omega) (fun e => hv e.symm))).trans (Below.heap_alloc _ _ _ hk)
  have hlt : ∀ (k : Nat) (o : Obj), W.heap[k]? = some o → k < W.heap.size := fun k o h => (Array.getElem?_eq_some_iff.1 h).1
  have hvb : v.ownBlock ≠ some b0 := fun e => by obtain ⟨_, _, h⟩ := own_tag hown e; omega
  have hvb' : v'.ownBlock ≠ some b0 := fun e => by obtain ⟨_, _, h⟩ := own_tag ho e; omega
  have hbx2 : Box W2 b0 #[v, .func (.func fk) #[] #[]] t0 := (hbx.kept (Below.heap_alloc _ _ _ hbx.lt)).kept (hg.block b0 (by simp; have := hbx.lt; omega) (fun e => hvb e.symm))
  have hbt : But (fun k => k = b0) W2 (W2.setCell ⟨b0, 0, none⟩ v') := (But.one W2 b0).setAt 0 v'
  refine ⟨⟨⟨by simp [World.setCell]; omega, fun k hk hl hn => hkeep k hl hn fun e => ?_, fun k c t hk hc ht => (hkeep k (hlt k _ hc) (by omega) fun e => ?_).trans hc⟩, fun k o' hk ho' hc => (hkeep k (hlt k _ ho') (by omega) fun e => ?_).trans ho'⟩, ⟨v', ?_, ?_⟩, ?_, by simp [World.setCell]; omega⟩
  · obtain ⟨_, _, h⟩ := own_tag hown e; omega
  · exact own_okTN hown hT e hc (.inl ⟨c, t, rfl, ht⟩)
  · exact own_okTN hown hT e ho' (.inr hc)
  · have h := hbx2.set 0 v'
    simpa only [List.setIfInBounds_toArray, List.set_cons_zero] using h
  · have e1 : (xs ++ [x]).flatMap E.cells = xs.flatMap E.cells ++ E.cells x := by simp
    rw [e1, List.length_append]
    exact ownsRow_keep ho fun k hk hl => hbt.block k hl fun e => hvb' (e ▸ hk)
  · refine ⟨?_, ?_, ?_, ?_, ?_⟩
    · exact hbt.os.trans (hg.os.trans hbel.os)
    · exact hbt.tape.trans (hg.tape.trans hbel.tape)
    · exact hbt.output.trans (hg.output.trans hbel.output)
    · have := hbel.size; simp [World.setCell]; omega
    · intro k hk
      have := hbel.size
      refine (hkeep k (by omega) (by omega) fun e => ?_).trans (hbel.block k hk)
      obtain ⟨_, _, h⟩ := own_tag hown e; omega
end Go.Proofs.Ytckopbkhpbhljaa
