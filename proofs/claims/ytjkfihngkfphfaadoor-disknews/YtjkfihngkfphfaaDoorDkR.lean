import Derived.RangeFuncLeaves
import Derived.RangeFuncFrom
import Derived.Test.YtjkfihngkfphfaaDoorTree
namespace Go.Proofs.YtjkfihngkfphfaaDoor
open Go.RowKit
set_option maxRecDepth 8000
/-- what abides changes of blocks at B or beyond whose objects are of a kind -/
def Ab {β : Type} (B : Nat) (ok : Obj → Prop) (J : β → World → Prop) : Prop :=
  ∀ s W W' (X : Nat → Prop), J s W → But X W W' → (∀ k, k < W.heap.size → X k → B ≤ k ∧ ∃ o, W.heap[k]? = some o ∧ ok o) → J s W'
/-- a range over a map, under way -/
def okI (o : Obj) : Prop := ∃ m s q c, o = .mapIter m s q c
/-- no cells at all -/
def okN (o : Obj) : Prop := o.isCells = false
theorem okI.non {o : Obj} (h : okI o) : okN o := by obtain ⟨m, s, q, c, rfl⟩ := h; rfl
theorem Ab.weak {β : Type} {B : Nat} {ok ok' : Obj → Prop} {J : β → World → Prop} (h : Ab B ok J) (hk : ∀ o, ok' o → ok o) : Ab B ok' J := fun s W W' X hs hb hx => h s W W' X hs hb fun k hl e => by
  obtain ⟨h1, o, h2, h3⟩ := hx k hl e
  exact ⟨h1, o, h2, hk o h3⟩
theorem Ab.and {β : Type} {B : Nat} {ok : Obj → Prop} {J J' : β → World → Prop} (h : Ab B ok J) (h' : Ab B ok J') : Ab B ok (fun s W => J s W ∧ J' s W) := fun s W W' X hs hb hx => ⟨h s W W' X hs.1 hb hx, h' s W W' X hs.2 hb hx⟩
theorem But.put (W : World) (l : Nat) (o : Obj) : But (fun k => k = l) W (W.putObj l o) := ⟨rfl, rfl, rfl, by simp, fun k _ hk => World.putObj_heap_other hk⟩
theorem Ab.turn {β : Type} {B : Nat} {ok : Obj → Prop} {J : β → World → Prop} (h : Ab B ok J) {s : β} {W : World} {l : Nat} {o : Obj} (o' : Obj) (hs : J s W) (hB : B ≤ l) (hl : W.heap[l]? = some o) (ho : ok o) : J s (W.putObj l o') :=
  h s W _ _ hs (But.put W l o') fun k _ e => by subst e; exact ⟨hB, o, hl, ho⟩
theorem Ab.grow {β : Type} {B : Nat} {ok : Obj → Prop} {J : β → World → Prop} (h : Ab B ok J) {s : β} {W W' : World} (hs : J s W) (hb : Below W.heap.size W W') : J s W' :=
  h s W W' (fun _ => False) hs (But.ofBelow hb) fun _ _ e => e.elim
/-- what a round keeps: all that lay ahead of the loop but one block, and the iterator's own cells -/
structure KeepT (B : Nat) (b0 : Nat) (W W' : World) : Prop where
  size : W.heap.size ≤ W'.heap.size
  low : ∀ k, k < B → k < W.heap.size → k ≠ b0 → W'.heap[k]? = W.heap[k]?
  itr : ∀ k o, B ≤ k → W.heap[k]? = some o → okI o → W'.heap[k]? = some o
  os : W'.os = W.os
  tape : W'.tape = W.tape
  output : W'.output = W.output
/-- what a body keeps -/
structure KeepB (B : Nat) (b0 : Nat) (W W' : World) : Prop where
  kt : KeepT B b0 W W'
  non : ∀ k o, B ≤ k → W.heap[k]? = some o → o.isCells = false → W'.heap[k]? = some o
theorem KeepT.trans {B : Nat} {b0 : Nat} {X Y Z : World} (h : KeepT B b0 X Y) (g : KeepT B b0 Y Z) : KeepT B b0 X Z :=
  ⟨Nat.le_trans h.size g.size, fun k hk hl hn => (g.low k hk (Nat.lt_of_lt_of_le hl h.size) hn).trans (h.low k hk hl hn), fun k o hk hc ho => g.itr k o hk (h.itr k o hk hc ho) ho, g.os.trans h.os, g.tape.trans h.tape, g.output.trans h.output⟩
theorem KeepB.trans {B : Nat} {b0 : Nat} {X Y Z : World} (h : KeepB B b0 X Y) (g : KeepB B b0 Y Z) : KeepB B b0 X Z :=
  ⟨h.kt.trans g.kt, fun k o hk ho hc => g.non k o hk (h.non k o hk ho hc) hc⟩
theorem KeepT.turn {B : Nat} {b0 : Nat} {W : World} {l : Nat} {o : Obj} (o' : Obj) (hB : B ≤ l) (hl : W.heap[l]? = some o) (ho : ¬ okI o) : KeepT B b0 W (W.putObj l o') := by
  refine ⟨by simp, fun k hk _ _ => World.putObj_heap_other (by omega), fun k o2 hk hc h2 => ?_, rfl, rfl, rfl⟩
  rw [World.putObj_heap_other]
  · exact hc
  · rintro rfl
    rw [hl] at hc
    cases hc
    exact ho h2
theorem KeepB.below {B : Nat} {b0 : Nat} {W W' : World} (h : Below W.heap.size W W') : KeepB B b0 W W' := by
  have hk : ∀ k o, W.heap[k]? = some o → W'.heap[k]? = some o := fun k o ho => (h.block k (Array.getElem?_eq_some_iff.1 ho).1).trans ho
  exact ⟨⟨h.size, fun k _ hl _ => h.block k hl, fun k o _ hc _ => hk k o hc, h.os, h.tape, h.output⟩, fun k o _ ho _ => hk k o ho⟩
/-- an iterator: it yields what may come next (Pr), in the end all is told (Fn), whatever the rounds make of it -/
def SeqM {α : Type} (P : Program) (g : Nat) (lb : Array Value) (encs : α → Array Value) (Pr Fn : List α → Prop) (b0 : Nat) (w : World) : Prop :=
  ∀ (l : Nat) (J : List α → World → Prop) (W : World), Below w.heap.size w W → Ab w.heap.size okI J →
    (∀ pre x W1, J pre W1 → Pr (pre ++ [x]) → YieldAt Fence.wide 0 P l (encs x) W1 fun e W' => e = .returned (.bool true) ∧ J (pre ++ [x]) W' ∧ KeepT w.heap.size b0 W1 W') →
    J [] W → CallsIn Fence.wide 0 P g (#[.func (.yield l) #[] #[]] ++ lb) W fun e W' => (∃ v, e = .returned v) ∧ ∃ XS, Fn XS ∧ J XS W'
/-- how a body is left -/
def bodyPostT {α : Type} (B : Nat) (b0 : Nat) (I : List α → World → Prop) (xs : List α) (W : World) : Exit → Act → World → Prop
  | .normal, _, W' => KeepB B b0 W W' ∧ I xs W'
  | _, _, _ => False
/-- a range over an iterator -/
theorem range_law {α : Type} {P : Program} {g : Operand} {ps : Array Tmp} {assign body : Code} {Q : Exit → Act → World → Prop} {a : Act} {w : World}
    {gf : Nat} {lb : Array Value} (hg : a.eval g = .func (.func gf) #[] lb) (eg : ∀ args w, (callFunc gf args).run P w = .ok (.enter gf args) w)
    {encs : α → Array Value} (hps : ∀ x, (encs x).size = ps.size) {Pr Fn : List α → Prop} {b0 : Nat} (hseq : SeqM P gf lb encs Pr Fn b0 w)
    (I : List α → World → Prop) (hI : Ab w.heap.size (okN) I) (h0 : I [] w)
    (Ax : α → Act → World → Prop) (hAx : Ab w.heap.size okN (fun (s : α × Act) W => Ax s.1 s.2 W))
    (hassign : ∀ (l : Nat) (pre : List α) (x : α) (W : World) (K : Act → World → Prop), I pre W → (∀ a' W', KeepB w.heap.size b0 W W' → I pre W' → Ax x a' W' → K a' W') →
      assign.wpIn (Fence.wide.inRound l) 0 P (Exit.then K (fun _ _ _ => False)) { tmps := (ps.zip (encs x)).foldl (fun t (p, v) => t.setIfInBounds p v) a.tmps, defers := [] } W)
    (hbody : ∀ (l : Nat) (pre : List α) (x : α) (a' : Act) (W : World), I pre W → Ax x a' W → Pr (pre ++ [x]) → body.wpIn (Fence.wide.inRound l) 0 P (bodyPostT w.heap.size b0 I (pre ++ [x]) W) a' W)
    (hdone : ∀ (D : Nat) (W : World) (XS : List α), Fn XS → w.heap.size ≤ D → I XS W → W.heap[D]? = some (.deferred (some [])) → Q .normal { a with defers := { target := .collected D, args := #[] } :: a.defers } W) :
    (Code.rangeFunc g ps assign body).wpIn Fence.wide 0 P Q a w := by
  refine wpIn_rangeFunc fun fn hfn => ?_
  generalize hr : (fun (st : LoopState) => ({ state := st, pending := none, fn := fn, tmps := a.tmps, params := ps, assign := assign, body := body, defers := w.heap.size } : Loop)) = rec
  have hr' : ∀ st, rec st = { state := st, pending := none, fn := fn, tmps := a.tmps, params := ps, assign := assign, body := body, defers := w.heap.size } := fun st => by rw [← hr]
  generalize hV : (w.alloc (.deferred (some []))).alloc (.loop (rec .ready)) = V
  have hLV : V.heap[w.heap.size + 1]? = some (.loop (rec .ready)) := by
    have h := World.alloc_heap_new (w.alloc (.deferred (some []))) (.loop (rec .ready))
    rw [hV] at h
    simpa using h
  have hbV : Below w.heap.size w V := by rw [← hV]; exact ((Below.refl _ w).alloc (Nat.le_refl _) _).alloc (by simp) _
  have hDV : V.heap[w.heap.size]? = some (.deferred (some [])) := by
    rw [← hV]; exact (Below.heap_alloc _ _ _ (by simp)).trans (World.alloc_heap_new w _)
  have hN : ∀ {o : Obj}, o.isCells = false → okN o := fun h => h
  refine ⟨w.heap.size + 1, [{ target := .collected w.heap.size, args := #[] }], V, { target := .fn (.func gf) lb, args := #[.func (.yield (w.heap.size + 1)) #[] #[]] }, V, gf, #[.func (.yield (w.heap.size + 1)) #[] #[]] ++ lb, V, ?_, ?_, fun _ _ => trivial, ?_, (fun h => by cases h), ?_⟩
  · rw [← hV, hr' .ready]; exact run_enterLoop_outer _ _ _ _ _
  · simp only [resolve, hg]; simp [go_sem]
  · simp [invoke, go_sem, eg]
  have hJ : Ab w.heap.size okI (fun pre W => I pre W ∧ W.heap[w.heap.size + 1]? = some (.loop (rec .ready)) ∧ W.heap[w.heap.size]? = some (.deferred (some []))) := by
    intro s W W' X ⟨h1, h2, h3⟩ hb hx
    have keep : ∀ (k : Nat) (o : Obj), W.heap[k]? = some o → ¬ okI o → W'.heap[k]? = some o := fun k o ho hc => by
      refine (hb.block k (Array.getElem?_eq_some_iff.1 ho).1 fun e => ?_).trans ho
      obtain ⟨_, o2, h4, h5⟩ := hx k (Array.getElem?_eq_some_iff.1 ho).1 e
      rw [ho] at h4
      cases h4
      exact hc h5
    exact ⟨(hI.weak fun _ h => h.non) s W W' X h1 hb hx, keep _ _ h2 (by rintro ⟨_, _, _, _, h⟩; cases h), keep _ _ h3 (by rintro ⟨_, _, _, _, h⟩; cases h)⟩
  refine (hseq (w.heap.size + 1) _ V hbV hJ ?_ ⟨hI.grow h0 (hbV.mono (Nat.le_refl _)), hLV, hDV⟩).mono ?_
  · rintro pre x W ⟨hi, hl, hk⟩ hpre
    have hlt : w.heap.size + 1 < W.heap.size := (Array.getElem?_eq_some_iff.1 hl).1
    have hy := run_yield (P := P) (args := encs x) hl (by rw [hr']; exact hps x)
    rw [hr'] at hy
    refine ⟨fn, _, assign, body, hy, roundIn_of_wpIn hfn (hassign _ pre x W _ hi fun a' W' hkb hi' hax => ?_)⟩
    have hl' := hkb.non _ _ (Nat.le_succ _) hl rfl
    have hk' := hkb.non _ _ (Nat.le_refl _) hk rfl
    refine ⟨_, run_beginRound hl' (by rw [hr']), ?_⟩
    generalize hW2 : W'.putObj (w.heap.size + 1) (.loop { rec .ready with state := .busy }) = W2
    have hlt' : w.heap.size + 1 < W'.heap.size := (Array.getElem?_eq_some_iff.1 hl').1
    have hl2 : W2.heap[w.heap.size + 1]? = some (.loop { rec .ready with state := .busy }) := by rw [← hW2]; exact World.putObj_heap_same hlt'
    have hk2 : W2.heap[w.heap.size]? = some (.deferred (some [])) := by rw [← hW2]; exact (World.putObj_heap_other (by omega)).trans hk'
    have hi2 : I pre W2 := by rw [← hW2]; exact hI.turn _ hi' (Nat.le_succ _) hl' (hN rfl)
    have hax2 : Ax x a' W2 := by rw [← hW2]; exact hAx.turn (s := (x, a')) _ hax (Nat.le_succ _) hl' rfl
    have hkt2 : KeepT w.heap.size b0 W W2 := hkb.kt.trans (by rw [← hW2]; exact KeepT.turn _ (Nat.le_succ _) hl' (by rintro ⟨_, _, _, _, h⟩; cases h))
    refine wpIn_mono (hbody _ pre x a' W2 hi2 hax2 hpre) ?_
    intro e a3 W3 hp
    cases e with
    | normal =>
      obtain ⟨hk3, hi3⟩ := hp
      have hl3 := hk3.non _ _ (Nat.le_succ _) hl2 rfl
      have hd3 := hk3.non _ _ (Nat.le_refl _) hk2 rfl
      have hlt3 : w.heap.size + 1 < W3.heap.size := (Array.getElem?_eq_some_iff.1 hl3).1
      refine ⟨_, _, run_endRound (P := P) none hl3, rfl, ⟨hI.turn _ hi3 (Nat.le_succ _) hl3 (hN rfl), ?_, (World.putObj_heap_other (by omega)).trans hd3⟩, (hkt2.trans hk3.kt).trans (KeepT.turn _ (Nat.le_succ _) hl3 (by rintro ⟨_, _, _, _, h⟩; cases h))⟩
      rw [World.putObj_heap_same hlt3, hr']
      rfl
    | ret => exact hp.elim
    | exit _ => exact hp.elim
    | goto _ => exact hp.elim
    | panic _ => exact hp.elim
    | outgrown => exact hp.elim
  · rintro e W ⟨⟨v, rfl⟩, XS, hfn, hi, hl, hk⟩
    have he := run_endLoop (P := P) hl (by rw [hr']; simp)
    have hp : (rec .ready).pending = none := by rw [hr']
    rw [hp] at he
    exact ⟨none, _, he, hdone _ _ XS hfn (Nat.le_refl _) (hI.turn _ hi (Nat.le_succ _) hl (hN rfl)) ((World.putObj_heap_other (by omega)).trans hk)⟩
end Go.Proofs.YtjkfihngkfphfaaDoor
