import Derived.RangeFuncLeaves
import Derived.RangeFuncFrom
import Derived.Test.YtckopbkhpbhljaaPack0
import Derived.Test.YtckopbkhpbhljaaDlD
import Derived.Test.YtckopbkhpbhljaaDlD2
namespace Go.Proofs.Ytckopbkhpbhljaa
open Go.RowKit
set_option maxRecDepth 8000
/-- what abides changes of blocks at B or beyond whose objects are of a kind -/
def Ab {β : Type} (B : Nat) (ok : Obj → Prop) (J : β → World → Prop) : Prop :=
  ∀ s W W' (X : Nat → Prop), J s W → But X W W' → (∀ k, k < W.heap.size → X k → B ≤ k ∧ ∃ o, W.heap[k]? = some o ∧ ok o) → J s W'
/-- cells of one of the types T -/
def okT (T : TypeId → Prop) (o : Obj) : Prop := ∃ c t, o = .cells c t (0, 0) ∧ T t
/-- no cells at all -/
def okN (o : Obj) : Prop := o.isCells = false
def okTN (T : TypeId → Prop) (o : Obj) : Prop := okT T o ∨ okN o
theorem Ab.weak {β : Type} {B : Nat} {ok ok' : Obj → Prop} {J : β → World → Prop} (h : Ab B ok J) (hk : ∀ o, ok' o → ok o) : Ab B ok' J := fun s W W' X hs hb hx => h s W W' X hs hb fun k hl e => by
  obtain ⟨h1, o, h2, h3⟩ := hx k hl e
  exact ⟨h1, o, h2, hk o h3⟩
theorem Ab.and {β : Type} {B : Nat} {ok : Obj → Prop} {J J' : β → World → Prop} (h : Ab B ok J) (h' : Ab B ok J') : Ab B ok (fun s W => J s W ∧ J' s W) := fun s W W' X hs hb hx => ⟨h s W W' X hs.1 hb hx, h' s W W' X hs.2 hb hx⟩
theorem But.put (W : World) (l : Nat) (o : Obj) : But (fun k => k = l) W (W.putObj l o) := ⟨rfl, rfl, rfl, by simp, fun k _ hk => World.putObj_heap_other hk⟩
theorem Ab.turn {β : Type} {B : Nat} {ok : Obj → Prop} {J : β → World → Prop} (h : Ab B ok J) {s : β} {W : World} {l : Nat} {o : Obj} (o' : Obj) (hs : J s W) (hB : B ≤ l) (hl : W.heap[l]? = some o) (ho : ok o) : J s (W.putObj l o') :=
  h s W _ _ hs (But.put W l o') fun k _ e => by subst e; exact ⟨hB, o, hl, ho⟩
theorem Ab.grow {β : Type} {B : Nat} {ok : Obj → Prop} {J : β → World → Prop} (h : Ab B ok J) {s : β} {W W' : World} (hs : J s W) (hb : Below W.heap.size W W') : J s W' :=
  h s W W' (fun _ => False) hs (But.ofBelow hb) fun _ _ e => e.elim
/-- what a round keeps: all that lay ahead of the loop but one block, and the iterator's own cells -/
structure KeepT (B : Nat) (T : TypeId → Prop) (b0 : Nat) (W W' : World) : Prop where
  size : W.heap.size ≤ W'.heap.size
  low : ∀ k, k < B → k < W.heap.size → k ≠ b0 → W'.heap[k]? = W.heap[k]?
  tag : ∀ k c t, B ≤ k → W.heap[k]? = some (.cells c t (0, 0)) → T t → W'.heap[k]? = some (.cells c t (0, 0))
/-- what a body keeps -/
structure KeepB (B : Nat) (T : TypeId → Prop) (b0 : Nat) (W W' : World) : Prop where
  kt : KeepT B T b0 W W'
  non : ∀ k o, B ≤ k → W.heap[k]? = some o → o.isCells = false → W'.heap[k]? = some o
theorem KeepT.trans {B : Nat} {T : TypeId → Prop} {b0 : Nat} {X Y Z : World} (h : KeepT B T b0 X Y) (g : KeepT B T b0 Y Z) : KeepT B T b0 X Z :=
  ⟨Nat.le_trans h.size g.size, fun k hk hl hn => (g.low k hk (Nat.lt_of_lt_of_le hl h.size) hn).trans (h.low k hk hl hn), fun k c t hk hc ht => g.tag k c t hk (h.tag k c t hk hc ht) ht⟩
theorem KeepB.trans {B : Nat} {T : TypeId → Prop} {b0 : Nat} {X Y Z : World} (h : KeepB B T b0 X Y) (g : KeepB B T b0 Y Z) : KeepB B T b0 X Z :=
  ⟨h.kt.trans g.kt, fun k o hk ho hc => g.non k o hk (h.non k o hk ho hc) hc⟩
theorem KeepT.turn {B : Nat} {T : TypeId → Prop} {b0 : Nat} {W : World} {l : Nat} {o : Obj} (o' : Obj) (hB : B ≤ l) (hl : W.heap[l]? = some o) (ho : o.isCells = false) : KeepT B T b0 W (W.putObj l o') := by
  refine ⟨by simp, fun k hk _ _ => World.putObj_heap_other (by omega), fun k c t hk hc _ => ?_⟩
  rw [World.putObj_heap_other]
  · exact hc
  · rintro rfl
    rw [hl] at hc
    cases hc
    simp [Obj.isCells] at ho
theorem KeepB.below {B : Nat} {T : TypeId → Prop} {b0 : Nat} {W W' : World} (h : Below W.heap.size W W') : KeepB B T b0 W W' := by
  have hk : ∀ k o, W.heap[k]? = some o → W'.heap[k]? = some o := fun k o ho => (h.block k (Array.getElem?_eq_some_iff.1 ho).1).trans ho
  exact ⟨⟨h.size, fun k _ hl _ => h.block k hl, fun k c t _ hc _ => hk k _ hc⟩, fun k o _ ho _ => hk k o ho⟩
/-- an iterator: what it yields, one behind the other, whatever the rounds make of it -/
def SeqT {α : Type} (P : Program) (g : Nat) (lb : Array Value) (encs : α → Array Value) (XS : List α) (T : TypeId → Prop) (b0 : Nat) (w : World) : Prop :=
  ∀ (l : Nat) (J : List α → World → Prop) (W : World), Below w.heap.size w W → Ab w.heap.size (okT T) J →
    (∀ pre x W1, J pre W1 → (pre ++ [x]) <+: XS → YieldAt Fence.wide 0 P l (encs x) W1 fun e W' => e = .returned (.bool true) ∧ J (pre ++ [x]) W' ∧ KeepT w.heap.size T b0 W1 W') →
    J [] W → CallsIn Fence.wide 0 P g (#[.func (.yield l) #[] #[]] ++ lb) W fun e W' => (∃ v, e = .returned v) ∧ J XS W'
/-- how a body is left -/
def bodyPostT {α : Type} (B : Nat) (T : TypeId → Prop) (b0 : Nat) (I : List α → World → Prop) (xs : List α) (W : World) : Exit → Act → World → Prop
  | .normal, _, W' => KeepB B T b0 W W' ∧ I xs W'
  | _, _, _ => False
/-- a range over an iterator -/
theorem range_law {α : Type} {P : Program} {g : Operand} {ps : Array Tmp} {assign body : Code} {Q : Exit → Act → World → Prop} {a : Act} {w : World}
    {gf : Nat} {lb : Array Value} (hg : a.eval g = .func (.func gf) #[] lb) (eg : ∀ args w, (callFunc gf args).run P w = .ok (.enter gf args) w)
    {encs : α → Array Value} (hps : ∀ x, (encs x).size = ps.size) {XS : List α} {T : TypeId → Prop} {b0 : Nat} (hseq : SeqT P gf lb encs XS T b0 w)
    (I : List α → World → Prop) (hI : Ab w.heap.size (okTN T) I) (h0 : I [] w)
    (Ax : α → Act → World → Prop) (hAx : Ab w.heap.size okN (fun (s : α × Act) W => Ax s.1 s.2 W))
    (hassign : ∀ (l : Nat) (pre : List α) (x : α) (W : World) (K : Act → World → Prop), I pre W → (∀ a' W', KeepB w.heap.size T b0 W W' → I pre W' → Ax x a' W' → K a' W') →
      assign.wpIn (Fence.wide.inRound l) 0 P (Exit.then K (fun _ _ _ => False)) { tmps := (ps.zip (encs x)).foldl (fun t (p, v) => t.setIfInBounds p v) a.tmps, defers := [] } W)
    (hbody : ∀ (l : Nat) (pre : List α) (x : α) (a' : Act) (W : World), I pre W → Ax x a' W → (pre ++ [x]) <+: XS → body.wpIn (Fence.wide.inRound l) 0 P (bodyPostT w.heap.size T b0 I (pre ++ [x]) W) a' W)
    (hdone : ∀ (D : Nat) (W : World), w.heap.size ≤ D → I XS W → W.heap[D]? = some (.deferred (some [])) → Q .normal { a with defers := { target := .collected D, args := #[] } :: a.defers } W) :
    (Code.rangeFunc g ps assign body).wpIn Fence.wide 0 P Q a w := by
  refine wpIn_rangeFunc fun fn hfn => ?_
  generalize hr : (fun (st : LoopState) => ({ state := st, pending := none, fn := fn, tmps := a.tmps, params := ps, assign := assign, body := body, defers := w.heap.size } : Loop)) = rec
  have hr' : ∀ st, rec st = { state := st, pending := none, fn := fn, tmps := a.tmps, params := ps, assign := assign, body := body, defers := w.heap.size } := fun st => by rw [← hr]
  generalize hV : (w.alloc (.deferred (some []))).alloc (.loop (rec .ready)) = V
  have hLV : V.heap[w.heap.size + 1]? = some (.loop (rec .ready)) := by
    have h := World.alloc_heap_new (w.alloc (.deferred (some []))) (.loop (rec .ready))
    rw [hV] at h
    simpa using h
  have hbV : Below w.heap.size w V := by rw [← hV]; exact ((Below.refl _ w).alloc (Nat.le_refl _) _).alloc (by simp) _
  have hDV : V.heap[w.heap.size]? = some (.deferred (some [])) := by
    rw [← hV]; exact (Below.heap_alloc _ _ _ (by simp)).trans (World.alloc_heap_new w _)
  have hN : ∀ {o : Obj}, o.isCells = false → okTN T o := fun h => .inr h
  refine ⟨w.heap.size + 1, [{ target := .collected w.heap.size, args := #[] }], V, { target := .fn (.func gf) lb, args := #[.func (.yield (w.heap.size + 1)) #[] #[]] }, V, gf, #[.func (.yield (w.heap.size + 1)) #[] #[]] ++ lb, V, ?_, ?_, fun _ _ => trivial, ?_, (fun h => by cases h), ?_⟩
  · rw [← hV, hr' .ready]; exact run_enterLoop_outer _ _ _ _ _
  · simp only [resolve, hg]; simp [go_sem]
  · simp [invoke, go_sem, eg]
  have hJ : Ab w.heap.size (okT T) (fun pre W => I pre W ∧ W.heap[w.heap.size + 1]? = some (.loop (rec .ready)) ∧ W.heap[w.heap.size]? = some (.deferred (some []))) := by
    intro s W W' X ⟨h1, h2, h3⟩ hb hx
    have keep : ∀ (k : Nat) (o : Obj), W.heap[k]? = some o → o.isCells = false → W'.heap[k]? = some o := fun k o ho hc => by
      refine (hb.block k (Array.getElem?_eq_some_iff.1 ho).1 fun e => ?_).trans ho
      obtain ⟨_, o2, h4, c, t, h5, _⟩ := hx k (Array.getElem?_eq_some_iff.1 ho).1 e
      rw [ho] at h4
      cases h4
      subst h5
      simp [Obj.isCells] at hc
    exact ⟨(hI.weak fun _ h => .inl h) s W W' X h1 hb hx, keep _ _ h2 rfl, keep _ _ h3 rfl⟩
  refine (hseq (w.heap.size + 1) _ V hbV hJ ?_ ⟨hI.grow h0 (hbV.mono (Nat.le_refl _)), hLV, hDV⟩).mono ?_
  · rintro pre x W ⟨hi, hl, hk⟩ hpre
    have hlt : w.heap.size + 1 < W.heap.size := (Array.getElem?_eq_some_iff.1 hl).1
    have hy := run_yield (P := P) (args := encs x) hl (by rw [hr']; exact hps x)
    rw [hr'] at hy
    refine ⟨fn, _, assign, body, hy, roundIn_of_wpIn hfn (hassign _ pre x W _ hi fun a' W' hkb hi' hax => ?_)⟩
    have hl' := hkb.non _ _ (Nat.le_succ _) hl rfl
    have hk' := hkb.non _ _ (Nat.le_refl _) hk rfl
    refine ⟨_, run_beginRound hl' (by rw [hr']), ?_⟩
    generalize hW2 : W'.putObj (w.heap.size + 1) (.loop { rec .ready with state := .busy }) = W2
    have hlt' : w.heap.size + 1 < W'.heap.size := (Array.getElem?_eq_some_iff.1 hl').1
    have hl2 : W2.heap[w.heap.size + 1]? = some (.loop { rec .ready with state := .busy }) := by rw [← hW2]; exact World.putObj_heap_same hlt'
    have hk2 : W2.heap[w.heap.size]? = some (.deferred (some [])) := by rw [← hW2]; exact (World.putObj_heap_other (by omega)).trans hk'
    have hi2 : I pre W2 := by rw [← hW2]; exact hI.turn _ hi' (Nat.le_succ _) hl' (hN rfl)
    have hax2 : Ax x a' W2 := by rw [← hW2]; exact hAx.turn (s := (x, a')) _ hax (Nat.le_succ _) hl' rfl
    have hkt2 : KeepT w.heap.size T b0 W W2 := hkb.kt.trans (by rw [← hW2]; exact KeepT.turn _ (Nat.le_succ _) hl' rfl)
    refine wpIn_mono (hbody _ pre x a' W2 hi2 hax2 hpre) ?_
    intro e a3 W3 hp
    cases e with
    | normal =>
      obtain ⟨hk3, hi3⟩ := hp
      have hl3 := hk3.non _ _ (Nat.le_succ _) hl2 rfl
      have hd3 := hk3.non _ _ (Nat.le_refl _) hk2 rfl
      have hlt3 : w.heap.size + 1 < W3.heap.size := (Array.getElem?_eq_some_iff.1 hl3).1
      refine ⟨_, _, run_endRound (P := P) none hl3, rfl, ⟨hI.turn _ hi3 (Nat.le_succ _) hl3 (hN rfl), ?_, (World.putObj_heap_other (by omega)).trans hd3⟩, (hkt2.trans hk3.kt).trans (KeepT.turn _ (Nat.le_succ _) hl3 rfl)⟩
      rw [World.putObj_heap_same hlt3, hr']
      rfl
    | ret => exact hp.elim
    | exit _ => exact hp.elim
    | goto _ => exact hp.elim
    | panic _ => exact hp.elim
    | outgrown => exact hp.elim
  · rintro e W ⟨⟨v, rfl⟩, hi, hl, hk⟩
    have he := run_endLoop (P := P) hl (by rw [hr']; simp)
    have hp : (rec .ready).pending = none := by rw [hr']
    rw [hp] at he
    exact ⟨none, _, he, hdone _ _ (Nat.le_refl _) (hI.turn _ hi (Nat.le_succ _) hl (hN rfl)) ((World.putObj_heap_other (by omega)).trans hk)⟩
end Go.Proofs.Ytckopbkhpbhljaa

namespace Go.Proofs.Ytckopbkhpbhljaa
open Go.RowKit
set_option maxRecDepth 8000

/-- a list's items -/
def LT.toL {α : Type} (l : LT α) : List α := (List.range l.n).map l.item
theorem LT.toL_len {α : Type} (l : LT α) : l.toL.length = l.n := by simp [LT.toL]
theorem LT.toL_nil {α : Type} (l : LT α) (h : l.n = 0) : l.toL = [] := by simp [LT.toL, h]
theorem LT.toL_cons {α : Type} (l : LT α) (h : 0 < l.n) (p : Option Addr) : l.toL = l.item 0 :: (l.tail p).toL := by
  obtain ⟨m, hm⟩ : ∃ m, l.n = m + 1 := ⟨l.n - 1, by omega⟩
  simp [LT.toL, LT.tail, hm, List.range_succ_eq_map, Function.comp_def]
theorem LT.toL_get {α : Type} (l : LT α) {j : Nat} (h : j < l.n) : l.toL[j]? = some (l.item j) := by simp [LT.toL, h]
theorem LT.mem_toL {α : Type} {l : LT α} {x : α} (h : x ∈ l.toL) : ∃ j, j < l.n ∧ l.item j = x := by
  simp only [LT.toL, List.mem_map, List.mem_range] at h
  exact h
/-- what two lists have of one key -/
structure Ev (α β : Type) where
  key : ByteArray
  a : α
  b : β
  inA : Bool
  inB : Bool
section
variable {α β : Type} (kA : α → ByteArray) (kB : β → ByteArray) (zA : α) (zB : β)
/-- the least key of two lists -/
def lkL : List α → List β → ByteArray
  | [], [] => ⟨#[]⟩
  | a :: _, [] => kA a
  | [], b :: _ => kB b
  | a :: _, b :: _ => if Op.bytesLess (kA a).toList (kB b).toList = true ∨ (kA a).toList = (kB b).toList then kA a else kB b
def hitL (k : α → ByteArray) : List α → ByteArray → Bool
  | [], _ => false
  | a :: _, key => (k a).toList == key.toList
def getL (z : α) : List α → Bool → α
  | a :: _, true => a
  | _, _ => z
def cutL : List α → Bool → List α
  | _ :: xs, true => xs
  | xs, _ => xs
def evL (xs : List α) (ys : List β) : Ev α β := ⟨lkL kA kB xs ys, getL zA xs (hitL kA xs (lkL kA kB xs ys)), getL zB ys (hitL kB ys (lkL kA kB xs ys)), hitL kA xs (lkL kA kB xs ys), hitL kB ys (lkL kA kB xs ys)⟩
def nxA (xs : List α) (ys : List β) : List α := cutL xs (hitL kA xs (lkL kA kB xs ys))
def nxB (xs : List α) (ys : List β) : List β := cutL ys (hitL kB ys (lkL kA kB xs ys))
/-- two lists gone through together -/
def mrgF : Nat → List α → List β → List (Ev α β)
  | 0, _, _ => []
  | f + 1, xs, ys => if xs.length + ys.length = 0 then [] else evL kA kB zA zB xs ys :: mrgF f (nxA kA kB xs ys) (nxB kA kB xs ys)
theorem mrg_end (f : Nat) (xs : List α) (ys : List β) (h : xs.length + ys.length = 0) : mrgF kA kB zA zB f xs ys = [] := by
  cases f with
  | zero => rfl
  | succ f => simp only [mrgF, if_pos h]
theorem mrg_len : ∀ (f : Nat) (xs : List α) (ys : List β), (mrgF kA kB zA zB f xs ys).length ≤ f
  | 0, _, _ => Nat.le_refl _
  | f + 1, xs, ys => by
    unfold mrgF
    split
    · exact Nat.zero_le _
    · have := mrg_len f (nxA kA kB xs ys) (nxB kA kB xs ys)
      simp only [List.length_cons]
      omega
theorem hit_ne (k : α → ByteArray) (z : α) (xs : List α) (key : ByteArray) (h : hitL k xs key = true) : getL z xs (hitL k xs key) ∈ xs ∧ (k (getL z xs (hitL k xs key))).toList = key.toList := by
  cases xs with
  | nil => simp [hitL] at h
  | cons x xs =>
    rw [h]
    simp only [hitL, beq_iff_eq] at h
    exact ⟨List.mem_cons_self, h⟩
theorem cut_sub (xs : List α) (c : Bool) : ∀ x ∈ cutL xs c, x ∈ xs := by
  cases xs with
  | nil => intro x hx; cases c <;> simp [cutL] at hx
  | cons y ys =>
    intro x hx
    cases c
    · exact hx
    · exact List.mem_cons_of_mem _ hx
theorem mrg_mem : ∀ (f : Nat) (xs : List α) (ys : List β) (e : Ev α β), e ∈ mrgF kA kB zA zB f xs ys → (e.inA = true → e.a ∈ xs) ∧ (e.inB = true → e.b ∈ ys) ∧ (e.inA = true ∨ e.inB = true)
  | 0, _, _, e, h => by simp [mrgF] at h
  | f + 1, xs, ys, e, h => by
    unfold mrgF at h
    split at h
    · simp at h
    · rename_i hne
      rcases List.mem_cons.1 h with rfl | h
      · refine ⟨fun h => (hit_ne kA zA xs _ h).1, fun h => (hit_ne kB zB ys _ h).1, ?_⟩
        cases xs with
        | nil =>
          cases ys with
          | nil => simp at hne
          | cons y ys => right; simp [evL, hitL, lkL]
        | cons x xs =>
          cases ys with
          | nil => left; simp [evL, hitL, lkL]
          | cons y ys =>
            simp only [evL, hitL, lkL]
            split
            · left; simp
            · right; simp
      · have := mrg_mem f _ _ e h
        exact ⟨fun h => cut_sub _ _ _ (this.1 h), fun h => cut_sub _ _ _ (this.2.1 h), this.2.2⟩
theorem mrg_less (xs : List α) (ys : List β) (h : xs.length + ys.length ≠ 0) : (nxA kA kB xs ys).length + (nxB kA kB xs ys).length < xs.length + ys.length := by
  cases xs with
  | nil =>
    cases ys with
    | nil => simp at h
    | cons b ys => simp [nxA, nxB, lkL, hitL, cutL]
  | cons a xs =>
    cases ys with
    | nil => simp [nxA, nxB, lkL, hitL, cutL]
    | cons b ys =>
      unfold nxA nxB lkL hitL
      simp only
      split
      · have h1 : ∀ c : Bool, (cutL (b :: ys) c).length ≤ (b :: ys).length := fun c => by cases c <;> simp [cutL]
        have := h1 ((kB b).toList == (kA a).toList)
        simp only [beq_self_eq_true, cutL, List.length_cons] at this ⊢
        omega
      · have h1 : ∀ c : Bool, (cutL (a :: xs) c).length ≤ (a :: xs).length := fun c => by cases c <;> simp [cutL]
        have := h1 ((kA a).toList == (kB b).toList)
        simp only [beq_self_eq_true, cutL, List.length_cons] at this ⊢
        omega
theorem mrg_step (f : Nat) (xs : List α) (ys : List β) (h : xs.length + ys.length ≠ 0) (hf : xs.length + ys.length ≤ f) : ∃ g, mrgF kA kB zA zB f xs ys = evL kA kB zA zB xs ys :: mrgF kA kB zA zB g (nxA kA kB xs ys) (nxB kA kB xs ys) ∧ (nxA kA kB xs ys).length + (nxB kA kB xs ys).length ≤ g := by
  cases f with
  | zero => omega
  | succ f =>
    refine ⟨f, by simp only [mrgF, if_neg h], ?_⟩
    have := mrg_less kA kB xs ys h
    omega
end
/-- the empty cell -/
def zC : VT := .mk 0 0 ⟨#[]⟩ 0 none 0 (fun _ => .nil)
theorem zval_C : (.agg #[.string zC.text, .slice zC.p zC.n zC.c] : Value) = .agg #[.string ⟨#[]⟩, .slice none 0 0] := rfl
/-- cut, in one word -/
theorem cut_C (w : World) (b : Nat) (l : LT VT) (S : Nat → Prop) (key : ByteArray) (hbx : Box w b #[.slice l.p l.n l.c, .func (.func 60) #[] #[]] 70) (hin : LT.In elCell w S l) (hSb : ∀ k, S k → k ≠ b) :
    Calls Try.prog 59 #[.pointer (some ⟨b, 0, none⟩), .string key] w fun e w' => ∃ l' : LT VT, e = .returned (.tuple #[.agg #[.string (getL zC l.toL (hitL VT.text l.toL key)).text, .slice (getL zC l.toL (hitL VT.text l.toL key)).p (getL zC l.toL (hitL VT.text l.toL key)).n (getL zC l.toL (hitL VT.text l.toL key)).c], .bool (hitL VT.text l.toL key)]) ∧ Box w' b #[.slice l'.p l'.n l'.c, .func (.func 60) #[] #[]] 70 ∧ LT.In elCell w' S l' ∧ l'.toL = cutL l.toL (hitL VT.text l.toL key) ∧ But (fun k => k = b) w w' := by
  by_cases hn : l.n = 0
  · refine (cutNone_C w b l S key hbx hin hn).mono ?_
    rintro e w' ⟨rfl, hb⟩
    rw [LT.toL_nil l hn]
    exact ⟨l, rfl, hbx.below hb, hin.below hb, LT.toL_nil l hn, But.ofBelow hb⟩
  · have hn : 0 < l.n := by omega
    cases hk : ((l.item 0).text.toList == key.toList) with
    | false =>
      refine (cutOther_C w b l S key hbx hin hn hk).mono ?_
      rintro e w' ⟨rfl, hb⟩
      have e1 : hitL VT.text l.toL key = false := by rw [LT.toL_cons l hn none]; exact hk
      rw [e1]
      refine ⟨l, ?_, hbx.below hb, hin.below hb, ?_, But.ofBelow hb⟩
      · rw [LT.toL_cons l hn none]; rfl
      · rw [LT.toL_cons l hn none]; rfl
    | true =>
      refine (cutSome_C w b l S key hbx hin hSb hn hk).mono ?_
      rintro e w' ⟨p, rfl, hb, hi, hbt⟩
      have e1 : hitL VT.text l.toL key = true := by rw [LT.toL_cons l hn none]; exact hk
      rw [e1]
      refine ⟨l.tail p, ?_, hb, hi, ?_, hbt⟩
      · rw [LT.toL_cons l hn none]; rfl
      · rw [LT.toL_cons l hn p]; rfl
theorem zval_S : (.string (⟨#[]⟩ : ByteArray) : Value) = .string ⟨#[]⟩ := rfl
/-- cut, in one word -/
theorem cut_S (w : World) (b : Nat) (l : LT ByteArray) (S : Nat → Prop) (key : ByteArray) (hbx : Box w b #[.slice l.p l.n l.c, .func (.func 70) #[] #[]] 78) (hin : LT.In elStr w S l) (hSb : ∀ k, S k → k ≠ b) :
    Calls Try.prog 86 #[.pointer (some ⟨b, 0, none⟩), .string key] w fun e w' => ∃ l' : LT ByteArray, e = .returned (.tuple #[.string (getL (⟨#[]⟩ : ByteArray) l.toL (hitL id l.toL key)), .bool (hitL id l.toL key)]) ∧ Box w' b #[.slice l'.p l'.n l'.c, .func (.func 70) #[] #[]] 78 ∧ LT.In elStr w' S l' ∧ l'.toL = cutL l.toL (hitL id l.toL key) ∧ But (fun k => k = b) w w' := by
  by_cases hn : l.n = 0
  · refine (cutNone_S w b l S key hbx hin hn).mono ?_
    rintro e w' ⟨rfl, hb⟩
    rw [LT.toL_nil l hn]
    exact ⟨l, rfl, hbx.below hb, hin.below hb, LT.toL_nil l hn, But.ofBelow hb⟩
  · have hn : 0 < l.n := by omega
    cases hk : ((l.item 0).toList == key.toList) with
    | false =>
      refine (cutOther_S w b l S key hbx hin hn hk).mono ?_
      rintro e w' ⟨rfl, hb⟩
      have e1 : hitL id l.toL key = false := by rw [LT.toL_cons l hn none]; exact hk
      rw [e1]
      refine ⟨l, ?_, hbx.below hb, hin.below hb, ?_, But.ofBelow hb⟩
      · rw [LT.toL_cons l hn none]; rfl
      · rw [LT.toL_cons l hn none]; rfl
    | true =>
      refine (cutSome_S w b l S key hbx hin hSb hn hk).mono ?_
      rintro e w' ⟨p, rfl, hb, hi, hbt⟩
      have e1 : hitL id l.toL key = true := by rw [LT.toL_cons l hn none]; exact hk
      rw [e1]
      refine ⟨l.tail p, ?_, hb, hi, ?_, hbt⟩
      · rw [LT.toL_cons l hn none]; rfl
      · rw [LT.toL_cons l hn p]; rfl
/-- least, in one word -/
theorem least_CC (w : World) (la : LT VT) (lb : LT VT) (S : Nat → Prop) (ha : LT.In elCell w S la) (hb : LT.In elCell w S lb) (hne : la.n + lb.n ≠ 0) :
    Calls Try.prog 58 #[.agg #[.slice la.p la.n la.c, .func (.func 60) #[] #[]], .agg #[.slice lb.p lb.n lb.c, .func (.func 60) #[] #[]]] w fun e w' => e = .returned (.string (lkL VT.text VT.text la.toL lb.toL)) ∧ Below w.heap.size w w' := by
  by_cases hb0 : lb.n = 0
  · have hna : 0 < la.n := by omega
    rw [LT.toL_nil lb hb0, LT.toL_cons la hna none]
    exact leastA_CC w la lb S ha hb hna hb0
  · have hnb : 0 < lb.n := by omega
    by_cases ha0 : la.n = 0
    · rw [LT.toL_nil la ha0, LT.toL_cons lb hnb none]
      exact leastB_CC w la lb S ha hb ha0 hnb
    · have hna : 0 < la.n := by omega
      rw [LT.toL_cons la hna none, LT.toL_cons lb hnb none]
      exact leastAB_CC w la lb S ha hb hna hnb _ rfl
/-- least, in one word -/
theorem least_SC (w : World) (la : LT ByteArray) (lb : LT VT) (S : Nat → Prop) (ha : LT.In elStr w S la) (hb : LT.In elCell w S lb) (hne : la.n + lb.n ≠ 0) :
    Calls Try.prog 85 #[.agg #[.slice la.p la.n la.c, .func (.func 70) #[] #[]], .agg #[.slice lb.p lb.n lb.c, .func (.func 60) #[] #[]]] w fun e w' => e = .returned (.string (lkL id VT.text la.toL lb.toL)) ∧ Below w.heap.size w w' := by
  by_cases hb0 : lb.n = 0
  · have hna : 0 < la.n := by omega
    rw [LT.toL_nil lb hb0, LT.toL_cons la hna none]
    exact leastA_SC w la lb S ha hb hna hb0
  · have hnb : 0 < lb.n := by omega
    by_cases ha0 : la.n = 0
    · rw [LT.toL_nil la ha0, LT.toL_cons lb hnb none]
      exact leastB_SC w la lb S ha hb ha0 hnb
    · have hna : 0 < la.n := by omega
      rw [LT.toL_cons la hna none, LT.toL_cons lb hnb none]
      exact leastAB_SC w la lb S ha hb hna hnb _ rfl
/-- least, in one word -/
theorem least_CS (w : World) (la : LT VT) (lb : LT ByteArray) (S : Nat → Prop) (ha : LT.In elCell w S la) (hb : LT.In elStr w S lb) (hne : la.n + lb.n ≠ 0) :
    Calls Try.prog 88 #[.agg #[.slice la.p la.n la.c, .func (.func 60) #[] #[]], .agg #[.slice lb.p lb.n lb.c, .func (.func 70) #[] #[]]] w fun e w' => e = .returned (.string (lkL VT.text id la.toL lb.toL)) ∧ Below w.heap.size w w' := by
  by_cases hb0 : lb.n = 0
  · have hna : 0 < la.n := by omega
    rw [LT.toL_nil lb hb0, LT.toL_cons la hna none]
    exact leastA_CS w la lb S ha hb hna hb0
  · have hnb : 0 < lb.n := by omega
    by_cases ha0 : la.n = 0
    · rw [LT.toL_nil la ha0, LT.toL_cons lb hnb none]
      exact leastB_CS w la lb S ha hb ha0 hnb
    · have hna : 0 < la.n := by omega
      rw [LT.toL_cons la hna none, LT.toL_cons lb hnb none]
      exact leastAB_CS w la lb S ha hb hna hnb _ rfl
/-- least, in one word -/
theorem least_SS (w : World) (la : LT ByteArray) (lb : LT ByteArray) (S : Nat → Prop) (ha : LT.In elStr w S la) (hb : LT.In elStr w S lb) (hne : la.n + lb.n ≠ 0) :
    Calls Try.prog 91 #[.agg #[.slice la.p la.n la.c, .func (.func 70) #[] #[]], .agg #[.slice lb.p lb.n lb.c, .func (.func 70) #[] #[]]] w fun e w' => e = .returned (.string (lkL id id la.toL lb.toL)) ∧ Below w.heap.size w w' := by
  by_cases hb0 : lb.n = 0
  · have hna : 0 < la.n := by omega
    rw [LT.toL_nil lb hb0, LT.toL_cons la hna none]
    exact leastA_SS w la lb S ha hb hna hb0
  · have hnb : 0 < lb.n := by omega
    by_cases ha0 : la.n = 0
    · rw [LT.toL_nil la ha0, LT.toL_cons lb hnb none]
      exact leastB_SS w la lb S ha hb ha0 hnb
    · have hna : 0 < la.n := by omega
      rw [LT.toL_cons la hna none, LT.toL_cons lb hnb none]
      exact leastAB_SS w la lb S ha hb hna hnb _ rfl
end Go.Proofs.Ytckopbkhpbhljaa
