import Derived.Test.YtebiidfdokhpaabGreatDoorPack5
import Derived.Test.YtebiidfdokhpaabGreatDoorPack0
import Derived.Test.YtebiidfdokhpaabGreatDoorPack9
import Derived.Test.YtebiidfdokhpaabGreatDoorPack3
import Derived.Test.YtebiidfdokhpaabGreatDoorEcE
namespace Go.Proofs.YtebiidfdokhpaabGreatDoor
open Go.RowKit
set_option maxRecDepth 8000
/-- a file of the reference's disk: its name, its two rows, its bytes -/
structure RF where
  name : ByteArray
  sp : Option Addr
  sc : Nat
  su : List Int
  lp : Option Addr
  lc : Nat
  lo : List Int
def RF.cells (f : RF) : List Value := [.string f.name, .slice f.sp f.su.length f.sc, .slice f.lp f.lo.length f.lc]
def RF.sb (f : RF) (k : Nat) : Prop := (Value.slice f.sp f.su.length f.sc).ownBlock = some k
def RF.lb (f : RF) (k : Nat) : Prop := (Value.slice f.lp f.lo.length f.lc).ownBlock = some k
def RF.blk (f : RF) (k : Nat) : Prop := f.sb k ∨ f.lb k
structure RfI (w : World) (C : Nat → Prop) (f : RF) : Prop where
  nm : Nm f.name
  s : OwnBy 0 w (.slice f.sp f.su.length f.sc) f.su
  l : OwnBy 0 w (.slice f.lp f.lo.length f.lc) f.lo
  cs : ∀ g, f.blk g → C g
  ne : ∀ g, f.sb g → ¬ f.lb g
  le : f.su.length + f.lo.length ≤ 65536
  by_ : ∀ z ∈ f.su ++ f.lo, 0 ≤ z ∧ z ≤ 255
theorem RfI.blk {w : World} {C : Nat → Prop} {f : RF} (h : RfI w C f) {k : Nat} (hk : f.blk k) : C k ∧ k < w.heap.size :=
  ⟨h.cs k hk, hk.elim (fun e => (h.s.lt k e).2) (fun e => (h.l.lt k e).2)⟩
theorem RfI.kept {w w' : World} {C C' : Nat → Prop} {f : RF} (h : RfI w C f) (hb : ∀ k, f.blk k → w'.heap[k]? = w.heap[k]?) (hc : ∀ k, f.blk k → C' k) : RfI w' C' f :=
  ⟨h.nm, ownsRow_keep h.s fun g hg _ => hb g (.inl hg), ownsRow_keep h.l fun g hg _ => hb g (.inr hg), hc, h.ne, h.le, h.by_⟩
/-- the reference's disk -/
structure RK where
  p : Option Addr
  c : Nat
  fs : List RF
  down : Bool
  left : Int
  after : Int
  fails : Int
def RK.ab (R : RK) (k : Nat) : Prop := (Value.slice R.p R.fs.length R.c).ownBlock = some k
structure RkI (w : World) (C : Nat → Prop) (rb : Nat) (R : RK) : Prop where
  bx : Box w rb #[.slice R.p R.fs.length R.c, .bool R.down, .int .i64 R.left, .int .i64 R.after, .int .i64 R.fails] 75
  row : w.ownsRow 0 77 3 (.slice R.p R.fs.length R.c) R.fs.length (R.fs.flatMap RF.cells)
  cb : C rb
  ca : ∀ k, R.ab k → C k ∧ k ≠ rb
  each : ∀ f ∈ R.fs, RfI w C f
  low : ∀ f ∈ R.fs, ∀ k, f.blk k → k ≠ rb ∧ ¬ R.ab k
  apart : R.fs.Pairwise (fun f g => ∀ k, f.blk k → ¬ g.blk k)
  nd : (R.fs.map RF.name).Nodup
  n : R.fs.length ≤ 400
  bl : -1 ≤ R.left ∧ R.left ≤ 9223372036854775807
  ba : 0 ≤ R.after ∧ R.after ≤ 9223372036854775807
  bf : 0 ≤ R.fails ∧ R.fails ≤ 9223372036854775807
theorem RkI.abl {w : World} {C : Nat → Prop} {rb : Nat} {R : RK} (h : RkI w C rb R) {k : Nat} (hk : R.ab k) : k < w.heap.size := (h.row.lt k hk).2
theorem RkI.kept {w w' : World} {C : Nat → Prop} {rb : Nat} {R : RK} (h : RkI w C rb R) (hb : ∀ k, C k → k < w.heap.size → w'.heap[k]? = w.heap[k]?) : RkI w' C rb R :=
  ⟨h.bx.kept (hb _ h.cb h.bx.lt), ownsRow_keep h.row fun g hg hl => hb g (h.ca g hg).1 hl, h.cb, h.ca, fun f hf => (h.each f hf).kept (fun k hk => hb k ((h.each f hf).blk hk).1 ((h.each f hf).blk hk).2) (fun _ hk => ((h.each f hf).blk hk).1), h.low, h.apart, h.nd, h.n, h.bl, h.ba, h.bf⟩
theorem RkI.mono {w : World} {C C' : Nat → Prop} {rb : Nat} {R : RK} (h : RkI w C rb R) (hc : ∀ k, C k → k < w.heap.size → C' k) : RkI w C' rb R :=
  ⟨h.bx, h.row, hc _ h.cb h.bx.lt, fun k hk => ⟨hc k (h.ca k hk).1 (h.abl hk), (h.ca k hk).2⟩, fun f hf => (h.each f hf).kept (fun _ _ => rfl) (fun k hk => hc k ((h.each f hf).blk hk).1 ((h.each f hf).blk hk).2), h.low, h.apart, h.nd, h.n, h.bl, h.ba, h.bf⟩
theorem RkI.below {w w' : World} {C : Nat → Prop} {rb : Nat} {R : RK} (h : RkI w C rb R) (hb : Below w.heap.size w w') : RkI w' C rb R := h.kept fun k _ hl => hb.block k hl
theorem RkI.drew {w : World} {C : Nat → Prop} {rb : Nat} {R : RK} (h : RkI w C rb R) : RkI w.drew C rb R := h.kept fun _ _ _ => rfl
/-- only the rigs are others -/
theorem RkI.rig {w w' : World} {C : Nat → Prop} {rb : Nat} {R : RK} {d : Bool} {l a f : Int} (h : RkI w C rb R) (hb : But (fun k => k = rb) w w') (hx : Box w' rb #[.slice R.p R.fs.length R.c, .bool d, .int .i64 l, .int .i64 a, .int .i64 f] 75)
    (bl : -1 ≤ l ∧ l ≤ 9223372036854775807) (ba : 0 ≤ a ∧ a ≤ 9223372036854775807) (bf : 0 ≤ f ∧ f ≤ 9223372036854775807) : RkI w' C rb { R with down := d, left := l, after := a, fails := f } :=
  ⟨hx, ownsRow_keep h.row fun g hg hl => hb.block g hl (h.ca g hg).2, h.cb, h.ca, fun f hf => (h.each f hf).kept (fun k hk => hb.block k ((h.each f hf).blk hk).2 (h.low f hf k hk).1) (fun _ hk => ((h.each f hf).blk hk).1), h.low, h.apart, h.nd, h.n, bl, ba, bf⟩
theorem flatR_get : ∀ (fs : List RF) (i r : Nat) (f : RF), fs[i]? = some f → r < 3 → (fs.flatMap RF.cells)[i * 3 + r]? = f.cells[r]? := by
  intro fs
  induction fs with
  | nil => intro i r f h; simp at h
  | cons x xs ih =>
    intro i r f h hr
    rw [List.flatMap_cons]
    cases i with
    | zero =>
      simp at h
      subst h
      rw [List.getElem?_append_left (by simp [RF.cells]; omega)]
      simp
    | succ i =>
      rw [List.getElem?_append_right (by simp [RF.cells]; omega)]
      have := ih i r f (by simpa using h) hr
      rw [show (i + 1) * 3 + r - x.cells.length = i * 3 + r by simp [RF.cells]; omega, this]
/-- the cells of a file in the list -/
theorem RkI.at_ {w : World} {C : Nat → Prop} {rb : Nat} {R : RK} (h : RkI w C rb R) {i : Nat} {f : RF} (hi : R.fs[i]? = some f) : ∃ g, R.p = some ⟨g, 0, none⟩ ∧ R.ab g ∧ g < w.heap.size ∧ i < R.fs.length ∧ R.fs.length ≤ R.c ∧
    (∀ k, w.frozen? ⟨g, k, none⟩ = false) ∧ ∀ r, r < 3 → w.cell? ⟨g, i * 3 + r, none⟩ = f.cells[r]? := by
  have hlt : i < R.fs.length := (List.getElem?_eq_some_iff.1 hi).1
  have hcells := fun g hg => h.row.cells (g := g) hg
  have hl := h.row.lt
  obtain ⟨_, ⟨hv, h0⟩ | ⟨g, cap, cur, hv, hbg, hh, hnc, hcm, _⟩⟩ := id h.row
  · omega
  · simp only [Value.slice.injEq, true_and] at hv
    obtain ⟨hp, rfl⟩ := hv
    have hab : R.ab g := by unfold RK.ab; rw [hp]; rfl
    refine ⟨g, hp, hab, (hl g hab).2, hlt, hnc, fun k => Box.frozen (w := w) (b := g) (cs := cur) (e := 77) hh k, fun r hr => ?_⟩
    have h1 := flatR_get R.fs i r f hi hr
    have hr' : r < f.cells.length := by simpa [RF.cells] using hr
    rw [List.getElem?_eq_getElem hr'] at h1 ⊢
    have := hcells g hab _ _ h1
    rw [Go.WideShapes.add_plain, Nat.zero_add] at this
    exact this
theorem row_put {w : World} {base sz n : Nat} {e : TypeId} {v : Value} {xs : List Value} {g : Nat} (h : w.ownsRow base e sz v n xs) (hg : v.ownBlock = some g) (k : Nat) (u : Value) : (w.setCell ⟨g, k, none⟩ u).ownsRow base e sz v n (xs.set k u) := by
  obtain ⟨hl, ⟨hv, h0⟩ | ⟨g2, cap, cur, hv, hb, hh, hnc, hcm, hcs, ht⟩⟩ := h
  · subst hv; cases hg
  · subst hv
    have hg' : g2 = g := by simpa [Value.ownBlock] using hg
    subst hg'
    have hb2 : Box w g2 cur e := hh
    refine ⟨by simpa using hl, .inr ⟨g2, cap, cur.setIfInBounds k u, rfl, hb, hb2.set k _, hnc, hcm, by simpa using hcs, ?_⟩⟩
    rw [Array.toList_setIfInBounds, ← ht, List.take_set]
theorem flatR_set : ∀ (fs : List RF) (i : Nat) (f f' : RF), fs[i]? = some f → f'.name = f.name → (fs.set i f').flatMap RF.cells = ((fs.flatMap RF.cells).set (i * 3 + 1) (.slice f'.sp f'.su.length f'.sc)).set (i * 3 + 2) (.slice f'.lp f'.lo.length f'.lc) := by
  intro fs
  induction fs with
  | nil => intro i f f' h; simp at h
  | cons x xs ih =>
    intro i f f' h hn
    cases i with
    | zero =>
      simp at h
      subst h
      simp [RF.cells, hn]
    | succ i =>
      have := ih i f f' (by simpa using h) hn
      rw [List.set_cons_succ, List.flatMap_cons, List.flatMap_cons, this]
      rw [List.set_append_right _ _ (by simp [RF.cells]; omega), List.set_append_right _ _ (by simp [RF.cells]; omega)]
      congr 2
      · congr 1
        simp [RF.cells]; omega
      · simp [RF.cells]; omega
theorem set_get_self {α : Type} {l : List α} {k : Nat} {u : α} (h : l[k]? = some u) : l.set k u = l := by
  obtain ⟨hk, rfl⟩ := List.getElem?_eq_some_iff.1 h
  exact List.set_getElem_self hk
theorem flatR_setL (fs : List RF) (i : Nat) (f f' : RF) (hi : fs[i]? = some f) (hn : f'.name = f.name) (h1 : f'.sp = f.sp) (h2 : f'.su = f.su) (h3 : f'.sc = f.sc) : (fs.set i f').flatMap RF.cells = (fs.flatMap RF.cells).set (i * 3 + 2) (.slice f'.lp f'.lo.length f'.lc) := by
  have hs : (fs.flatMap RF.cells).set (i * 3 + 1) (.slice f.sp f.su.length f.sc) = fs.flatMap RF.cells := set_get_self (by rw [flatR_get fs i 1 f hi (by omega)]; rfl)
  rw [flatR_set fs i f f' hi hn, h1, h2, h3, hs]
theorem flatR_setS (fs : List RF) (i : Nat) (f f' : RF) (hi : fs[i]? = some f) (hn : f'.name = f.name) (h1 : f'.lp = f.lp) (h2 : f'.lo = f.lo) (h3 : f'.lc = f.lc) : (fs.set i f').flatMap RF.cells = (fs.flatMap RF.cells).set (i * 3 + 1) (.slice f'.sp f'.su.length f'.sc) := by
  have hs : (fs.flatMap RF.cells).set (i * 3 + 2) (.slice f.lp f.lo.length f.lc) = fs.flatMap RF.cells := set_get_self (by rw [flatR_get fs i 2 f hi (by omega)]; rfl)
  rw [flatR_set fs i f f' hi hn, h1, h2, h3, List.set_comm _ _ (by omega), hs]
theorem nodup_injR {α β : Type} {f : α → β} : ∀ {l : List α}, (l.map f).Nodup → ∀ {a b : α}, a ∈ l → b ∈ l → f a = f b → a = b
  | [], _, _, _, h, _, _ => by cases h
  | x :: l, hn, a, b, ha, hb, e => by
    rw [List.map_cons, List.nodup_cons] at hn
    rcases List.mem_cons.1 ha with rfl | ha'
    · rcases List.mem_cons.1 hb with rfl | hb
      · rfl
      · exact absurd (List.mem_map.2 ⟨b, hb, e.symm⟩) hn.1
    · rcases List.mem_cons.1 hb with rfl | hb
      · exact absurd (List.mem_map.2 ⟨a, ha', e⟩) hn.1
      · exact nodup_injR hn.2 ha' hb e
theorem set_eq_map {l : List RF} (hnd : (l.map RF.name).Nodup) {i : Nat} {f f' : RF} (hi : l[i]? = some f) : l.set i f' = l.map fun g => if g.name = f.name then f' else g := by
  apply List.ext_getElem?
  intro j
  rw [List.getElem?_set, List.getElem?_map]
  by_cases hj : i = j
  · subst hj
    have hlt := (List.getElem?_eq_some_iff.1 hi).1
    rw [if_pos rfl, if_pos hlt, hi]
    simp
  · rw [if_neg hj]
    cases hx : l[j]? with
    | none => rfl
    | some g =>
      have hne : g.name ≠ f.name := by
        intro e
        have h1 := List.getElem?_eq_some_iff.1 hi
        have h2 := List.getElem?_eq_some_iff.1 hx
        have : (l.map RF.name)[i]? = (l.map RF.name)[j]? := by rw [List.getElem?_map, List.getElem?_map, hi, hx]; simp [e]
        exact hj ((List.getElem?_inj (by simpa using h1.1) hnd).1 this)
      simp [hne]
/-- a file is another now -/
theorem RkI.upd {w w' : World} {C : Nat → Prop} {rb : Nat} {R : RK} {i : Nat} {f f' : RF} (h : RkI w C rb R) (hi : R.fs[i]? = some f) (hn : f'.name = f.name)
    (hI : RfI w' (fun k => C k ∨ w.heap.size ≤ k) f') (hrow : w'.ownsRow 0 77 3 (.slice R.p R.fs.length R.c) R.fs.length ((R.fs.set i f').flatMap RF.cells))
    (hb : But (fun k => f.blk k ∨ R.ab k) w w') (hnew : ∀ k, f'.blk k → f.blk k ∨ w.heap.size ≤ k) : RkI w' (fun k => C k ∨ w.heap.size ≤ k) rb { R with fs := R.fs.set i f' } := by
  have hfm : f ∈ R.fs := List.mem_of_getElem? hi
  have hap : ∀ g ∈ R.fs, g.name ≠ f.name → ∀ k, f.blk k → ¬ g.blk k := by
    intro g hg hne k hk hgk
    have hp : ∀ {l : List RF}, l.Pairwise (fun f g => ∀ k, f.blk k → ¬ g.blk k) → ∀ {a b : RF}, a ∈ l → b ∈ l → a ≠ b → ∀ k, a.blk k → ¬ b.blk k := by
      intro l
      induction l with
      | nil => intro _ a b ha; cases ha
      | cons x l ih =>
        intro hp a b ha hb hab
        obtain ⟨h1, h2⟩ := List.pairwise_cons.1 hp
        rcases List.mem_cons.1 ha with rfl | ha'
        · rcases List.mem_cons.1 hb with rfl | hb
          · exact absurd rfl hab
          · exact h1 b hb
        · rcases List.mem_cons.1 hb with rfl | hb
          · exact fun k h3 h4 => h1 a ha' k h4 h3
          · exact ih h2 ha' hb hab
    exact hp h.apart hfm hg (fun e => hne (by rw [e])) k hk hgk
  have hrbx : ¬ (f.blk rb ∨ R.ab rb) := fun e => e.elim (fun e => (h.low f hfm _ e).1 rfl) (fun e => (h.ca _ e).2 rfl)
  have hlen : (R.fs.set i f').length = R.fs.length := List.length_set
  have hab : ∀ k, ({ R with fs := R.fs.set i f' } : RK).ab k ↔ R.ab k := fun k => by unfold RK.ab; simp only [hlen]
  have hold : ∀ g ∈ R.fs, g.name ≠ f.name → RfI w' (fun k => C k ∨ w.heap.size ≤ k) g := fun g hg e =>
    (h.each g hg).kept (fun k hk => hb.block k ((h.each g hg).blk hk).2 fun hx => hx.elim (fun hx => hap g hg e k hx hk) (fun hx => (h.low g hg k hk).2 hx)) (fun k hk => .inl ((h.each g hg).blk hk).1)
  have hlow : ∀ k, f'.blk k → k ≠ rb ∧ ¬ R.ab k := fun k hk => by
    rcases hnew k hk with h1 | h1
    · exact h.low f hfm k h1
    · have h2 := h.bx.lt
      exact ⟨by omega, fun e => by have := h.abl e; omega⟩
  have hoth : ∀ g ∈ R.fs, g.name ≠ f.name → ∀ k, f'.blk k → ¬ g.blk k := fun g hg e k hk hgk => by
    rcases hnew k hk with h1 | h1
    · exact hap g hg e k h1 hgk
    · have := ((h.each g hg).blk hgk).2
      omega
  have hset := set_eq_map h.nd hi (f' := f')
  refine ⟨?_, ?_, .inl h.cb, fun k hk => ⟨.inl (h.ca k ((hab k).1 hk)).1, (h.ca k ((hab k).1 hk)).2⟩, ?_, ?_, ?_, ?_, ?_, h.bl, h.ba, h.bf⟩
  · show Box w' rb #[.slice R.p (R.fs.set i f').length R.c, _, _, _, _] _
    rw [hlen]
    exact h.bx.kept (hb.block _ h.bx.lt hrbx)
  · show World.ownsRow _ _ _ _ (.slice R.p (R.fs.set i f').length R.c) (R.fs.set i f').length _
    rw [hlen]
    exact hrow
  · intro g' hg'
    have hg'' : g' ∈ R.fs.set i f' := hg'
    rw [hset] at hg''
    obtain ⟨g, hg, rfl⟩ := List.mem_map.1 hg''
    by_cases e : g.name = f.name
    · simp only [if_pos e]; exact hI
    · simp only [if_neg e]; exact hold g hg e
  · intro g' hg' k hk
    have hg'' : g' ∈ R.fs.set i f' := hg'
    rw [hset] at hg''
    obtain ⟨g, hg, rfl⟩ := List.mem_map.1 hg''
    rw [hab]
    by_cases e : g.name = f.name
    · simp only [if_pos e] at hk; exact hlow k hk
    · simp only [if_neg e] at hk; exact h.low g hg k hk
  · show (R.fs.set i f').Pairwise _
    rw [hset, List.pairwise_map]
    have hnd : R.fs.Pairwise fun a b => a.name ≠ b.name := by
      have := h.nd
      unfold List.Nodup at this
      rwa [List.pairwise_map] at this
    refine (h.apart.and hnd).imp_of_mem ?_
    intro a b ha hb' ⟨hab, hne⟩ k
    by_cases ea : a.name = f.name
    · have eb : ¬ b.name = f.name := fun e => hne (by rw [ea, e])
      simp only [if_pos ea, if_neg eb]
      exact hoth b hb' eb k
    · simp only [if_neg ea]
      by_cases eb : b.name = f.name
      · simp only [if_pos eb]
        exact fun h1 h2 => hoth a ha ea k h2 h1
      · simp only [if_neg eb]
        exact hab k
  · show ((R.fs.set i f').map RF.name).Nodup
    have : (R.fs.set i f').map RF.name = R.fs.map RF.name := by
      rw [hset, List.map_map]
      refine List.map_congr_left fun g _ => ?_
      by_cases e : g.name = f.name
      · simp [e, hn]
      · simp [e]
    rw [this]
    exact h.nd
  · show (R.fs.set i f').length ≤ 400
    rw [hlen]
    exact h.n
end Go.Proofs.YtebiidfdokhpaabGreatDoor

namespace Go.Proofs.YtebiidfdokhpaabGreatDoor
open Go.RowKit
set_option maxRecDepth 8000
def RF.key (f : RF) : Key := (f.name, f.su ++ f.lo, (f.su.length : Int))
/-- what a disk is, wherever it lies -/
structure AK where
  ks : List Key
  down : Bool
  left : Int
  after : Int
  fails : Int
def RK.ak (R : RK) : AK := ⟨R.fs.map RF.key, R.down, R.left, R.after, R.fails⟩
def RK.fallen (R : RK) : RK := { R with down := true, left := -1, fails := 0 }
/-- only the rigs have changed -/
def RigR (R' : RK) (C : Nat → Prop) (rb : Nat) (w w' : World) : Prop := RkI w' C rb R' ∧ But (fun k => k = rb) w w'
theorem RigR.trans {R1 R2 : RK} {C : Nat → Prop} {rb : Nat} {w1 w2 w3 : World} (h : RigR R1 C rb w1 w2) (k : RigR R2 C rb w2 w3) : RigR R2 C rb w1 w3 := ⟨k.1, h.2.trans k.2⟩
set_option maxHeartbeats 1000000 in
theorem rfall_any (R : RK) (w : World) (C : Nat → Prop) (rb : Nat) (hR : RkI w C rb R) :
    Calls Tryz.prog 31 #[.pointer (some ⟨rb, 0, none⟩)] w fun e w' => e = .returned (.tuple #[]) ∧ RigR R.fallen C rb w w' := by
  have HR := hid hR
  have r1 := hR.bx.cell 1
  have r2 := hR.bx.cell 2
  have r4 := hR.bx.cell 4
  have g1 := hR.bx.frozen 1
  have g2 := hR.bx.frozen 2
  have g4 := hR.bx.frozen 4
  have rl := hR.bx.lt
  simp at r1 r2 r4
  have HE := hid (((hR.bx.set 1 (.bool true)).set 2 (.int .i64 (-1))).set 4 (.int .i64 0))
  have HBt : Hid (But (fun k => k = rb) w (((w.setCell ⟨rb, 1, none⟩ (.bool true)).setCell ⟨rb, 2, none⟩ (.int .i64 (-1))).setCell ⟨rb, 4, none⟩ (.int .i64 0))) := (((But.one _ _).setAt 1 _).setAt 2 _).setAt 4 _
  clear hR
  go_enter Tryz.func31, Tryz.ntmps31
  go_wp2
  go_end0
  exact ⟨rfl, HR.out.rig HBt.out (by simpa using HE.out) (by omega) HR.out.ba (by omega), HBt.out⟩
def ahE (R : RK) (s : ByteArray) (ch : Bool) : Int := if nmB s = false then 102 else if R.down = true then 100 else if ch = false ∨ R.fails = 0 then 0 else if R.after = 0 then 101 else 0
def ahR (R : RK) (s : ByteArray) (ch : Bool) : RK := if nmB s = true ∧ R.down = false ∧ ch = true ∧ R.fails ≠ 0 then (if R.after = 0 then { R with fails := R.fails - 1 } else { R with after := R.after - 1 }) else R
theorem ahR_fs (R : RK) (s : ByteArray) (ch : Bool) : (ahR R s ch).fs = R.fs ∧ (ahR R s ch).p = R.p ∧ (ahR R s ch).c = R.c ∧ (ahR R s ch).left = R.left := by
  unfold ahR
  split
  · split <;> exact ⟨rfl, rfl, rfl, rfl⟩
  · exact ⟨rfl, rfl, rfl, rfl⟩
set_option maxHeartbeats 4000000 in
theorem rahead_any (R : RK) (s : ByteArray) (ch : Bool) (w : World) (C : Nat → Prop) (rb : Nat) (hR : RkI w C rb R) (hmx : s.size ≤ 140737488355328) :
    Calls Tryz.prog 27 #[.pointer (some ⟨rb, 0, none⟩), .string s, .bool ch] w fun e w' => e = .returned (.int .i64 (ahE R s ch)) ∧ RigR (ahR R s ch) C rb w w' := by
  have HR := hid hR
  have r1 := hR.bx.cell 1
  have r3 := hR.bx.cell 3
  have r4 := hR.bx.cell 4
  have g3 := hR.bx.frozen 3
  have g4 := hR.bx.frozen 4
  have rl := hR.bx.lt
  simp at r1 r3 r4
  have hba := hR.ba
  have hbf := hR.bf
  clear hR
  go_enter Tryz.func27, Tryz.ntmps27
  go_wp2_with fail
  refine (named_any s w hmx).mono ?_
  rintro e w2 ⟨rfl, hw2⟩
  obtain rfl := hw2.symm
  cases hnb : nmB s with
  | false =>
    have HE : Hid (ahE R s ch = 102) := by show ahE R s ch = 102; simp [ahE, hnb]
    have HA : Hid (ahR R s ch = R) := by show ahR R s ch = R; simp [ahR, hnb]
    go_wp2
    exact bodyPost_ret (v := .int .i64 102) (by simp [results, Tryz.results27, go_sem]) rfl ⟨by rw [HE.out], by rw [HA.out]; exact ⟨HR.out, But.refl _ _⟩⟩
  | true =>
    cases hd : R.down with
    | true =>
      have HE : Hid (ahE R s ch = 100) := by show ahE R s ch = 100; simp [ahE, hnb, hd]
      have HA : Hid (ahR R s ch = R) := by show ahR R s ch = R; simp [ahR, hd]
      rw [hd] at r1
      go_wp2
      exact bodyPost_ret (v := .int .i64 100) (by simp [results, Tryz.results27, go_sem]) rfl ⟨by rw [HE.out], by rw [HA.out]; exact ⟨HR.out, But.refl _ _⟩⟩
    | false =>
      rw [hd] at r1
      cases ch with
      | false =>
        have HE : Hid (ahE R s false = 0) := by show ahE R s false = 0; simp [ahE, hnb, hd]
        have HA : Hid (ahR R s false = R) := by show ahR R s false = R; simp [ahR]
        go_wp2
        exact bodyPost_ret (v := .int .i64 0) (by simp [results, Tryz.results27, go_sem]) rfl ⟨by rw [HE.out], by rw [HA.out]; exact ⟨HR.out, But.refl _ _⟩⟩
      | true =>
        by_cases hf : R.fails = 0
        · have HE : Hid (ahE R s true = 0) := by show ahE R s true = 0; simp [ahE, hnb, hd, hf]
          have HA : Hid (ahR R s true = R) := by show ahR R s true = R; simp [ahR, hf]
          have hf' : (R.fails == 0) = true := by simpa using hf
          go_wp2
          exact bodyPost_ret (v := .int .i64 0) (by simp [results, Tryz.results27, go_sem]) rfl ⟨by rw [HE.out], by rw [HA.out]; exact ⟨HR.out, But.refl _ _⟩⟩
        · have hf' : (R.fails == 0) = false := by simpa using hf
          by_cases ha : R.after = 0
          · have HE : Hid (ahE R s true = 101) := by show ahE R s true = 101; simp [ahE, hnb, hd, hf, ha]
            have HA : Hid (ahR R s true = { R with fails := R.fails - 1 }) := by show ahR R s true = _; simp [ahR, hnb, hd, hf, ha]
            have ha' : (R.after == 0) = true := by simpa using ha
            have hb1 : -9223372036854775808 ≤ R.fails - 1 ∧ R.fails - 1 ≤ 9223372036854775807 := by omega
            have HX := hid (HR.out.bx.set 4 (.int .i64 (R.fails - 1)))
            have HBt : Hid (But (fun k => k = rb) w (w.setCell ⟨rb, 4, none⟩ (.int .i64 (R.fails - 1)))) := (But.one _ _).setAt 4 _
            have HFb := hid (show 0 ≤ R.fails - 1 ∧ R.fails - 1 ≤ 9223372036854775807 by omega)
            clear hf ha
            go_wp2
            refine bodyPost_ret (v := .int .i64 101) (by simp [results, Tryz.results27, go_sem]) rfl ⟨by rw [HE.out], ?_⟩
            rw [HA.out]
            exact ⟨HR.out.rig HBt.out (by simpa using HX.out) HR.out.bl HR.out.ba HFb.out, HBt.out⟩
          · have HE : Hid (ahE R s true = 0) := by show ahE R s true = 0; simp [ahE, hnb, hd, hf, ha]
            have HA : Hid (ahR R s true = { R with after := R.after - 1 }) := by show ahR R s true = _; simp [ahR, hnb, hd, hf, ha]
            have ha' : (R.after == 0) = false := by simpa using ha
            have hb1 : -9223372036854775808 ≤ R.after - 1 ∧ R.after - 1 ≤ 9223372036854775807 := by omega
            have HX := hid (HR.out.bx.set 3 (.int .i64 (R.after - 1)))
            have HBt : Hid (But (fun k => k = rb) w (w.setCell ⟨rb, 3, none⟩ (.int .i64 (R.after - 1)))) := (But.one _ _).setAt 3 _
            have HFb := hid (show 0 ≤ R.after - 1 ∧ R.after - 1 ≤ 9223372036854775807 by omega)
            clear hf ha
            go_wp2
            refine bodyPost_ret (v := .int .i64 0) (by simp [results, Tryz.results27, go_sem]) rfl ⟨by rw [HE.out], ?_⟩
            rw [HA.out]
            exact ⟨HR.out.rig HBt.out (by simpa using HX.out) HR.out.bl HFb.out HR.out.bf, HBt.out⟩
def pyB (R : RK) (cost : Int) : Bool := decide (R.left < 0) || decide (cost ≤ R.left)
def pyR (R : RK) (cost : Int) : RK := if 0 ≤ R.left ∧ cost ≤ R.left then { R with left := R.left - cost } else R
theorem pyR_fs (R : RK) (cost : Int) : (pyR R cost).fs = R.fs ∧ (pyR R cost).p = R.p ∧ (pyR R cost).c = R.c := by
  unfold pyR
  split <;> exact ⟨rfl, rfl, rfl⟩
set_option maxHeartbeats 4000000 in
theorem rpays_any (R : RK) (cost : Int) (w : World) (C : Nat → Prop) (rb : Nat) (hR : RkI w C rb R) (h0 : 0 ≤ cost) (h1 : cost ≤ 9223372036854775807) :
    Calls Tryz.prog 29 #[.pointer (some ⟨rb, 0, none⟩), .int .i64 cost] w fun e w' => e = .returned (.bool (pyB R cost)) ∧ RigR (pyR R cost) C rb w w' := by
  have HR := hid hR
  have r2 := hR.bx.cell 2
  have g2 := hR.bx.frozen 2
  have rl := hR.bx.lt
  simp at r2
  have hbl := hR.bl
  clear hR
  by_cases hl : R.left < 0
  · have HE : Hid (pyB R cost = true) := by show pyB R cost = true; simp [pyB, hl]
    have HA : Hid (pyR R cost = R) := by show pyR R cost = R; exact if_neg (by omega)
    go_enter Tryz.func29, Tryz.ntmps29
    go_wp2
    exact bodyPost_ret (v := .bool true) (by simp [results, Tryz.results29, go_sem]) rfl ⟨by rw [HE.out], by rw [HA.out]; exact ⟨HR.out, But.refl _ _⟩⟩
  · by_cases hc : cost ≤ R.left
    · have HE : Hid (pyB R cost = true) := by show pyB R cost = true; simp [pyB, hc]
      have HA : Hid (pyR R cost = { R with left := R.left - cost }) := by show pyR R cost = _; exact if_pos ⟨by omega, hc⟩
      have hb1 : -9223372036854775808 ≤ R.left - cost ∧ R.left - cost ≤ 9223372036854775807 := by omega
      have HX := hid (HR.out.bx.set 2 (.int .i64 (R.left - cost)))
      have HBt : Hid (But (fun k => k = rb) w (w.setCell ⟨rb, 2, none⟩ (.int .i64 (R.left - cost)))) := (But.one _ _).setAt 2 _
      have HFb := hid (show -1 ≤ R.left - cost ∧ R.left - cost ≤ 9223372036854775807 by omega)
      go_enter Tryz.func29, Tryz.ntmps29
      go_wp2
      refine bodyPost_ret (v := .bool true) (by simp [results, Tryz.results29, go_sem]) rfl ⟨by rw [HE.out], ?_⟩
      rw [HA.out]
      exact ⟨HR.out.rig HBt.out (by simpa using HX.out) HFb.out HR.out.ba HR.out.bf, HBt.out⟩
    · have HE : Hid (pyB R cost = false) := by show pyB R cost = false; simp [pyB, hl, hc]
      have HA : Hid (pyR R cost = R) := by show pyR R cost = R; exact if_neg (by omega)
      go_enter Tryz.func29, Tryz.ntmps29
      go_wp2
      exact bodyPost_ret (v := .bool false) (by simp [results, Tryz.results29, go_sem]) rfl ⟨by rw [HE.out], by rw [HA.out]; exact ⟨HR.out, But.refl _ _⟩⟩
end Go.Proofs.YtebiidfdokhpaabGreatDoor

namespace Go.Proofs.YtebiidfdokhpaabGreatDoor
open Go.RowKit
set_option maxRecDepth 8000
theorem streqR (a b : ByteArray) : (a.toList == b.toList) = decide (a = b) := by
  rw [ByteArray.toList_eq, ByteArray.toList_eq]
  by_cases h : a = b
  · subst h; simp
  · have : a.data ≠ b.data := fun e => h (ByteArray.ext e)
    simp [h, this]
/-- which file has this name -/
def RK.no (R : RK) (s : ByteArray) : Prop := ∀ f ∈ R.fs, f.name ≠ s
def RK.is (R : RK) (s : ByteArray) (i : Nat) (f : RF) : Prop := R.fs[i]? = some f ∧ f.name = s
def FndQ (R : RK) (s : ByteArray) (e : Ending) : Prop := (R.no s ∧ e = .returned (.int .i64 (-1))) ∨ ∃ i f, R.is s i f ∧ e = .returned (.int .i64 (i : Int))
set_option maxHeartbeats 4000000 in
theorem rfindK_any (R : RK) (s : ByteArray) (w : World) (C : Nat → Prop) (rb : Nat) (hR : RkI w C rb R) :
    Calls Tryz.prog 28 #[.pointer (some ⟨rb, 0, none⟩), .string s] w fun e w' => w' = w ∧ FndQ R s e := by
  have HR := hid hR
  have hr := hR.bx.cell 0
  simp at hr
  have hn4 := hR.n
  clear hR
  go_enter Tryz.func28, Tryz.ntmps28
  go_wp2_with fail
  go_loopw [5] (fun x wr => ∃ i : Nat, i ≤ R.fs.length ∧ x = .int .i64 (i : Int) ∧ (∀ j f, j < i → R.fs[j]? = some f → f.name ≠ s) ∧ wr = w) (fun x _ => R.fs.length - (intOf x).toNat)
  case atStart => exact ⟨0, Nat.zero_le _, rfl, fun j f hj => absurd hj (by omega), rfl⟩
  case round =>
    obtain ⟨i, hi, rfl, hno, rfl⟩ := hrel
    have HNo := hid hno
    clear hno
    by_cases hlt : i < R.fs.length
    · have hlt' : (i : Int) < (R.fs.length : Int) := by omega
      have hfi : R.fs[i]? = some R.fs[i] := List.getElem?_eq_getElem hlt
      obtain ⟨f, hf⟩ : ∃ f, f = R.fs[i] := ⟨_, rfl⟩
      rw [← hf] at hfi
      obtain ⟨bb, hp, _, hbb, _, _, _, hat⟩ := HR.out.at_ hfi
      rw [hp] at hr
      have c0 : wr.cell? ⟨bb, i * 3, none⟩ = some (.string f.name) := hat 0 (by omega)
      have HFi := hid hfi
      clear hat hf hfi
      by_cases he : f.name = s
      · have hs : (f.name.toList == s.toList) = true := by rw [streqR]; simpa using he
        have HY : Hid (FndQ R s (.returned (.int .i64 (i : Int)))) := .inr ⟨i, f, ⟨HFi.out, he⟩, rfl⟩
        clear he
        go_wp2
        exact bodyPost_ret (v := .int .i64 (i : Int)) (by simp [results, Tryz.results28, go_sem]) rfl ⟨rfl, HY.out⟩
      · have hs : (f.name.toList == s.toList) = false := by rw [streqR]; simpa using he
        have HN2 : Hid (∀ j f, j < i + 1 → R.fs[j]? = some f → f.name ≠ s) := fun j g hj hg => by
          by_cases hji : j < i
          · exact HNo.out j g hji hg
          · obtain rfl : j = i := by omega
            have : f = g := Option.some.inj (HFi.out.symm.trans hg)
            exact this ▸ he
        clear he
        go_wp2
        go_roundw
        case rel => exact ⟨i + 1, by omega, by go_num, HN2.out, by first | rfl | trivial⟩
        case measure => simp [intOf]; omega
    · have hlt' : ¬ (i : Int) < (R.fs.length : Int) := by omega
      have HY : Hid (FndQ R s (.returned (.int .i64 (-1)))) := .inl ⟨fun f hf => by
        obtain ⟨j, hj⟩ := List.mem_iff_getElem?.1 hf
        exact HNo.out j f (by have := (List.getElem?_eq_some_iff.1 hj).1; omega) hj, rfl⟩
      go_wp2
      exact bodyPost_ret (v := .int .i64 (-1)) (by simp [results, Tryz.results28, go_sem]) rfl ⟨rfl, HY.out⟩
/-- the checks of Sync, Trim and Remove -/
def ThQ (R : RK) (s : ByteArray) (C : Nat → Prop) (rb : Nat) (w : World) (e : Ending) (w' : World) : Prop :=
  (ahE R s true ≠ 0 ∧ e = .returned (.tuple #[.int .i64 0, .int .i64 (ahE R s true)]) ∧ RigR (ahR R s true) C rb w w') ∨
  (ahE R s true = 0 ∧ R.no s ∧ e = .returned (.tuple #[.int .i64 0, .int .i64 103]) ∧ RigR (ahR R s true) C rb w w') ∨
  (ahE R s true = 0 ∧ (∃ i f, R.is s i f) ∧ pyB (ahR R s true) 1 = false ∧ e = .returned (.tuple #[.int .i64 0, .int .i64 100]) ∧ RigR (ahR R s true).fallen C rb w w') ∨
  (ahE R s true = 0 ∧ pyB (ahR R s true) 1 = true ∧ ∃ i f, R.is s i f ∧ e = .returned (.tuple #[.int .i64 (i : Int), .int .i64 0]) ∧ RigR (pyR (ahR R s true) 1) C rb w w')
set_option maxHeartbeats 4000000 in
theorem rthere_any (R : RK) (s : ByteArray) (w : World) (C : Nat → Prop) (rb : Nat) (hR : RkI w C rb R) (hmx : s.size ≤ 140737488355328) :
    Calls Tryz.prog 64 #[.pointer (some ⟨rb, 0, none⟩), .string s] w fun e w' => ThQ R s C rb w e w' := by
  have HA := hid (rahead_any R s true w C rb hR hmx)
  clear hR
  go_enter Tryz.func64, Tryz.ntmps64
  go_wp2_with fail
  refine HA.out.mono ?_
  rintro e w2 ⟨rfl, hQ⟩
  have HQ := hid hQ
  have HF := hid (rfindK_any (ahR R s true) s w2 C rb hQ.1)
  clear hQ HA
  obtain ⟨q, hq⟩ : ∃ q, q = ahE R s true := ⟨_, rfl⟩
  rw [← hq]
  have HQe := hid hq
  clear hq
  by_cases h0 : q = 0
  · subst h0
    go_wp2_with fail
    refine HF.out.mono ?_
    rintro e w3 ⟨hw3, hf⟩
    obtain rfl := hw3.symm
    rcases hf with ⟨hno, rfl⟩ | ⟨i, f, hi, rfl⟩
    · have HNo : Hid (R.no s) := by show ∀ f ∈ R.fs, f.name ≠ s; rw [← (ahR_fs R s true).1]; exact hno
      clear hno HF
      go_wp2
      exact bodyPost_ret (v := .tuple #[.int .i64 0, .int .i64 103]) (by simp [results, Tryz.results64, go_sem]) rfl (.inr (.inl ⟨HQe.out.symm, HNo.out, rfl, HQ.out⟩))
    · have HI : Hid (R.is s i f) := by
        refine ⟨?_, hi.2⟩
        rw [← (ahR_fs R s true).1]
        exact hi.1
      have hi0 : ¬ (i : Int) < 0 := by omega
      have HP := hid (rpays_any (ahR R s true) 1 w2 C rb HQ.out.1 (by omega) (by omega))
      clear hi HF
      go_wp2_with fail
      refine HP.out.mono ?_
      rintro e w4 ⟨rfl, hP⟩
      have HP4 := hid hP
      clear hP HP
      cases hpy : pyB (ahR R s true) 1 with
      | true =>
        go_wp2
        exact bodyPost_ret (v := .tuple #[.int .i64 (i : Int), .int .i64 0]) (by simp [results, Tryz.results64, go_sem]) rfl (.inr (.inr (.inr ⟨HQe.out.symm, hpy, i, f, HI.out, rfl, HQ.out.trans HP4.out⟩)))
      | false =>
        have HR : Hid (pyR (ahR R s true) 1 = ahR R s true) := by
          show pyR _ 1 = _
          simp only [pyB, Bool.or_eq_false_iff, decide_eq_false_iff_not] at hpy
          exact if_neg (by omega)
        have HFl := hid (rfall_any (ahR R s true) w4 C rb (by have h := HP4.out.1; rw [HR.out] at h; exact h))
        go_wp2_with fail
        refine HFl.out.mono ?_
        rintro e w5 ⟨rfl, hF⟩
        have HF5 := hid hF
        clear hF HFl
        go_wp2
        exact bodyPost_ret (v := .tuple #[.int .i64 0, .int .i64 100]) (by simp [results, Tryz.results64, go_sem]) rfl (.inr (.inr (.inl ⟨HQe.out.symm, ⟨i, f, HI.out⟩, hpy, rfl, (HQ.out.trans HP4.out).trans HF5.out⟩)))
  · have h0' : (q == 0) = false := by simpa using h0
    have HNe := hid h0
    clear h0 HF
    go_wp2
    exact bodyPost_ret (v := .tuple #[.int .i64 0, .int .i64 q]) (by simp [results, Tryz.results64, go_sem]) rfl (.inl ⟨by rw [← HQe.out]; exact HNe.out, by rw [← HQe.out], HQ.out⟩)
end Go.Proofs.YtebiidfdokhpaabGreatDoor
