import Derived.Test.YtdncnnjhfipokaaKdB
import Derived.Test.YtdncnnjhfipokaaPack11
namespace Go.Proofs.Ytdncnnjhfipokaa
open Go.RowKit
set_option maxRecDepth 8000
/-- what the statement sees of a snapshot -/
structure Vw where
  id : Int
  cp : Bool
  num : Int
  cl : LT VT
  pd : LT RT
  cd : Nat → Bool
  lg : Nat → LT RT
  hd : Bool
def Vw.lv (K : Vw) (i : Nat) : Value := .slice (K.lg i).p (K.lg i).n (K.lg i).c
def Vw.arr (K : Vw) : Array Value := #[.int .i64 K.id, .bool K.cp, .int .i64 K.num, .slice K.cl.p K.cl.n K.cl.c, .slice K.pd.p K.pd.n K.pd.c, .bool (K.cd 0), .bool (K.cd 1), .bool (K.cd 2), .bool (K.cd 3), .slice (K.lg 0).p (K.lg 0).n (K.lg 0).c, .slice (K.lg 1).p (K.lg 1).n (K.lg 1).c, .slice (K.lg 2).p (K.lg 2).n (K.lg 2).c, .slice (K.lg 3).p (K.lg 3).n (K.lg 3).c, .bool K.hd]
/-- the blocks that its calls may change -/
def Vw.C (K : Vw) (b k : Nat) : Prop := k = b ∨ ∃ i, i < 4 ∧ (K.lv i).ownBlock = some k
structure VwI (w : World) (b : Nat) (K : Vw) : Prop where
  box : Box w b K.arr 59
  own : ∀ i, i < 4 → w.ownsRow 0 36 6 (K.lv i) (K.lg i).n (rowsR (K.lg i))
  ne : ∀ i, i < 4 → (K.lv i).ownBlock ≠ some b
  dis : ∀ i j, i < 4 → j < 4 → i ≠ j → ∀ k, (K.lv i).ownBlock = some k → (K.lv j).ownBlock ≠ some k
theorem VwI.kept {w w' : World} {b : Nat} {K : Vw} (h : VwI w b K) (hb : ∀ k, K.C b k → k < w.heap.size → w'.heap[k]? = w.heap[k]?) : VwI w' b K :=
  ⟨h.box.kept (hb b (.inl rfl) h.box.lt), fun i hi => ownsRow_keep (h.own i hi) (fun k hk hl => hb k (.inr ⟨i, hi, hk⟩) hl), h.ne, h.dis⟩
theorem VwI.below {w w' : World} {b : Nat} {K : Vw} (h : VwI w b K) (hb : Below w.heap.size w w') : VwI w' b K := h.kept fun k _ hl => hb.block k hl
theorem VwI.cs {w : World} {b : Nat} {K : Vw} (h : VwI w b K) {i : Nat} (hi : i < 4) : w.cell? ⟨b, 5 + i, none⟩ = some (.bool (K.cd i)) := by
  rw [h.box.cell]
  rcases (by omega : i = 0 ∨ i = 1 ∨ i = 2 ∨ i = 3) with rfl | rfl | rfl | rfl <;> rfl
theorem VwI.cl_ {w : World} {b : Nat} {K : Vw} (h : VwI w b K) {i : Nat} (hi : i < 4) : w.cell? ⟨b, 9 + i, none⟩ = some (.slice (K.lg i).p (K.lg i).n (K.lg i).c) := by
  rw [h.box.cell]
  rcases (by omega : i = 0 ∨ i = 1 ∨ i = 2 ∨ i = 3) with rfl | rfl | rfl | rfl <;> rfl
def Vw.setLog (K : Vw) (i : Nat) (l : LT RT) : Vw := { K with lg := fun j => if j = i then l else K.lg j }
theorem Vw.lv_set (K : Vw) (i : Nat) (l : LT RT) : (K.setLog i l).lv i = .slice l.p l.n l.c := by simp [Vw.setLog, Vw.lv]
theorem Vw.lv_ne (K : Vw) {i j : Nat} (l : LT RT) (h : j ≠ i) : (K.setLog i l).lv j = K.lv j := by simp [Vw.setLog, Vw.lv, h]
theorem Vw.arr_set (K : Vw) {i : Nat} (hi : i < 4) (l : LT RT) : K.arr.setIfInBounds (9 + i) (.slice l.p l.n l.c) = (K.setLog i l).arr := by
  rcases (by omega : i = 0 ∨ i = 1 ∨ i = 2 ∨ i = 3) with rfl | rfl | rfl | rfl <;> simp [Vw.arr, Vw.setLog]
structure VSet (w : World) (b : Nat) (K : Vw) (w' : World) (K' : Vw) : Prop where
  inv : VwI w' b K'
  but : But (K.C b) w w'
  cs : ∀ k, K'.C b k → K.C b k ∨ w.heap.size ≤ k
theorem VwI.lt {w : World} {b : Nat} {K : Vw} (h : VwI w b K) {k : Nat} (hk : K.C b k) : k < w.heap.size := by
  rcases hk with rfl | ⟨i, hi, e⟩
  · exact h.box.lt
  · exact ((h.own i hi).lt k e).2
theorem VwI.setLog {w w1 w2 : World} {b : Nat} {K : Vw} {i : Nat} {l : LT RT} (h : VwI w b K) (hi : i < 4) (hb : Below w.heap.size w w1) (ho : w2.ownsRow 0 36 6 (.slice l.p l.n l.c) l.n (rowsR l)) (hg : w1.grownBy w2 (K.lv i).ownBlock) (hn : Near w1 (K.lv i) (.slice l.p l.n l.c)) :
    VSet w b K (w2.setCell ⟨b, 9 + i, none⟩ (.slice l.p l.n l.c)) (K.setLog i l) := by
  have h1 := h.below hb
  have hlt : ∀ k, K.C b k → k < w1.heap.size := fun k hk => Nat.lt_of_lt_of_le (h.lt hk) hb.size
  have hbx : Box w2 b K.arr 59 := h1.box.kept (hg.block b h1.box.lt (fun e => h.ne i hi e.symm))
  have hvb : (Value.slice l.p l.n l.c).ownBlock ≠ some b := fun e => by
    rcases hn with h2 | h2
    · exact h.ne i hi (h2 ▸ e)
    · have := h2 b e; have := h1.box.lt; omega
  have hset : ∀ k, k ≠ b → (w2.setCell ⟨b, 9 + i, none⟩ (.slice l.p l.n l.c)).heap[k]? = w2.heap[k]? := fun k hk => Below.heap_setCell _ _ _ _ hk
  refine ⟨⟨?_, fun j hj => ?_, fun j hj => ?_, fun j q hj hq hjq k hk => ?_⟩, ?_, fun k hk => ?_⟩
  · have := hbx.set (9 + i) (.slice l.p l.n l.c)
    rwa [Vw.arr_set K hi l] at this
  · by_cases hji : j = i
    · subst hji
      rw [Vw.lv_set, show (K.setLog j l).lg j = l by simp [Vw.setLog]]
      exact ownsRow_keep ho fun k hk _ => hset k (fun e => hvb (e ▸ hk))
    · rw [Vw.lv_ne K l hji, show (K.setLog i l).lg j = K.lg j by simp [Vw.setLog, hji]]
      exact ownsRow_keep (ownsRow_keep (h1.own j hj) fun k hk hl => hg.block k hl (fun e => h.dis j i hj hi hji k hk e.symm)) fun k hk _ => hset k (fun e => h.ne j hj (e ▸ hk))
  · by_cases hji : j = i
    · subst hji; rw [Vw.lv_set]; exact hvb
    · rw [Vw.lv_ne K l hji]; exact h.ne j hj
  · have hold : ∀ j, j < 4 → ∀ k, (K.lv j).ownBlock = some k → k < w1.heap.size := fun j hj k e => hlt k (.inr ⟨j, hj, e⟩)
    by_cases hji : j = i
    · subst hji
      rw [Vw.lv_set] at hk
      rw [Vw.lv_ne K l (fun e => hjq e.symm)]
      rcases hn with h2 | h2
      · exact h.dis j q hj hq hjq k (h2 ▸ hk)
      · intro e; have := hold q hq k e; have := h2 k hk; omega
    · rw [Vw.lv_ne K l hji] at hk
      by_cases hqi : q = i
      · subst hqi
        rw [Vw.lv_set]
        rcases hn with h2 | h2
        · rw [h2]; exact h.dis j q hj hq hjq k hk
        · intro e; have := hold j hj k hk; have := h2 k e; omega
      · rw [Vw.lv_ne K l hqi]; exact h.dis j q hj hq hjq k hk
  · refine ((But.ofBelow hb).grown hg (fun k e _ => .inr ⟨i, hi, e⟩)).setCell (p := ⟨b, 9 + i, none⟩) (fun _ => .inl rfl) _
  · rcases hk with rfl | ⟨j, hj, e⟩
    · exact .inl (.inl rfl)
    · by_cases hji : j = i
      · subst hji
        rw [Vw.lv_set] at e
        rcases hn with h2 | h2
        · exact .inl (.inr ⟨j, hj, h2 ▸ e⟩)
        · exact .inr (Nat.le_trans hb.size (h2 k e))
      · rw [Vw.lv_ne K l hji] at e
        exact .inl (.inr ⟨j, hj, e⟩)
theorem RT.In.apartV {w w1 w2 : World} {b : Nat} {K : Vw} {i : Nat} {l : LT RT} {u : RT} (h : VwI w b K) (hi : i < 4) (hu : RT.In w1 (fun k => w.heap.size ≤ k) u) (hg : w1.grownBy w2 (K.lv i).ownBlock) (hn : Near w1 (K.lv i) (.slice l.p l.n l.c)) :
    RT.In (w2.setCell ⟨b, 9 + i, none⟩ (.slice l.p l.n l.c)) (fun k => w.heap.size ≤ k ∧ ¬ (K.setLog i l).C b k) u := by
  have hu2 : RT.In w1 (fun k => (w.heap.size ≤ k ∧ ¬ (K.setLog i l).C b k)) u := hu.mono fun k hk hl => by
    refine ⟨hk, fun e => ?_⟩
    rcases e with rfl | ⟨j, hj, e⟩
    · have := h.box.lt; omega
    · by_cases hji : j = i
      · subst hji
        rw [Vw.lv_set] at e
        rcases hn with h2 | h2
        · have := ((h.own j hj).lt k (h2 ▸ e)).2; omega
        · have := h2 k e; omega
      · rw [Vw.lv_ne K l hji] at e
        have := ((h.own j hj).lt k e).2; omega
  refine (hu2.kept hg.size (fun k hk hl => hg.block k hl (fun e => ?_))).kept (by simp [World.setCell]) (fun k hk _ => Below.heap_setCell _ _ _ _ (fun e => ?_))
  · have := ((h.own i hi).lt k e.symm).2; omega
  · have := h.box.lt; simp only at e; omega
/-- its own cells changed, its logs not -/
theorem VwI.chg {w w2 : World} {b : Nat} {K K' : Vw} (h : VwI w b K) (hlg : K'.lg = K.lg) (hbox : Box w2 b K'.arr 59) (hbut : But (fun k => k = b) w w2) : VSet w b K w2 K' := by
  have hlv : ∀ i, K'.lv i = K.lv i := fun i => by unfold Vw.lv; rw [hlg]
  refine ⟨⟨hbox, fun i hi => ?_, fun i hi => ?_, fun i j hi hj hij k hk => ?_⟩, ?_, fun k hk => ?_⟩
  · rw [hlv, hlg]; exact ownsRow_keep (h.own i hi) fun k hk hl => hbut.block k hl (fun e => h.ne i hi (e ▸ hk))
  · rw [hlv]; exact h.ne i hi
  · rw [hlv] at hk ⊢; exact h.dis i j hi hj hij k hk
  · exact hbut.mono fun k _ e => .inl e
  · rcases hk with rfl | ⟨i, hi, e⟩
    · exact .inl (.inl rfl)
    · rw [hlv] at e; exact .inl (.inr ⟨i, hi, e⟩)
/-- its logs are empty now -/
theorem VwI.empty {w w2 : World} {b : Nat} {K K' : Vw} (hlg : ∀ i, i < 4 → (K'.lg i).p = none ∧ (K'.lg i).n = 0 ∧ (K'.lg i).c = 0) (hbox : Box w2 b K'.arr 59) (hbut : But (fun k => k = b) w w2) : VSet w b K w2 K' := by
  have hlv : ∀ i, i < 4 → K'.lv i = .slice none 0 0 := fun i hi => by unfold Vw.lv; rw [(hlg i hi).1, (hlg i hi).2.1, (hlg i hi).2.2]
  have hob : ∀ i, i < 4 → ∀ k, (K'.lv i).ownBlock ≠ some k := fun i hi k => by rw [hlv i hi]; intro e; cases e
  refine ⟨⟨hbox, fun i hi => ?_, fun i hi => hob i hi b, fun i j hi hj hij k hk => absurd hk (hob i hi k)⟩, ?_, fun k hk => ?_⟩
  · rw [hlv i hi, (hlg i hi).2.1]
    have : rowsR (K'.lg i) = [] := by unfold rowsR; rw [(hlg i hi).2.1]; rfl
    rw [this]
    exact World.ownsRow_nil _ _ _ _
  · exact hbut.mono fun k _ e => .inl e
  · rcases hk with rfl | ⟨i, hi, e⟩
    · exact .inl (.inl rfl)
    · exact absurd e (hob i hi k)
theorem VSet.trans {w w1 w2 : World} {b : Nat} {K K1 K2 : Vw} (h : VSet w b K w1 K1) (g : VSet w1 b K1 w2 K2) : VSet w b K w2 K2 := by
  refine ⟨g.inv, ⟨g.but.os.trans h.but.os, g.but.tape.trans h.but.tape, g.but.output.trans h.but.output, Nat.le_trans h.but.size g.but.size, fun k hk hx => ?_⟩, fun k hk => ?_⟩
  · refine (g.but.block k (Nat.lt_of_lt_of_le hk h.but.size) (fun e => ?_)).trans (h.but.block k hk hx)
    rcases h.cs k e with e1 | e1
    · exact hx e1
    · omega
  · rcases g.cs k hk with e | e
    · exact h.cs k e
    · exact .inr (Nat.le_trans h.but.size e)
theorem VSet.same {w w' : World} {b : Nat} {K : Vw} (h : VwI w b K) (hb : Below w.heap.size w w') : VSet w b K w' K := ⟨h.below hb, But.ofBelow hb, fun _ hk => .inl hk⟩
theorem VSet.drew {w w1 : World} {b : Nat} {K K1 : Vw} (h : VSet w b K w1 K1) : VSet w b K w1.drew K1 := h.trans (VSet.same h.inv (Below.refl _ _).drew)
def Vw.close (K : Vw) (i : Nat) : Vw := { K with cd := fun j => if j = i then true else K.cd j }
theorem Vw.arr_cd (K : Vw) {i : Nat} (hi : i < 4) : K.arr.setIfInBounds (5 + i) (.bool true) = (K.close i).arr := by
  rcases (by omega : i = 0 ∨ i = 1 ∨ i = 2 ∨ i = 3) with rfl | rfl | rfl | rfl <;> simp [Vw.arr, Vw.close]
theorem VwI.close {w w1 : World} {b : Nat} {K : Vw} {i : Nat} (h : VwI w b K) (hi : i < 4) (hb : Below w.heap.size w w1) : VSet w b K (w1.setCell ⟨b, 5 + i, none⟩ (.bool true)) (K.close i) := by
  have h1 := h.below hb
  refine (VSet.same h hb).trans (h1.chg rfl ?_ ((But.one w1 b).setAt (5 + i) _))
  have := h1.box.set (5 + i) (.bool true)
  rwa [Vw.arr_cd K hi] at this
def Vw.fresh (id : Int) : Vw := ⟨id, false, 0, nilL (fun _ => .nil), nilL (fun _ => rt0), fun _ => false, fun _ => nilL (fun _ => rt0), false⟩
def Vw.copied (K : Vw) (num : Int) (u : LT VT) (v : LT RT) : Vw := { K with cp := true, num := num, cl := u, pd := v }
end Go.Proofs.Ytdncnnjhfipokaa

namespace Go.Proofs.Ytdncnnjhfipokaa
open Go.RowKit
set_option maxRecDepth 8000
def Vw.skips (V : Vw) (o : OpT) (i : Nat) : Bool := decide (o.id < V.id) || ((o.id == V.id) && V.cd i)
def Vw.base (V : Vw) (id : Int) : Vw := if V.id < id then Vw.fresh id else V
structure SeesQ (o : OpT) (x : Bool) (mode : Int) (i : Nat) (w : World) (vb : Nat) (V : Vw) (w' : World) (V' : Vw) : Prop where
  s : VSet w vb V w' V'
  sk : V.skips o i = true → V' = V
  id : V.skips o i = false → V'.id = o.id
  cp : V.skips o i = false → V'.cp = ((V.base o.id).cp || x)
  cd : V.skips o i = false → V'.cd = ((V.base o.id).close i).cd
  hd : V.skips o i = false → V'.hd = (V.base o.id).hd
  lgo : V.skips o i = false → ∀ j, j ≠ i → V'.lg j = (V.base o.id).lg j
  lgi : V.skips o i = false → mode ≠ 3 → V'.lg i = (V.base o.id).lg i
  lg3 : V.skips o i = false → mode = 3 → ∃ m p c, V'.lg i = ((V.base o.id).lg i).join m p c ∧ LT.Alk RT.Alike o.a m ∧ ∀ j, j < m.n → RT.In w' (fun k => w.heap.size ≤ k ∧ ¬ V'.C vb k) (m.item j)
  cpd : V.skips o i = false → x = true → V'.num = o.num ∧ LT.Alk VT.Alike o.l V'.cl ∧ LT.Alk RT.Alike o.q V'.pd ∧ LT.In elCell w' (fun k => w.heap.size ≤ k ∧ ¬ V'.C vb k) V'.cl ∧ LT.In elRec w' (fun k => w.heap.size ≤ k ∧ ¬ V'.C vb k) V'.pd
  ncp : V.skips o i = false → x = false → V'.num = (V.base o.id).num ∧ V'.cl = (V.base o.id).cl ∧ V'.pd = (V.base o.id).pd
theorem vfresh_set (id : Int) (w : World) (vb : Nat) (V : Vw) (hV : VwI w vb V) : VSet w vb V (((((((((((((((w.setCell ⟨vb, 0, none⟩ (.int .i64 id)).setCell ⟨vb, 1, none⟩ (.bool false)).setCell ⟨vb, 2, none⟩ (.int .i64 0)).setCell ⟨vb, 3, none⟩ (.slice none 0 0)).setCell ⟨vb, 4, none⟩ (.slice none 0 0)).setCell ⟨vb, 5, none⟩ (.bool false)).setCell ⟨vb, 6, none⟩ (.bool false)).setCell ⟨vb, 7, none⟩ (.bool false)).setCell ⟨vb, 8, none⟩ (.bool false)).setCell ⟨vb, 9, none⟩ (.slice none 0 0)).setCell ⟨vb, 10, none⟩ (.slice none 0 0)).setCell ⟨vb, 11, none⟩ (.slice none 0 0)).setCell ⟨vb, 12, none⟩ (.slice none 0 0)).setCell ⟨vb, 13, none⟩ (.bool false))) (Vw.fresh id) := by
  refine VwI.empty (fun i _ => ⟨rfl, rfl, rfl⟩) ?_ (((((((((((((((But.one w vb).setAt 0 (.int .i64 id)).setAt 1 (.bool false)).setAt 2 (.int .i64 0)).setAt 3 (.slice none 0 0)).setAt 4 (.slice none 0 0)).setAt 5 (.bool false)).setAt 6 (.bool false)).setAt 7 (.bool false)).setAt 8 (.bool false)).setAt 9 (.slice none 0 0)).setAt 10 (.slice none 0 0)).setAt 11 (.slice none 0 0)).setAt 12 (.slice none 0 0)).setAt 13 (.bool false))
  have h := ((((((((((((((hV.box).set 0 (.int .i64 id)).set 1 (.bool false)).set 2 (.int .i64 0)).set 3 (.slice none 0 0)).set 4 (.slice none 0 0)).set 5 (.bool false)).set 6 (.bool false)).set 7 (.bool false)).set 8 (.bool false)).set 9 (.slice none 0 0)).set 10 (.slice none 0 0)).set 11 (.slice none 0 0)).set 12 (.slice none 0 0)).set 13 (.bool false)
  have e : ((((((((((((((V.arr).setIfInBounds 0 (.int .i64 id)).setIfInBounds 1 (.bool false)).setIfInBounds 2 (.int .i64 0)).setIfInBounds 3 (.slice none 0 0)).setIfInBounds 4 (.slice none 0 0)).setIfInBounds 5 (.bool false)).setIfInBounds 6 (.bool false)).setIfInBounds 7 (.bool false)).setIfInBounds 8 (.bool false)).setIfInBounds 9 (.slice none 0 0)).setIfInBounds 10 (.slice none 0 0)).setIfInBounds 11 (.slice none 0 0)).setIfInBounds 12 (.slice none 0 0)).setIfInBounds 13 (.bool false) = (Vw.fresh id).arr := by simp [Vw.arr, Vw.fresh, nilL]
  rw [e] at h
  exact h
/-- what is in new blocks stays out of the way -/
theorem VwI.new {w : World} {vb k : Nat} {V : Vw} (h : VwI w vb V) (hk : w.heap.size ≤ k) : ¬ V.C vb k := fun e => by have := h.lt e; omega
theorem VSet.out {w w' : World} {b k : Nat} {K K' : Vw} (g : VSet w b K w' K') (hk : k < w.heap.size) (hn : ¬ K.C b k) : w'.heap[k]? = w.heap[k]? ∧ ¬ K'.C b k ∧ k < w'.heap.size :=
  ⟨g.but.block k hk hn, fun e => by rcases g.cs k e with h | h; exact hn h; omega, Nat.lt_of_lt_of_le hk g.but.size⟩
theorem VSet.inC {α : Type} {E : El α} {w w' : World} {b a : Nat} {K K' : Vw} {u : α} (g : VSet w b K w' K') (h : E.In w (fun k => a ≤ k ∧ ¬ K.C b k) u) : E.In w' (fun k => a ≤ k ∧ ¬ K'.C b k) u := by
  have h1 : E.In w (fun k => (a ≤ k ∧ ¬ K'.C b k) ∧ ¬ K.C b k) u := E.mono h fun k hk hl => ⟨⟨hk.1, (g.out hl hk.2).2.1⟩, hk.2⟩
  exact E.mono (E.kept h1 g.but.size fun k hk hl => g.but.block k hl hk.2) fun k hk _ => hk.1
def elCells : El (LT VT) where
  ty := 38
  size := 1
  cells := fun l => [.slice l.p l.n l.c]
  len := fun _ => rfl
  one := fun x u hu => by simp only [List.mem_singleton] at hu; subst hu; rfl
  In := LT.In elCell
  kept := fun h hs hb => h.kept hs hb
  mono := fun h hb => h.mono hb
end Go.Proofs.Ytdncnnjhfipokaa
