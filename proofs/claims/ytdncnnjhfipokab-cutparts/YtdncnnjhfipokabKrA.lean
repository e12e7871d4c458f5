import Derived.Test.YtdncnnjhfipokabPack15
namespace Go.Proofs.Ytdncnnjhfipokab
open Go.RowKit
set_option maxRecDepth 8000
/-- one thing that the document's book was told -/
structure TD where
  port : Int
  mark : Int
  r : RT
  a : LT RT
  num : Int
  l : LT VT
  q : LT RT
def TD.cells (o : TD) : List Value := [.int .i64 o.port, .int .i64 o.mark, .string o.r.key, .int .i64 o.r.v.kind, .int .i64 o.r.v.int, .string o.r.v.text, .slice o.r.v.p o.r.v.n o.r.v.c, .slice o.r.p o.r.n o.r.c, .slice o.a.p o.a.n o.a.c, .int .i64 o.num, .slice o.l.p o.l.n o.l.c, .slice o.q.p o.q.n o.q.c]
structure TD.In (w : World) (S : Nat → Prop) (o : TD) : Prop where
  r : o.mark = 0 → RT.In w S o.r
  a : LT.In elRec w S o.a
  l : LT.In elCell w S o.l
  q : LT.In elRec w S o.q
def elTd : El TD where
  ty := 90
  size := 12
  cells := TD.cells
  len := fun _ => rfl
  one := fun x u hu => by
    simp only [TD.cells, List.mem_cons, List.not_mem_nil, or_false] at hu
    rcases hu with rfl | rfl | rfl | rfl | rfl | rfl | rfl | rfl | rfl | rfl | rfl | rfl <;> rfl
  In := TD.In
  kept := fun h hs hb => ⟨fun e => (h.r e).kept hs hb, h.a.kept hs hb, h.l.kept hs hb, h.q.kept hs hb⟩
  mono := fun h hb => ⟨fun e => (h.r e).mono hb, h.a.mono hb, h.l.mono hb, h.q.mono hb⟩
def elTd0 : El TD := { elTd with In := fun _ _ _ => True, kept := fun _ _ _ => trivial, mono := fun _ _ => trivial }
/-- the document's book -/
structure Rb where
  mode : Int
  ports : Int
  back : Int
  last : Int
  ls : LT TD
  hd : Bool
def Rb.arr (R : Rb) : Array Value := #[.int .i64 R.mode, .int .i64 R.ports, .int .i64 R.back, .int .i64 R.last, .slice R.ls.p R.ls.n R.ls.c, .bool R.hd]
def Rb.lv (R : Rb) : Value := .slice R.ls.p R.ls.n R.ls.c
def Rb.C (R : Rb) (rb k : Nat) : Prop := k = rb ∨ R.lv.ownBlock = some k
def rowsT (l : LT TD) : List Value := (List.range l.n).flatMap fun j => elTd.cells (l.item j)
structure RbI (w : World) (rb : Nat) (R : Rb) : Prop where
  box : Box w rb R.arr 76
  own : w.ownsRow 0 90 12 R.lv R.ls.n (rowsT R.ls)
  ne : R.lv.ownBlock ≠ some rb
theorem RbI.kept {w w' : World} {b : Nat} {R : Rb} (h : RbI w b R) (hb : ∀ k, R.C b k → k < w.heap.size → w'.heap[k]? = w.heap[k]?) : RbI w' b R :=
  ⟨h.box.kept (hb b (.inl rfl) h.box.lt), ownsRow_keep h.own (fun k hk hl => hb k (.inr hk) hl), h.ne⟩
theorem RbI.below {w w' : World} {b : Nat} {R : Rb} (h : RbI w b R) (hb : Below w.heap.size w w') : RbI w' b R := h.kept fun k _ hl => hb.block k hl
theorem RbI.lt {w : World} {b : Nat} {R : Rb} (h : RbI w b R) {k : Nat} (hk : R.C b k) : k < w.heap.size := by
  rcases hk with rfl | e
  · exact h.box.lt
  · exact (h.own.lt k e).2
theorem RbI.list {w : World} {b : Nat} {R : Rb} (h : RbI w b R) (hn : R.ls.n ≤ 100000) : LT.In elTd0 w (fun k => R.C b k) R.ls :=
  own_in' (E := elTd0) h.own (fun _ hk => .inr hk) (fun _ _ => trivial) (by omega)
structure RSet (w : World) (b : Nat) (R : Rb) (w' : World) (R' : Rb) : Prop where
  inv : RbI w' b R'
  but : But (R.C b) w w'
  cs : ∀ k, R'.C b k → R.C b k ∨ w.heap.size ≤ k
theorem RSet.same {w w' : World} {b : Nat} {R : Rb} (h : RbI w b R) (hb : Below w.heap.size w w') : RSet w b R w' R := ⟨h.below hb, But.ofBelow hb, fun _ hk => .inl hk⟩
theorem RSet.trans {w w1 w2 : World} {b : Nat} {R R1 R2 : Rb} (h : RSet w b R w1 R1) (g : RSet w1 b R1 w2 R2) : RSet w b R w2 R2 := by
  refine ⟨g.inv, ⟨?_, ?_, ?_, ?_, ?_⟩, fun k hk => ?_⟩
  · exact g.but.os.trans h.but.os
  · exact g.but.tape.trans h.but.tape
  · exact g.but.output.trans h.but.output
  · exact Nat.le_trans h.but.size g.but.size
  · intro k hl hn
    exact (g.but.block k (Nat.lt_of_lt_of_le hl h.but.size) (fun e => by rcases h.cs k e with h1 | h1; exact hn h1; omega)).trans (h.but.block k hl hn)
  · rcases g.cs k hk with h1 | h1
    · exact h.cs k h1
    · exact .inr (Nat.le_trans h.but.size h1)
theorem RSet.out {w w' : World} {b k : Nat} {R R' : Rb} (g : RSet w b R w' R') (hk : k < w.heap.size) (hn : ¬ R.C b k) : w'.heap[k]? = w.heap[k]? ∧ ¬ R'.C b k ∧ k < w'.heap.size :=
  ⟨g.but.block k hk hn, fun e => by rcases g.cs k e with h | h; exact hn h; omega, Nat.lt_of_lt_of_le hk g.but.size⟩
/-- its own cells changed, its list not -/
theorem RbI.chg {w w2 : World} {b : Nat} {R R' : Rb} (h : RbI w b R) (hls : R'.ls = R.ls) (hbox : Box w2 b R'.arr 76) (hbut : But (fun k => k = b) w w2) : RSet w b R w2 R' := by
  have hlv : R'.lv = R.lv := by unfold Rb.lv; rw [hls]
  refine ⟨⟨hbox, ?_, by rw [hlv]; exact h.ne⟩, ⟨hbut.os, hbut.tape, hbut.output, hbut.size, fun k hl hn => hbut.block k hl (fun e => hn (.inl e))⟩, fun k hk => .inl ?_⟩
  · rw [hlv, hls]
    exact ownsRow_keep h.own (fun k hk hl => hbut.block k hl (fun e => h.ne (by rw [hk, e])))
  · rcases hk with e | e
    · exact .inl e
    · exact .inr (by rw [← hlv]; exact e)
/-- the list let go -/
theorem RbI.empty {w w2 : World} {b : Nat} {R R' : Rb} (hls : R'.ls.p = none ∧ R'.ls.n = 0 ∧ R'.ls.c = 0) (hbox : Box w2 b R'.arr 76) (hbut : But (fun k => k = b) w w2) : RSet w b R w2 R' := by
  obtain ⟨e1, e2, e3⟩ := hls
  have hlv : R'.lv = .slice none 0 0 := by unfold Rb.lv; rw [e1, e2, e3]
  refine ⟨⟨hbox, ?_, by rw [hlv]; intro e; cases e⟩, ⟨hbut.os, hbut.tape, hbut.output, hbut.size, fun k hl hn => hbut.block k hl (fun e => hn (.inl e))⟩, fun k hk => .inl ?_⟩
  · rw [hlv, e2, show rowsT R'.ls = [] by unfold rowsT; rw [e2]; rfl]
    exact World.ownsRow_nil _ _ _ _
  · rcases hk with e | e
    · exact .inl e
    · rw [hlv] at e; cases e
/-- one thing more -/
def Rb.push (R : Rb) (p : Option Addr) (c : Nat) (t : TD) : Rb := { R with ls := R.ls.push p c t }
theorem rowsT_push (l : LT TD) (p : Option Addr) (c : Nat) (u : TD) : rowsT (l.push p c u) = rowsT l ++ elTd.cells u := by
  unfold rowsT LT.push
  simp only
  rw [List.range_succ, List.flatMap_append]
  congr 1
  · rw [List.flatMap_def, List.flatMap_def]
    congr 1
    apply List.map_congr_left
    intro j hj
    rw [if_pos (List.mem_range.1 hj)]
  · simp
theorem RbI.pushed {w w1 w2 : World} {b : Nat} {R : Rb} {p : Option Addr} {c : Nat} {t : TD} (h : RbI w b R) (hb : Below w.heap.size w w1) (ho : w2.ownsRow 0 90 12 (.slice p (R.ls.n + 1) c) (R.ls.n + 1) (rowsT R.ls ++ elTd.cells t)) (hg : w1.grownBy w2 R.lv.ownBlock) (hn : Near w1 R.lv (.slice p (R.ls.n + 1) c)) :
    RSet w b R (w2.setCell ⟨b, 4, none⟩ (.slice p (R.ls.n + 1) c)) (R.push p c t) := by
  have h1 := h.below hb
  have hlt : ∀ k, R.C b k → k < w1.heap.size := fun k hk => Nat.lt_of_lt_of_le (h.lt hk) hb.size
  have hbx : Box w2 b R.arr 76 := h1.box.kept (hg.block b h1.box.lt (fun e => h.ne e.symm))
  have hvb : (Value.slice p (R.ls.n + 1) c).ownBlock ≠ some b := fun e => by
    rcases hn with h2 | h2
    · exact h.ne (by rw [← h2]; exact e)
    · have := h2 b e; have := h1.box.lt; omega
  rw [← rowsT_push R.ls p c t] at ho
  refine ⟨⟨?_, ?_, hvb⟩, ⟨?_, ?_, ?_, ?_, fun k hl hk => ?_⟩, fun k hk => ?_⟩
  · have := hbx.set 4 (.slice p (R.ls.n + 1) c)
    exact this
  · exact ownsRow_keep ho (fun k hk _ => Below.heap_setCell _ _ _ _ (fun e => hvb (by have e2 : k = b := (by simp only at e; omega); rw [← e2]; exact hk)))
  · exact hg.os.trans hb.os
  · exact hg.tape.trans hb.tape
  · exact hg.output.trans hb.output
  · have h3 := hg.size; have h4 := hb.size; have h5 : (w2.setCell ⟨b, 4, none⟩ (.slice p (R.ls.n + 1) c)).heap.size = w2.heap.size := by simp [World.setCell]
    omega
  · rw [Below.heap_setCell _ _ _ _ (fun e => hk (.inl (by simp only at e; omega)))]
    exact (hg.block k (Nat.lt_of_lt_of_le hl hb.size) (fun e => hk (.inr e.symm))).trans (hb.block k hl)
  · rcases hk with e | e
    · exact .inl (.inl e)
    · rcases hn with h2 | h2
      · exact .inl (.inr (by rw [← h2]; exact e))
      · exact .inr (Nat.le_trans hb.size (h2 k e))
theorem TD.apart {w w1 w2 : World} {b : Nat} {R : Rb} {p : Option Addr} {c : Nat} {t : TD} (h : RbI w b R) (hu : TD.In w1 (fun k => w.heap.size ≤ k) t) (hg : w1.grownBy w2 R.lv.ownBlock) (hn : Near w1 R.lv (.slice p (R.ls.n + 1) c)) :
    TD.In (w2.setCell ⟨b, 4, none⟩ (.slice p (R.ls.n + 1) c)) (fun k => w.heap.size ≤ k ∧ ¬ (R.push p c t).C b k) t := by
  have hu2 : TD.In w1 (fun k => w.heap.size ≤ k ∧ ¬ (R.push p c t).C b k) t := elTd.mono hu fun k hk hl => by
    refine ⟨hk, fun e => ?_⟩
    rcases e with rfl | e
    · have := h.box.lt; omega
    · rcases hn with h2 | h2
      · have := (h.own.lt k (by rw [← h2]; exact e)).2; omega
      · have := h2 k e; omega
  refine elTd.kept (elTd.kept hu2 hg.size (fun k hk hl => hg.block k hl (fun e => ?_))) (by simp [World.setCell]) (fun k hk _ => Below.heap_setCell _ _ _ _ (fun e => ?_))
  · have := (h.own.lt k e.symm).2; omega
  · have := h.box.lt; simp only at e; omega
end Go.Proofs.Ytdncnnjhfipokab
