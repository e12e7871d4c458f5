import Derived.Test.YtkfcilandmhomaaDoorRows
import Derived.Lib.LaidIn
import Derived.WalkKit
import Derived.WalkSpells
import Derived.WalkLawsBesides
import Derived.Deep.RegionWith
import Derived.Laws.AppendOwnNone
import Derived.WideKeyMaps
import Derived.DeepKeys4
namespace Go.Proofs.YtkfcilandmhomaaDoor
open Go
set_option maxRecDepth 8000
def putCells (cs : Array Value) : Obj → Obj
  | .cells _ t frozen => .cells cs t frozen
  | o => o
/-- the integers of a listed datum -/
def datumCells : DataW Unit → Array Value
  | .agg ds => (ds.flatMap fun
    | .lit (.int k z) => [Value.int k z]
    | .agg es => es.flatMap fun
      | .lit (.int k z) => [Value.int k z]
      | _ => []
    | _ => []).toArray
  | _ => #[]
/-- FOR THE WITNESS: a world, the two tables holding what their initialisers lay -/
noncomputable def layTabs (w : World) : World :=
  { w with heap := (w.heap.modify 1 (putCells (datumCells Rows.laid_unicode_utf8_first))).modify 2 (putCells (datumCells Rows.laid_unicode_utf8_acceptRanges)) }
end Go.Proofs.YtkfcilandmhomaaDoor

namespace Go.Proofs.YtkfcilandmhomaaDoor
open Go.RowKit
set_option maxRecDepth 8000

/-- a value with the addresses of its lists -/
inductive VT where
  | nil
  | mk (kind int : Int) (text : ByteArray) (n : Nat) (p : Option Addr) (c : Nat) (item : Nat → VT)
namespace VT
def kind : VT → Int | nil => 0 | mk k _ _ _ _ _ _ => k
def int : VT → Int | nil => 0 | mk _ i _ _ _ _ _ => i
def text : VT → ByteArray | nil => ⟨#[]⟩ | mk _ _ s _ _ _ _ => s
def n : VT → Nat | nil => 0 | mk _ _ _ n _ _ _ => n
def p : VT → Option Addr | nil => none | mk _ _ _ _ p _ _ => p
def c : VT → Nat | nil => 0 | mk _ _ _ _ _ c _ => c
def item : VT → Nat → VT | nil => fun _ => nil | mk _ _ _ _ _ _ f => f
section
variable (a b : Int) (s : ByteArray) (n : Nat) (q : Option Addr) (d : Nat) (f : Nat → VT)
theorem kind_mk : (mk a b s n q d f).kind = a := rfl
theorem int_mk : (mk a b s n q d f).int = b := rfl
theorem text_mk : (mk a b s n q d f).text = s := rfl
theorem n_mk : (mk a b s n q d f).n = n := rfl
theorem p_mk : (mk a b s n q d f).p = q := rfl
theorem c_mk : (mk a b s n q d f).c = d := rfl
theorem item_mk : (mk a b s n q d f).item = f := rfl
end
/-- the slice of its items -/
def row (t : VT) : Value := .slice t.p t.n t.c
/-- its four cells -/
def cells (t : VT) : List Value := [.int .i64 t.kind, .int .i64 t.int, .string t.text, .slice t.p t.n t.c]
/-- itself -/
def val (t : VT) : Value := .agg #[.int .i64 t.kind, .int .i64 t.int, .string t.text, .slice t.p t.n t.c]
/-- how many parts lie below it -/
def total : VT → Nat | nil => 0 | mk _ _ _ n _ _ f => n + ((List.range n).map fun j => total (f j)).sum
/-- the same, wherever the lists lie -/
def Alike : VT → VT → Prop
  | nil, t => t = nil
  | mk k i s n _ _ f, t => t.kind = k ∧ t.int = i ∧ t.text = s ∧ t.n = n ∧ ∀ j, j < n → Alike (f j) (t.item j)
/-- the four cells from the place o of block b on -/
structure At (w : World) (b o : Nat) (t : VT) : Prop where
  c0 : w.cell? ⟨b, o, none⟩ = some (.int .i64 t.kind)
  c1 : w.cell? ⟨b, o + 1, none⟩ = some (.int .i64 t.int)
  c2 : w.cell? ⟨b, o + 2, none⟩ = some (.string t.text)
  c3 : w.cell? ⟨b, o + 3, none⟩ = some (.slice t.p t.n t.c)
/-- numbers and lengths are such as Go has -/
structure Fit (t : VT) : Prop where
  k0 : -9223372036854775808 ≤ t.kind
  k1 : t.kind ≤ 9223372036854775807
  i0 : -9223372036854775808 ≤ t.int
  i1 : t.int ≤ 9223372036854775807
  s1 : t.text.size ≤ 140737488355328
  nc : t.n ≤ t.c
  nn : t.n ≤ 140737488355328
  cc : t.c ≤ maxLen
  nil : t.p = none → t.n = 0 ∧ t.c = 0
/-- its lists lie in w, in blocks of S -/
def In (w : World) (S : Nat → Prop) : VT → Prop
  | nil => False
  | mk k i s n p c f => Fit (mk k i s n p c f) ∧ (0 < n → ∃ b o, p = some ⟨b, o, none⟩ ∧ S b ∧ b < w.heap.size ∧ ∀ j, j < n → At w b (o + j * 4) (f j)) ∧ ∀ j, j < n → In w S (f j)

theorem In.fit {w : World} {S : Nat → Prop} {t : VT} (h : In w S t) : Fit t := by
  cases t with
  | nil => exact h.elim
  | mk => exact h.1
theorem In.at_ {w : World} {S : Nat → Prop} {t : VT} (h : In w S t) (hn : 0 < t.n) : ∃ b o, t.p = some ⟨b, o, none⟩ ∧ S b ∧ b < w.heap.size ∧ ∀ j, j < t.n → At w b (o + j * 4) (t.item j) := by
  cases t with
  | nil => exact h.elim
  | mk => exact h.2.1 hn
theorem In.sub {w : World} {S : Nat → Prop} {t : VT} (h : In w S t) {j : Nat} (hj : j < t.n) : In w S (t.item j) := by
  cases t with
  | nil => exact h.elim
  | mk => exact h.2.2 j hj
theorem In.mk_ {w : World} {S : Nat → Prop} {t : VT} (h : In w S t) : ∃ k i s n p c f, t = mk k i s n p c f := by
  cases t with
  | nil => exact h.elim
  | mk k i s n p c f => exact ⟨k, i, s, n, p, c, f, rfl⟩

theorem At.kept {w w' : World} {b o : Nat} {t : VT} (h : At w b o t) (hb : w'.heap[b]? = w.heap[b]?) : At w' b o t :=
  ⟨(World.cell?_of_block (a := ⟨b, o, none⟩) hb).trans h.c0, (World.cell?_of_block (a := ⟨b, o + 1, none⟩) hb).trans h.c1, (World.cell?_of_block (a := ⟨b, o + 2, none⟩) hb).trans h.c2, (World.cell?_of_block (a := ⟨b, o + 3, none⟩) hb).trans h.c3⟩

theorem In.kept {w w' : World} {S : Nat → Prop} : ∀ {t : VT}, In w S t → w.heap.size ≤ w'.heap.size → (∀ b, S b → b < w.heap.size → w'.heap[b]? = w.heap[b]?) → In w' S t := by
  intro t
  induction t with
  | nil => intro h _ _; exact h.elim
  | mk k i s n p c f ih =>
    intro h hs hb
    refine ⟨h.1, fun hn => ?_, fun j hj => ih j (h.2.2 j hj) hs hb⟩
    obtain ⟨b, o, e, hS, hlt, ha⟩ := h.2.1 hn
    exact ⟨b, o, e, hS, Nat.lt_of_lt_of_le hlt hs, fun j hj => (ha j hj).kept (hb b hS hlt)⟩
theorem In.mono {w : World} {S S' : Nat → Prop} : ∀ {t : VT}, In w S t → (∀ b, S b → b < w.heap.size → S' b) → In w S' t := by
  intro t
  induction t with
  | nil => intro h _; exact h.elim
  | mk k i s n p c f ih =>
    intro h hb
    refine ⟨h.1, fun hn => ?_, fun j hj => ih j (h.2.2 j hj) hb⟩
    obtain ⟨b, o, e, hS, hlt, ha⟩ := h.2.1 hn
    exact ⟨b, o, e, hb b hS hlt, hlt, ha⟩

theorem Alike.refl : ∀ t : VT, Alike t t := by
  intro t
  induction t with
  | nil => rfl
  | mk k i s n p c f ih => exact ⟨rfl, rfl, rfl, rfl, fun j _ => ih j⟩
theorem Alike.kind {t u : VT} (h : Alike t u) : u.kind = t.kind := by
  cases t with
  | nil => rw [show u = nil from h]
  | mk => exact h.1
theorem Alike.int {t u : VT} (h : Alike t u) : u.int = t.int := by
  cases t with
  | nil => rw [show u = nil from h]
  | mk => exact h.2.1
theorem Alike.text {t u : VT} (h : Alike t u) : u.text = t.text := by
  cases t with
  | nil => rw [show u = nil from h]
  | mk => exact h.2.2.1
theorem Alike.n {t u : VT} (h : Alike t u) : u.n = t.n := by
  cases t with
  | nil => rw [show u = nil from h]
  | mk => exact h.2.2.2.1
theorem Alike.item {t u : VT} (h : Alike t u) {j : Nat} (hj : j < t.n) : Alike (t.item j) (u.item j) := by
  cases t with
  | nil => exact absurd hj (Nat.not_lt_zero j)
  | mk => exact h.2.2.2.2 j hj
theorem Alike.trans : ∀ {t u v : VT}, Alike t u → Alike u v → Alike t v := by
  intro t
  induction t with
  | nil =>
    intro u v h g
    rw [show u = nil from h] at g
    exact g
  | mk k i s n p c f ih =>
    intro u v h g
    refine ⟨g.kind.trans h.1, g.int.trans h.2.1, g.text.trans h.2.2.1, g.n.trans h.2.2.2.1, fun j hj => ih j (h.2.2.2.2 j hj) (g.item ?_)⟩
    rw [h.2.2.2.1]; exact hj

theorem Alike.symm {w : World} {S : Nat → Prop} : ∀ {t u : VT}, Alike t u → In w S u → Alike u t := by
  intro t
  induction t with
  | nil =>
    intro u h hu
    rw [show u = nil from h] at hu
    exact hu.elim
  | mk k i s n p c f ih =>
    intro u h hu
    obtain ⟨k2, i2, s2, n2, p2, c2, f2, rfl⟩ := hu.mk_
    have hn : n2 = n := h.2.2.2.1
    exact ⟨h.1.symm, h.2.1.symm, h.2.2.1.symm, hn.symm, fun j hj => ih j (h.2.2.2.2 j (by omega)) (hu.sub hj)⟩

theorem total_eq (t : VT) : t.total = t.n + ((List.range t.n).map fun j => (t.item j).total).sum := by cases t <;> rfl
/-- the parts below the first i items -/
def upto (t : VT) (i : Nat) : Nat := ((List.range i).map fun j => (t.item j).total).sum
theorem upto_zero (t : VT) : t.upto 0 = 0 := rfl
theorem upto_succ (t : VT) (i : Nat) : t.upto (i + 1) = t.upto i + (t.item i).total := by simp [upto, List.range_succ]
theorem total_upto (t : VT) : t.total = t.n + t.upto t.n := total_eq t
theorem upto_mono (t : VT) {i j : Nat} (h : i ≤ j) : t.upto i ≤ t.upto j := by
  induction h with
  | refl => exact Nat.le_refl _
  | step _ ih => rw [upto_succ]; omega
theorem item_total (t : VT) {j : Nat} (h : j < t.n) : (t.item j).total ≤ t.total := by
  have h1 := upto_mono t (show j + 1 ≤ t.n from h)
  rw [upto_succ] at h1
  rw [total_upto t]; omega
end VT

/-- what w holds w' holds too, but for the blocks of X -/
structure But (X : Nat → Prop) (w w' : World) : Prop where
  os : w'.os = w.os
  tape : w'.tape = w.tape
  output : w'.output = w.output
  size : w.heap.size ≤ w'.heap.size
  block : ∀ k, k < w.heap.size → ¬ X k → w'.heap[k]? = w.heap[k]?
theorem But.refl (X : Nat → Prop) (w : World) : But X w w := ⟨rfl, rfl, rfl, Nat.le_refl _, fun _ _ _ => rfl⟩
theorem But.trans {X : Nat → Prop} {a b c : World} (h : But X a b) (k : But X b c) : But X a c :=
  ⟨k.os.trans h.os, k.tape.trans h.tape, k.output.trans h.output, Nat.le_trans h.size k.size, fun i hi hx => (k.block i (Nat.lt_of_lt_of_le hi h.size) hx).trans (h.block i hi hx)⟩
theorem But.mono {X Y : Nat → Prop} {w w' : World} (h : But X w w') (hx : ∀ k, k < w.heap.size → X k → Y k) : But Y w w' :=
  ⟨h.os, h.tape, h.output, h.size, fun k hk hy => h.block k hk fun e => hy (hx k hk e)⟩
theorem But.drew {X : Nat → Prop} {a w : World} (h : But X a w) : But X a w.drew := ⟨h.os, h.tape, h.output, h.size, h.block⟩
theorem But.alloc {X : Nat → Prop} {a w : World} (h : But X a w) (o : Obj) : But X a (w.alloc o) :=
  h.trans ⟨rfl, rfl, rfl, by simp, fun k hk _ => Below.heap_alloc _ _ _ hk⟩
theorem But.grown {X : Nat → Prop} {a w w' : World} {row : Option Nat} (h : But X a w) (hg : w.grownBy w' row) (hr : ∀ k, row = some k → k < a.heap.size → X k) : But X a w' :=
  ⟨hg.os.trans h.os, hg.tape.trans h.tape, hg.output.trans h.output, Nat.le_trans h.size hg.size, fun k hk hx => (hg.block k (Nat.lt_of_lt_of_le hk h.size) (fun e => hx (hr k e.symm hk))).trans (h.block k hk hx)⟩
theorem But.setCell {X : Nat → Prop} {a w : World} (h : But X a w) {p : Addr} (hp : p.block < a.heap.size → X p.block) (u : Value) : But X a (w.setCell p u) :=
  ⟨h.os, h.tape, h.output, (by simpa [World.setCell] using h.size), fun k hk hx => (Below.heap_setCell _ _ _ _ (fun e => hx (by subst e; exact hp hk))).trans (h.block k hk hx)⟩
theorem But.below {X : Nat → Prop} {B : Nat} {w w' : World} (h : But X w w') (hB : B ≤ w.heap.size) (hx : ∀ k, k < B → ¬ X k) : Below B w w' :=
  ⟨h.os, h.tape, h.output, h.size, fun k hk => h.block k (Nat.lt_of_lt_of_le hk hB) (hx k hk)⟩
theorem But.ofBelow {X : Nat → Prop} {w w' : World} (h : Below w.heap.size w w') : But X w w' :=
  ⟨h.os, h.tape, h.output, h.size, fun k hk _ => h.block k hk⟩
theorem VT.In.but {w w' : World} {S X : Nat → Prop} {t : VT} (h : VT.In w S t) (hb : But X w w') (hx : ∀ b, S b → b < w.heap.size → ¬ X b) : VT.In w' S t :=
  h.kept hb.size fun b hS hlt => hb.block b hlt (hx b hS hlt)
theorem VT.In.below {w w' : World} {S : Nat → Prop} {t : VT} (h : VT.In w S t) (hb : Below w.heap.size w w') : VT.In w' S t :=
  h.kept hb.size fun b _ hlt => hb.block b hlt

/-- block b holds these cells, none of them frozen -/
def Box (w : World) (b : Nat) (cs : Array Value) (e : TypeId) : Prop := w.heap[b]? = some (.cells cs e (0, 0))
theorem Box.lt {w : World} {b : Nat} {cs : Array Value} {e : TypeId} (h : Box w b cs e) : b < w.heap.size := by
  rcases Nat.lt_or_ge b w.heap.size with h1 | h1
  · exact h1
  · unfold Box at h; rw [Array.getElem?_eq_none h1] at h; cases h
theorem Box.cell {w : World} {b : Nat} {cs : Array Value} {e : TypeId} (h : Box w b cs e) (o : Nat) : w.cell? ⟨b, o, none⟩ = cs[o]? := by
  unfold Box at h; simp [World.cell?, h]
theorem Box.frozen {w : World} {b : Nat} {cs : Array Value} {e : TypeId} (h : Box w b cs e) (o : Nat) : w.frozen? ⟨b, o, none⟩ = false := by
  unfold Box at h; simp [World.frozen?, h]
theorem Box.set {w : World} {b : Nat} {cs : Array Value} {e : TypeId} (h : Box w b cs e) (o : Nat) (u : Value) : Box (w.setCell ⟨b, o, none⟩ u) b (cs.setIfInBounds o u) e := by
  have hl := h.lt
  unfold Box at h ⊢
  simp [World.setCell, Array.getElem?_modify, h]
theorem Box.kept {w w' : World} {b : Nat} {cs : Array Value} {e : TypeId} (h : Box w b cs e) (hb : w'.heap[b]? = w.heap[b]?) : Box w' b cs e := hb.trans h
theorem Box.but {w w' : World} {X : Nat → Prop} {b : Nat} {cs : Array Value} {e : TypeId} (h : Box w b cs e) (hb : But X w w') (hx : ¬ X b) : Box w' b cs e := h.kept (hb.block b h.lt hx)
theorem Box.below {w w' : World} {b : Nat} {cs : Array Value} {e : TypeId} (h : Box w b cs e) (hb : Below w.heap.size w w') : Box w' b cs e := h.kept (hb.block b h.lt)
theorem Box.new (w : World) (cs : Array Value) (e : TypeId) : Box (w.alloc (.cells cs e)) w.heap.size cs e := by
  show (w.heap.push _)[w.heap.size]? = _
  simp
end Go.Proofs.YtkfcilandmhomaaDoor

namespace Go.Proofs.YtkfcilandmhomaaDoor
open Go.RowKit
set_option maxRecDepth 8000
/-- the i-th byte of a label whose name is s -/
def bat (s : ByteArray) (i : Nat) : Int := if h : i < s.size then (s[i].toNat : Int) else 0
theorem bat_bd (s : ByteArray) (i : Nat) : 0 ≤ bat s i ∧ bat s i ≤ 255 := by
  unfold bat
  split
  · have := (s[i]).toNat_lt; omega
  · omega
def labC (s : ByteArray) : List Value := [.int .u8 (bat s 0), .int .u8 (bat s 1), .int .u8 (bat s 2), .int .u8 (bat s 3), .int .u8 (bat s 4), .int .u8 (bat s 5), .int .u8 (bat s 6), .int .u8 (bat s 7), .int .u8 (bat s 8), .int .u8 (bat s 9), .int .u8 (bat s 10), .int .u8 (bat s 11)]
def labV (s : ByteArray) : Value := .agg (labC s).toArray
theorem laidOut : laidOutB Tryd.prog = true := by kernel_rfl
theorem labRow : 69 < Tryd.prog.types.size := of_decide_eq_true (by kernel_rfl)
theorem labWide : (match Tryd.prog.underlying 69 with | some (.array _ _) | some (.struct _) => true | _ => false) = true := by kernel_rfl
theorem labLaw : WideMaps.KeyLaw Tryd.prog 69 := deep_law_laid laidOut (m := 2) (by omega) labRow (by kernel_rfl) labWide
theorem lab_key (s : ByteArray) : ∃ l, keyOf Tryd.prog 69 (labV s) = some l := by
  have hT : Tryd.prog.keyType 69 = true := by kernel_rfl
  have hn : ∃ d, Tryd.prog.types.size + 1 = d + 2 := ⟨Tryd.prog.types.size - 1, by have := labRow; omega⟩
  obtain ⟨d, hd⟩ := hn
  have c1 : Tryd.prog.cellsOf 69 = 12 := by kernel_rfl
  have c2 : Tryd.prog.cellsOf 5 = 1 := by kernel_rfl
  have hw : ∀ i, (Lit.int .u8 (bat s i)).wf = true := fun i => by
    have := bat_bd s i
    have h1 : IntKind.u8.min = 0 := rfl
    have h2 : IntKind.u8.max = 255 := rfl
    simp only [Lit.wf, h1, h2, Bool.and_eq_true, decide_eq_true_eq]
    exact this
  unfold keyOf
  rw [Tryd.underlying69]
  simp only [hT, Bool.true_and, hd]
  have hr : List.range 12 = [0, 1, 2, 3, 4, 5, 6, 7, 8, 9, 10, 11] := rfl
  simp [labV, labC, Value.formed, Program.keyLits, Tryd.underlying69, Tryd.underlying5, c1, c2, hw, Value.cells, hr]
theorem lab_inj {s t : ByteArray} (h : labV s = labV t) (i : Nat) (hi : i < 12) : bat s i = bat t i := by
  simp only [labV, Value.agg.injEq] at h
  have h2 := congrArg Array.toList h
  simp only [labC, List.cons.injEq, Value.int.injEq, true_and, and_true] at h2
  match i, hi with
  | 0, _ => exact h2.1
  | 1, _ => exact h2.2.1
  | 2, _ => exact h2.2.2.1
  | 3, _ => exact h2.2.2.2.1
  | 4, _ => exact h2.2.2.2.2.1
  | 5, _ => exact h2.2.2.2.2.2.1
  | 6, _ => exact h2.2.2.2.2.2.2.1
  | 7, _ => exact h2.2.2.2.2.2.2.2.1
  | 8, _ => exact h2.2.2.2.2.2.2.2.2.1
  | 9, _ => exact h2.2.2.2.2.2.2.2.2.2.1
  | 10, _ => exact h2.2.2.2.2.2.2.2.2.2.2.1
  | 11, _ => exact h2.2.2.2.2.2.2.2.2.2.2.2
/-- what a byte of a file's name may be -/
def okB (x : Nat) : Bool := (97 ≤ x && x ≤ 122) || (48 ≤ x && x ≤ 57) || x == 45
/-- a file's name -/
structure Nm (s : ByteArray) : Prop where
  pos : 0 < s.size
  le : s.size ≤ 12
  ok : ∀ i (h : i < s.size), okB (s[i]).toNat = true
theorem okB_pos {x : Nat} (h : okB x = true) : 0 < x := by
  simp [okB] at h
  omega
theorem lab_eq {s t : ByteArray} (hs : Nm s) (ht : Nm t) (h : labV s = labV t) : s = t := by
  have hb := lab_inj h
  have hsz : s.size = t.size := by
    rcases Nat.lt_trichotomy s.size t.size with h1 | h1 | h1
    · have h2 := hb s.size (by have := ht.le; omega)
      unfold bat at h2
      rw [dif_neg (by omega), dif_pos h1] at h2
      have := okB_pos (ht.ok _ h1)
      omega
    · exact h1
    · have h2 := hb t.size (by have := hs.le; omega)
      unfold bat at h2
      rw [dif_pos h1, dif_neg (by omega)] at h2
      have := okB_pos (hs.ok _ h1)
      omega
  apply ByteArray.ext
  apply Array.ext
  · exact hsz
  · intro i h1 h2
    have h3 := hb i (by have := hs.le; have : s.size = s.data.size := rfl; omega)
    unfold bat at h3
    rw [dif_pos (show i < s.size from h1), dif_pos (show i < t.size from h2)] at h3
    have h4 : (s[i]).toNat = (t[i]).toNat := by omega
    exact UInt8.toNat_inj.1 h4
end Go.Proofs.YtkfcilandmhomaaDoor
