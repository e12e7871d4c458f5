import Derived.Test.YtgnamngnmbaeeaaDoorPack4
import Derived.Test.YtgnamngnmbaeeaaDoorRows
import Derived.WalkKit
import Derived.WalkSpells
import Derived.WalkLawsBesides
import Derived.Deep.RegionWith
import Derived.Laws.AppendOwnNone
import Derived.ArgAppend
import Derived.Deep.RegionLaw
namespace Go.Proofs.YtgnamngnmbaeeaaDoor
open Go.RowKit
set_option maxRecDepth 8000

/-- what Wrap gives, as a frame -/
theorem wrap_any (p : Option Addr) (n c : Nat) (zs : List Int) (w : World) (hn : zs.length = n) (hB : Bytes w p zs) (hp : p = none → n = 0 ∧ c = 0) (hT : Tab w) (hm : n ≤ 32768) :
    Calls Tryd.prog 71 #[.slice p n c] w fun e w' => ∃ a c', e = .returned (.tuple #[.slice a (n + 8) c', .int .i64 0]) ∧ OwnB w.heap.size w' a c' (frameOf zs) ∧ Below w.heap.size w w' := by
  refine (wrap_short p n c zs w hn hB hp hT hm).mono ?_
  rintro e w' ⟨a, c', rfl, hO, hb⟩
  refine ⟨a, c', rfl, ?_, hb⟩
  unfold frameOf
  rw [hn]
  exact hO

end Go.Proofs.YtgnamngnmbaeeaaDoor

namespace Go.Proofs.YtgnamngnmbaeeaaDoor
open Go.RowKit
set_option maxRecDepth 8000

/-- a value with the addresses of its lists -/
inductive VT where
  | nil
  | mk (kind int : Int) (text : ByteArray) (n : Nat) (p : Option Addr) (c : Nat) (item : Nat → VT)
namespace VT
def kind : VT → Int | nil => 0 | mk k _ _ _ _ _ _ => k
def int : VT → Int | nil => 0 | mk _ i _ _ _ _ _ => i
def text : VT → ByteArray | nil => ⟨#[]⟩ | mk _ _ s _ _ _ _ => s
def n : VT → Nat | nil => 0 | mk _ _ _ n _ _ _ => n
def p : VT → Option Addr | nil => none | mk _ _ _ _ p _ _ => p
def c : VT → Nat | nil => 0 | mk _ _ _ _ _ c _ => c
def item : VT → Nat → VT | nil => fun _ => nil | mk _ _ _ _ _ _ f => f
section
variable (a b : Int) (s : ByteArray) (n : Nat) (q : Option Addr) (d : Nat) (f : Nat → VT)
theorem kind_mk : (mk a b s n q d f).kind = a := rfl
theorem int_mk : (mk a b s n q d f).int = b := rfl
theorem text_mk : (mk a b s n q d f).text = s := rfl
theorem n_mk : (mk a b s n q d f).n = n := rfl
theorem p_mk : (mk a b s n q d f).p = q := rfl
theorem c_mk : (mk a b s n q d f).c = d := rfl
theorem item_mk : (mk a b s n q d f).item = f := rfl
end
/-- the slice of its items -/
def row (t : VT) : Value := .slice t.p t.n t.c
/-- its four cells -/
def cells (t : VT) : List Value := [.int .i64 t.kind, .int .i64 t.int, .string t.text, .slice t.p t.n t.c]
/-- itself -/
def val (t : VT) : Value := .agg #[.int .i64 t.kind, .int .i64 t.int, .string t.text, .slice t.p t.n t.c]
/-- how many parts lie below it -/
def total : VT → Nat | nil => 0 | mk _ _ _ n _ _ f => n + ((List.range n).map fun j => total (f j)).sum
/-- the same, wherever the lists lie -/
def Alike : VT → VT → Prop
  | nil, t => t = nil
  | mk k i s n _ _ f, t => t.kind = k ∧ t.int = i ∧ t.text = s ∧ t.n = n ∧ ∀ j, j < n → Alike (f j) (t.item j)
/-- the four cells from the place o of block b on -/
structure At (w : World) (b o : Nat) (t : VT) : Prop where
  c0 : w.cell? ⟨b, o, none⟩ = some (.int .i64 t.kind)
  c1 : w.cell? ⟨b, o + 1, none⟩ = some (.int .i64 t.int)
  c2 : w.cell? ⟨b, o + 2, none⟩ = some (.string t.text)
  c3 : w.cell? ⟨b, o + 3, none⟩ = some (.slice t.p t.n t.c)
/-- numbers and lengths are such as Go has -/
structure Fit (t : VT) : Prop where
  k0 : -9223372036854775808 ≤ t.kind
  k1 : t.kind ≤ 9223372036854775807
  i0 : -9223372036854775808 ≤ t.int
  i1 : t.int ≤ 9223372036854775807
  s1 : t.text.size ≤ 140737488355328
  nc : t.n ≤ t.c
  nn : t.n ≤ 140737488355328
  cc : t.c ≤ maxLen
  nil : t.p = none → t.n = 0 ∧ t.c = 0
/-- its lists lie in w, in blocks of S -/
def In (w : World) (S : Nat → Prop) : VT → Prop
  | nil => False
  | mk k i s n p c f => Fit (mk k i s n p c f) ∧ (0 < n → ∃ b o, p = some ⟨b, o, none⟩ ∧ S b ∧ b < w.heap.size ∧ ∀ j, j < n → At w b (o + j * 4) (f j)) ∧ ∀ j, j < n → In w S (f j)

theorem In.fit {w : World} {S : Nat → Prop} {t : VT} (h : In w S t) : Fit t := by
  cases t with
  | nil => exact h.elim
  | mk => exact h.1
theorem In.at_ {w : World} {S : Nat → Prop} {t : VT} (h : In w S t) (hn : 0 < t.n) : ∃ b o, t.p = some ⟨b, o, none⟩ ∧ S b ∧ b < w.heap.size ∧ ∀ j, j < t.n → At w b (o + j * 4) (t.item j) := by
  cases t with
  | nil => exact h.elim
  | mk => exact h.2.1 hn
theorem In.sub {w : World} {S : Nat → Prop} {t : VT} (h : In w S t) {j : Nat} (hj : j < t.n) : In w S (t.item j) := by
  cases t with
  | nil => exact h.elim
  | mk => exact h.2.2 j hj
theorem In.mk_ {w : World} {S : Nat → Prop} {t : VT} (h : In w S t) : ∃ k i s n p c f, t = mk k i s n p c f := by
  cases t with
  | nil => exact h.elim
  | mk k i s n p c f => exact ⟨k, i, s, n, p, c, f, rfl⟩

theorem At.kept {w w' : World} {b o : Nat} {t : VT} (h : At w b o t) (hb : w'.heap[b]? = w.heap[b]?) : At w' b o t :=
  ⟨(World.cell?_of_block (a := ⟨b, o, none⟩) hb).trans h.c0, (World.cell?_of_block (a := ⟨b, o + 1, none⟩) hb).trans h.c1, (World.cell?_of_block (a := ⟨b, o + 2, none⟩) hb).trans h.c2, (World.cell?_of_block (a := ⟨b, o + 3, none⟩) hb).trans h.c3⟩

theorem In.kept {w w' : World} {S : Nat → Prop} : ∀ {t : VT}, In w S t → w.heap.size ≤ w'.heap.size → (∀ b, S b → b < w.heap.size → w'.heap[b]? = w.heap[b]?) → In w' S t := by
  intro t
  induction t with
  | nil => intro h _ _; exact h.elim
  | mk k i s n p c f ih =>
    intro h hs hb
    refine ⟨h.1, fun hn => ?_, fun j hj => ih j (h.2.2 j hj) hs hb⟩
    obtain ⟨b, o, e, hS, hlt, ha⟩ := h.2.1 hn
    exact ⟨b, o, e, hS, Nat.lt_of_lt_of_le hlt hs, fun j hj => (ha j hj).kept (hb b hS hlt)⟩
theorem In.mono {w : World} {S S' : Nat → Prop} : ∀ {t : VT}, In w S t → (∀ b, S b → b < w.heap.size → S' b) → In w S' t := by
  intro t
  induction t with
  | nil => intro h _; exact h.elim
  | mk k i s n p c f ih =>
    intro h hb
    refine ⟨h.1, fun hn => ?_, fun j hj => ih j (h.2.2 j hj) hb⟩
    obtain ⟨b, o, e, hS, hlt, ha⟩ := h.2.1 hn
    exact ⟨b, o, e, hb b hS hlt, hlt, ha⟩

theorem Alike.refl : ∀ t : VT, Alike t t := by
  intro t
  induction t with
  | nil => rfl
  | mk k i s n p c f ih => exact ⟨rfl, rfl, rfl, rfl, fun j _ => ih j⟩
theorem Alike.kind {t u : VT} (h : Alike t u) : u.kind = t.kind := by
  cases t with
  | nil => rw [show u = nil from h]
  | mk => exact h.1
theorem Alike.int {t u : VT} (h : Alike t u) : u.int = t.int := by
  cases t with
  | nil => rw [show u = nil from h]
  | mk => exact h.2.1
theorem Alike.text {t u : VT} (h : Alike t u) : u.text = t.text := by
  cases t with
  | nil => rw [show u = nil from h]
  | mk => exact h.2.2.1
theorem Alike.n {t u : VT} (h : Alike t u) : u.n = t.n := by
  cases t with
  | nil => rw [show u = nil from h]
  | mk => exact h.2.2.2.1
theorem Alike.item {t u : VT} (h : Alike t u) {j : Nat} (hj : j < t.n) : Alike (t.item j) (u.item j) := by
  cases t with
  | nil => exact absurd hj (Nat.not_lt_zero j)
  | mk => exact h.2.2.2.2 j hj
theorem Alike.trans : ∀ {t u v : VT}, Alike t u → Alike u v → Alike t v := by
  intro t
  induction t with
  | nil =>
    intro u v h g
    rw [show u = nil from h] at g
    exact g
  | mk k i s n p c f ih =>
    intro u v h g
    refine ⟨g.kind.trans h.1, g.int.trans h.2.1, g.text.trans h.2.2.1, g.n.trans h.2.2.2.1, fun j hj => ih j (h.2.2.2.2 j hj) (g.item ?_)⟩
    rw [h.2.2.2.1]; exact hj

theorem Alike.symm {w : World} {S : Nat → Prop} : ∀ {t u : VT}, Alike t u → In w S u → Alike u t := by
  intro t
  induction t with
  | nil =>
    intro u h hu
    rw [show u = nil from h] at hu
    exact hu.elim
  | mk k i s n p c f ih =>
    intro u h hu
    obtain ⟨k2, i2, s2, n2, p2, c2, f2, rfl⟩ := hu.mk_
    have hn : n2 = n := h.2.2.2.1
    exact ⟨h.1.symm, h.2.1.symm, h.2.2.1.symm, hn.symm, fun j hj => ih j (h.2.2.2.2 j (by omega)) (hu.sub hj)⟩

theorem total_eq (t : VT) : t.total = t.n + ((List.range t.n).map fun j => (t.item j).total).sum := by cases t <;> rfl
/-- the parts below the first i items -/
def upto (t : VT) (i : Nat) : Nat := ((List.range i).map fun j => (t.item j).total).sum
theorem upto_zero (t : VT) : t.upto 0 = 0 := rfl
theorem upto_succ (t : VT) (i : Nat) : t.upto (i + 1) = t.upto i + (t.item i).total := by simp [upto, List.range_succ]
theorem total_upto (t : VT) : t.total = t.n + t.upto t.n := total_eq t
theorem upto_mono (t : VT) {i j : Nat} (h : i ≤ j) : t.upto i ≤ t.upto j := by
  induction h with
  | refl => exact Nat.le_refl _
  | step _ ih => rw [upto_succ]; omega
theorem item_total (t : VT) {j : Nat} (h : j < t.n) : (t.item j).total ≤ t.total := by
  have h1 := upto_mono t (show j + 1 ≤ t.n from h)
  rw [upto_succ] at h1
  rw [total_upto t]; omega
end VT

/-- what w holds w' holds too, but for the blocks of X -/
structure But (X : Nat → Prop) (w w' : World) : Prop where
  os : w'.os = w.os
  tape : w'.tape = w.tape
  output : w'.output = w.output
  size : w.heap.size ≤ w'.heap.size
  block : ∀ k, k < w.heap.size → ¬ X k → w'.heap[k]? = w.heap[k]?
theorem But.refl (X : Nat → Prop) (w : World) : But X w w := ⟨rfl, rfl, rfl, Nat.le_refl _, fun _ _ _ => rfl⟩
theorem But.trans {X : Nat → Prop} {a b c : World} (h : But X a b) (k : But X b c) : But X a c :=
  ⟨k.os.trans h.os, k.tape.trans h.tape, k.output.trans h.output, Nat.le_trans h.size k.size, fun i hi hx => (k.block i (Nat.lt_of_lt_of_le hi h.size) hx).trans (h.block i hi hx)⟩
theorem But.mono {X Y : Nat → Prop} {w w' : World} (h : But X w w') (hx : ∀ k, k < w.heap.size → X k → Y k) : But Y w w' :=
  ⟨h.os, h.tape, h.output, h.size, fun k hk hy => h.block k hk fun e => hy (hx k hk e)⟩
theorem But.drew {X : Nat → Prop} {a w : World} (h : But X a w) : But X a w.drew := ⟨h.os, h.tape, h.output, h.size, h.block⟩
theorem But.alloc {X : Nat → Prop} {a w : World} (h : But X a w) (o : Obj) : But X a (w.alloc o) :=
  h.trans ⟨rfl, rfl, rfl, by simp, fun k hk _ => Below.heap_alloc _ _ _ hk⟩
theorem But.grown {X : Nat → Prop} {a w w' : World} {row : Option Nat} (h : But X a w) (hg : w.grownBy w' row) (hr : ∀ k, row = some k → k < a.heap.size → X k) : But X a w' :=
  ⟨hg.os.trans h.os, hg.tape.trans h.tape, hg.output.trans h.output, Nat.le_trans h.size hg.size, fun k hk hx => (hg.block k (Nat.lt_of_lt_of_le hk h.size) (fun e => hx (hr k e.symm hk))).trans (h.block k hk hx)⟩
theorem But.setCell {X : Nat → Prop} {a w : World} (h : But X a w) {p : Addr} (hp : p.block < a.heap.size → X p.block) (u : Value) : But X a (w.setCell p u) :=
  ⟨h.os, h.tape, h.output, (by simpa [World.setCell] using h.size), fun k hk hx => (Below.heap_setCell _ _ _ _ (fun e => hx (by subst e; exact hp hk))).trans (h.block k hk hx)⟩
theorem But.below {X : Nat → Prop} {B : Nat} {w w' : World} (h : But X w w') (hB : B ≤ w.heap.size) (hx : ∀ k, k < B → ¬ X k) : Below B w w' :=
  ⟨h.os, h.tape, h.output, h.size, fun k hk => h.block k (Nat.lt_of_lt_of_le hk hB) (hx k hk)⟩
theorem But.ofBelow {X : Nat → Prop} {w w' : World} (h : Below w.heap.size w w') : But X w w' :=
  ⟨h.os, h.tape, h.output, h.size, fun k hk _ => h.block k hk⟩
theorem VT.In.but {w w' : World} {S X : Nat → Prop} {t : VT} (h : VT.In w S t) (hb : But X w w') (hx : ∀ b, S b → b < w.heap.size → ¬ X b) : VT.In w' S t :=
  h.kept hb.size fun b hS hlt => hb.block b hlt (hx b hS hlt)
theorem VT.In.below {w w' : World} {S : Nat → Prop} {t : VT} (h : VT.In w S t) (hb : Below w.heap.size w w') : VT.In w' S t :=
  h.kept hb.size fun b _ hlt => hb.block b hlt

/-- block b holds these cells, none of them frozen -/
def Box (w : World) (b : Nat) (cs : Array Value) (e : TypeId) : Prop := w.heap[b]? = some (.cells cs e (0, 0))
theorem Box.lt {w : World} {b : Nat} {cs : Array Value} {e : TypeId} (h : Box w b cs e) : b < w.heap.size := by
  rcases Nat.lt_or_ge b w.heap.size with h1 | h1
  · exact h1
  · unfold Box at h; rw [Array.getElem?_eq_none h1] at h; cases h
theorem Box.cell {w : World} {b : Nat} {cs : Array Value} {e : TypeId} (h : Box w b cs e) (o : Nat) : w.cell? ⟨b, o, none⟩ = cs[o]? := by
  unfold Box at h; simp [World.cell?, h]
theorem Box.frozen {w : World} {b : Nat} {cs : Array Value} {e : TypeId} (h : Box w b cs e) (o : Nat) : w.frozen? ⟨b, o, none⟩ = false := by
  unfold Box at h; simp [World.frozen?, h]
theorem Box.set {w : World} {b : Nat} {cs : Array Value} {e : TypeId} (h : Box w b cs e) (o : Nat) (u : Value) : Box (w.setCell ⟨b, o, none⟩ u) b (cs.setIfInBounds o u) e := by
  have hl := h.lt
  unfold Box at h ⊢
  simp [World.setCell, Array.getElem?_modify, h]
theorem Box.kept {w w' : World} {b : Nat} {cs : Array Value} {e : TypeId} (h : Box w b cs e) (hb : w'.heap[b]? = w.heap[b]?) : Box w' b cs e := hb.trans h
theorem Box.but {w w' : World} {X : Nat → Prop} {b : Nat} {cs : Array Value} {e : TypeId} (h : Box w b cs e) (hb : But X w w') (hx : ¬ X b) : Box w' b cs e := h.kept (hb.block b h.lt hx)
theorem Box.below {w w' : World} {b : Nat} {cs : Array Value} {e : TypeId} (h : Box w b cs e) (hb : Below w.heap.size w w') : Box w' b cs e := h.kept (hb.block b h.lt)
theorem Box.new (w : World) (cs : Array Value) (e : TypeId) : Box (w.alloc (.cells cs e)) w.heap.size cs e := by
  show (w.heap.push _)[w.heap.size]? = _
  simp
end Go.Proofs.YtgnamngnmbaeeaaDoor

namespace Go.Proofs.YtgnamngnmbaeeaaDoor
open Go.RowKit
set_option maxRecDepth 8000

/-- where what was appended to lies now: where it lay, or in new memory -/
def Near (w : World) (v v' : Value) : Prop := v'.ownBlock = v.ownBlock ∨ ∀ g, v'.ownBlock = some g → w.heap.size ≤ g
theorem ownsRow_mono {base base' : Nat} {e : TypeId} {size n : Nat} {w : World} {v : Value} {xs : List Value} (h : w.ownsRow base e size v n xs) (hb : base' ≤ base) : w.ownsRow base' e size v n xs := by
  refine ⟨h.1, ?_⟩
  obtain ⟨_, h1 | ⟨g, cap, cur, hv, hbg, r⟩⟩ := h
  · exact .inl h1
  · exact .inr ⟨g, cap, cur, hv, Nat.le_trans hb hbg, r⟩
theorem grownBy_any {w w' : World} (h : w.grownBy w' none) (row : Option Nat) : w.grownBy w' row := ⟨h.os, h.tape, h.output, h.size, fun k hk _ => h.block k hk (by simp)⟩
theorem ownsRow_keep {base : Nat} {e : TypeId} {size n : Nat} {w w' : World} {v : Value} {xs : List Value} (h : w.ownsRow base e size v n xs) (hb : ∀ g, v.ownBlock = some g → g < w.heap.size → w'.heap[g]? = w.heap[g]?) : w'.ownsRow base e size v n xs := by
  refine ⟨h.1, ?_⟩
  have hlt := h.lt
  obtain ⟨_, h1 | ⟨g, cap, cur, hv, hbg, hh, r⟩⟩ := h
  · exact .inl h1
  · exact .inr ⟨g, cap, cur, hv, hbg, (hb g (by rw [hv]; rfl) (hlt g (by rw [hv]; rfl)).2).trans hh, r⟩

/-- what is known of a row's type -/
structure Kind (t e : TypeId) (i : TypeInfo) (z : Value) (size bytes : Nat) : Prop where
  ht : Tryd.prog.underlying t = some (.slice e)
  hi : Tryd.prog.info? e = some i
  hz : i.zero = some z
  hsize : i.size = size
  hby : i.bytes = bytes
  hzs : z.cells.size = size
  hsz : 0 < size

theorem run_app (w : World) (ty t e : TypeId) (i : TypeInfo) (z : Value) (size bytes : Nat) (K : Kind t e i z size bytes) (base : Nat) (v : Value) (n : Nat) (xs : List Value) (hown : w.ownsRow base e size v n xs)
    (ad : Addr) (m c : Nat) (news : List Value) (hl : news.length = m * size) (hnews : ∀ j u, news[j]? = some u → w.cell? (ad.add j) = some u) (h1 : ∀ u ∈ news, u.oneCell' = true)
    (h63 : n + m ≤ 140737488355328) (hbytes : (n + m) * bytes ≤ 140737488355328) (hbase : base ≤ w.heap.size) :
    ∃ v' w', (Builtin.append_ #[t, t] ty #[v, .slice (some ad) m c]).run Tryd.prog w = .ok v' w' ∧ w'.ownsRow base e size v' (n + m) (xs ++ news) ∧ w.grownBy w' v.ownBlock ∧ Near w v v' := by
  obtain ⟨ht, hi, hz0, hz1, hz2, hzs, hsz⟩ := K
  obtain ⟨hxl, ⟨hv, h0⟩ | ⟨g, cap, cur, hv, hbg, hh, hnc, hcm, hcs, htake⟩⟩ := id hown
  · subst hv h0
    obtain rfl : xs = [] := List.eq_nil_of_length_eq_zero (by simpa using hxl)
    obtain ⟨v', w', hrun, r1, r2, _⟩ := run_append_own (P := Tryd.prog) w w.heap.size t ty e i z size bytes ht hi hz0 hz1 hz2 hzs hsz (.slice none 0 0) 0 [] (World.ownsRow_nil w _ e size) ad m c news hl hnews h1 (by unfold maxLen; omega) hbytes (Nat.le_refl _)
    exact ⟨v', w', hrun, ownsRow_mono r1 hbase, r2, .inr fun g hg => (r1.lt g hg).1⟩
  · subst hv
    by_cases hroom : n + m ≤ cap
    · obtain ⟨w', hrun, r1, r2⟩ := run_append_fits (P := Tryd.prog) w base t ty e i size ht hi hz1 g n cap xs hown ad m c news hl hnews h1 hroom
      exact ⟨_, w', hrun, r1, r2, .inl rfl⟩
    · obtain ⟨v', w', hrun, r1, r2⟩ := run_append_arg_grows (P := Tryd.prog) w t ty e i z size bytes ht hi hz0 hz1 hz2 hzs hsz ⟨g, 0, none⟩ n cap xs hxl (hown.cells rfl) ad m c news hl hnews (by omega) (by unfold maxLen; omega) hbytes
      exact ⟨v', w', hrun, ownsRow_mono r1 hbase, grownBy_any r2 _, .inr fun g hg => (r1.lt g hg).1⟩

theorem step_app {ops : Array Oper} {o : Oper} {a : Act} {w : World} {K : Act → World → Prop} {Q : Exit → Act → World → Prop} {E : Prop}
    (hgd : o.guard = none) (s x : Operand) (t e : TypeId) (i : TypeInfo) (z : Value) (size bytes : Nat) (Kd : Kind t e i z size bytes) (hop : o.op = Op.call { callee := Callee.builtin Builtin.append, args := #[s, x], argTypes := #[t, t] })
    (base : Nat) (v : Value) (n : Nat) (xs : List Value) (hs : a.eval s = v) (hown : w.ownsRow base e size v n xs)
    (ad : Addr) (m c : Nat) (news : List Value) (hx : a.eval x = .slice (some ad) m c) (hl : news.length = m * size) (hnews : ∀ j u, news[j]? = some u → w.cell? (ad.add j) = some u) (h1 : ∀ u ∈ news, u.oneCell' = true)
    (h63 : n + m ≤ 140737488355328) (hbytes : (n + m) * bytes ≤ 140737488355328) (hbase : base ≤ w.heap.size)
    (hK : ∀ v' w', w'.ownsRow base e size v' (n + m) (xs ++ news) → w.grownBy w' v.ownBlock → Near w v v' → K (a.put o.dst v') w') :
    if Region.wanted o (yielded ops a.tmps) = true then Oper.wp Tryd.prog o a w K Q else E := by
  have hw : Region.wanted o (yielded ops a.tmps) = true := by simp [Region.wanted, hgd]
  rw [if_pos hw]
  obtain ⟨v', w', hrun, r1, r2, r3⟩ := run_app w o.type t e i z size bytes Kd base v n xs hown ad m c news hl hnews h1 h63 hbytes hbase
  unfold Oper.wp
  simp [execOp, hop, resolve, invoke, builtin, hs, hx, hrun, Result.andThen]
  exact hK v' w' r1 r2 r3

theorem wpList_app {w : World} {ops : Array Oper} {rest : List Oper} {o : Oper} {a : Act} {Q : Exit → Act → World → Prop} (hgd : o.guard = none) (s x : Operand)
    (t e : TypeId) (i : TypeInfo) (z : Value) (size bytes : Nat) (Kd : Kind t e i z size bytes)
    (ho : o.op = .call { callee := .builtin .append, args := #[s, x], argTypes := #[t, t] })
    (base : Nat) (v : Value) (n : Nat) (xs : List Value) (hs : a.eval s = v) (hown : w.ownsRow base e size v n xs)
    (ad : Addr) (m c : Nat) (news : List Value) (hx : a.eval x = .slice (some ad) m c) (hl : news.length = m * size) (hnews : ∀ j u, news[j]? = some u → w.cell? (ad.add j) = some u) (h1 : ∀ u ∈ news, u.oneCell' = true)
    (h63 : n + m ≤ 140737488355328) (hbytes : (n + m) * bytes ≤ 140737488355328) (hbase : base ≤ w.heap.size)
    (h : ∀ v' w', w'.ownsRow base e size v' (n + m) (xs ++ news) → w.grownBy w' v.ownBlock → Near w v v' → wpList Tryd.prog ops Q rest (a.put o.dst v') w') :
    wpList Tryd.prog ops Q (o :: rest) a w := by
  refine wpList_plain hgd fun K hK => ?_
  obtain ⟨v', w', hrun, r1, r2, r3⟩ := run_app w o.type t e i z size bytes Kd base v n xs hown ad m c news hl hnews h1 h63 hbytes hbase
  unfold Oper.wp
  simp [execOp, ho, resolve, invoke, builtin, hs, hx, hrun, Result.andThen]
  exact hK _ _ (h v' w' r1 r2 r3)

theorem kindV : ∃ i, Kind 137 139 i (.agg #[.int .i64 0, .int .i64 0, .string ⟨#[]⟩, .slice none 0 0]) 4 56 := by
  obtain ⟨i0, hi, hz0, hz1, hz2⟩ := info_parts (show (Tryd.prog.info? 139).map (fun i => (i.zero, i.size, i.bytes)) = some (some (.agg #[.int .i64 0, .int .i64 0, .string ⟨#[]⟩, .slice none 0 0]), 4, 56) by kernel_rfl)
  exact ⟨i0, Tryd.underlying137, hi, hz0, hz1, hz2, rfl, by decide⟩
theorem oneCell_cells (t : VT) : ∀ u ∈ t.cells, u.oneCell' = true := by
  intro u hu
  simp only [VT.cells, List.mem_cons, List.not_mem_nil, or_false] at hu
  rcases hu with rfl | rfl | rfl | rfl <;> rfl

/-- values in a row of the call's own, and what they hold in other blocks -/
structure OwnV (base : Nat) (w : World) (v : Value) (n : Nat) (g : Nat → VT) : Prop where
  own : w.ownsRow base 139 4 v n ((List.range n).flatMap fun j => (g j).cells)
  each : ∀ j, j < n → VT.In w (fun b => base ≤ b ∧ v.ownBlock ≠ some b) (g j)
theorem OwnV.nil (base : Nat) (w : World) (g : Nat → VT) : OwnV base w (.slice none 0 0) 0 g := ⟨World.ownsRow_nil _ _ _ _, fun j h => absurd h (by omega)⟩
theorem OwnV.keep {base : Nat} {w w' : World} {v : Value} {n : Nat} {g : Nat → VT} (h : OwnV base w v n g) (hs : w.heap.size ≤ w'.heap.size) (hb : ∀ k, base ≤ k → k < w.heap.size → w'.heap[k]? = w.heap[k]?) : OwnV base w' v n g :=
  ⟨ownsRow_keep h.own (fun k hk hl => hb k (h.own.lt k hk).1 hl), fun j hj => (h.each j hj).kept hs (fun b hS hl => hb b hS.1 hl)⟩
theorem OwnV.below {base : Nat} {w w' : World} {v : Value} {n : Nat} {g : Nat → VT} (h : OwnV base w v n g) (hb : Below w.heap.size w w') : OwnV base w' v n g := h.keep hb.size fun k _ hl => hb.block k hl
/-- one more: laid by an append -/
theorem OwnV.push {base : Nat} {w w' : World} {v v' : Value} {n : Nat} {g : Nat → VT} {u : VT} (h : OwnV base w v n g) (hu : VT.In w (fun b => base ≤ b ∧ v.ownBlock ≠ some b) u)
    (hown : w'.ownsRow base 139 4 v' (n + 1) (((List.range n).flatMap fun j => (g j).cells) ++ u.cells)) (hg : w.grownBy w' v.ownBlock) (hn : Near w v v') :
    OwnV base w' v' (n + 1) (fun j => if j < n then g j else u) := by
  have key : ∀ x, VT.In w (fun b => base ≤ b ∧ v.ownBlock ≠ some b) x → VT.In w' (fun b => base ≤ b ∧ v'.ownBlock ≠ some b) x := by
    intro x hx
    have h1 : VT.In w (fun b => base ≤ b ∧ v.ownBlock ≠ some b ∧ v'.ownBlock ≠ some b) x := by
      refine hx.mono fun b hb hl => ⟨hb.1, hb.2, fun e => ?_⟩
      rcases hn with h1 | h1
      · exact hb.2 (h1 ▸ e)
      · have := h1 b e; omega
    have h2 := h1.kept hg.size (fun b hb hl => hg.block b hl (fun e => hb.2.1 e.symm))
    exact h2.mono fun b hb _ => ⟨hb.1, hb.2.2⟩
  refine ⟨?_, fun j hj => ?_⟩
  · have e : ((List.range (n + 1)).flatMap fun j => (if j < n then g j else u).cells) = ((List.range n).flatMap fun j => (g j).cells) ++ u.cells := by
      rw [List.range_succ, List.flatMap_append]
      congr 1
      · rw [List.flatMap_def, List.flatMap_def]
        congr 1
        apply List.map_congr_left
        intro j hj
        rw [if_pos (List.mem_range.1 hj)]
      · simp
    rw [e]
    exact hown
  · by_cases hjn : j < n
    · rw [if_pos hjn]; exact key _ (h.each j hjn)
    · rw [if_neg hjn]; exact key _ hu
/-- the row read as a list -/
theorem flat_get (g : Nat → VT) : ∀ (n j r : Nat), j < n → r < 4 → ((List.range n).flatMap fun j => (g j).cells)[j * 4 + r]? = (g j).cells[r]? := by
  intro n
  induction n with
  | zero => intro j r h; omega
  | succ n ih =>
    intro j r hj hr
    have hl : ∀ m, ((List.range m).flatMap fun j => (g j).cells).length = m * 4 := by
      intro m
      induction m with
      | zero => rfl
      | succ m ih => rw [List.range_succ, List.flatMap_append, List.length_append, ih]; simp [VT.cells]; omega
    rw [List.range_succ, List.flatMap_append]
    by_cases h : j < n
    · rw [List.getElem?_append_left (by rw [hl]; omega)]
      exact ih j r h hr
    · obtain rfl : j = n := by omega
      rw [List.getElem?_append_right (by rw [hl]; omega), hl]
      simp only [List.flatMap_cons, List.flatMap_nil, List.append_nil]
      congr 1
      omega
theorem OwnV.at_ {base : Nat} {w : World} {v : Value} {n : Nat} {g : Nat → VT} (h : OwnV base w v n g) {b c : Nat} (hv : v = .slice (some ⟨b, 0, none⟩) n c) {j : Nat} (hj : j < n) : VT.At w b (0 + j * 4) (g j) := by
  have hc := h.own.cells (g := b) (by rw [hv]; rfl)
  have k : ∀ r u, r < 4 → (g j).cells[r]? = some u → w.cell? ⟨b, 0 + j * 4 + r, none⟩ = some u := by
    intro r u hr hu
    have := hc (j * 4 + r) u (by rw [flat_get g n j r hj hr]; exact hu)
    rw [Go.WideShapes.add_plain] at this
    rw [show 0 + j * 4 + r = 0 + (j * 4 + r) by omega]
    exact this
  exact ⟨k 0 _ (by omega) rfl, k 1 _ (by omega) rfl, k 2 _ (by omega) rfl, k 3 _ (by omega) rfl⟩
/-- the row as a value's items -/
theorem OwnV.in_ {base : Nat} {w : World} {v : Value} {n : Nat} {g : Nat → VT} (h : OwnV base w v n g) :
    ∃ p c, v = .slice p n c ∧ n ≤ c ∧ c ≤ maxLen ∧ (p = none → n = 0 ∧ c = 0) ∧ (0 < n → ∃ b o, p = some ⟨b, o, none⟩ ∧ base ≤ b ∧ b < w.heap.size ∧ ∀ j, j < n → VT.At w b (o + j * 4) (g j)) ∧ ∀ j, j < n → VT.In w (fun b => base ≤ b) (g j) := by
  have hlt := h.own.lt
  obtain ⟨_, ⟨hv, h0⟩ | ⟨gb, cap, cur, hv, hbg, hh, hnc, hcm, hcs, htake⟩⟩ := id h.own
  · subst h0
    exact ⟨none, 0, hv, Nat.le_refl _, Nat.zero_le _, fun _ => ⟨rfl, rfl⟩, fun hn => absurd hn (by omega), fun j hj => absurd hj (by omega)⟩
  · refine ⟨_, cap, hv, hnc, hcm, fun h => (by cases h), fun hn => ⟨gb, 0, rfl, hbg, (hlt gb (by rw [hv]; rfl)).2, fun j hj => h.at_ hv hj⟩, fun j hj => (h.each j hj).mono fun b hb _ => hb.1⟩
theorem cell_new (w : World) (cs : Array Value) (e : TypeId) (j : Nat) : (w.alloc (.cells cs e)).cell? ((⟨w.heap.size, 0, none⟩ : Addr).add j) = cs[j]? := by
  rw [Go.WideShapes.add_plain]
  have := (Box.new w cs e).cell (0 + j)
  rw [Nat.zero_add] at this ⊢
  exact this
theorem news4 (w : World) (a b c d : Value) (e : TypeId) : ∀ j u, [a, b, c, d][j]? = some u → (w.alloc (.cells #[a, b, c, d] e)).cell? ((⟨w.heap.size, 0, none⟩ : Addr).add j) = some u := by
  intro j u h
  rw [cell_new, ← h]
  simp

theorem ownsRow_slice {w : World} {base n : Nat} {e : TypeId} {size : Nat} {v : Value} {xs : List Value} (h : w.ownsRow base e size v n xs) : ∃ p c, v = .slice p n c := by
  obtain ⟨_, ⟨hv, h0⟩ | ⟨g, cap, cur, hv, _⟩⟩ := h
  · exact ⟨none, 0, by rw [hv, h0]⟩
  · exact ⟨_, cap, hv⟩
end Go.Proofs.YtgnamngnmbaeeaaDoor
