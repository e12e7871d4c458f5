import Derived.Test.YtkfcilandmhomaaDoorPack0
import Derived.ArgAppend
import Derived.Deep.RegionLaw
namespace Go.Proofs.YtkfcilandmhomaaDoor
open Go.RowKit
set_option maxRecDepth 8000

/-- where what was appended to lies now: where it lay, or in new memory -/
def Near (w : World) (v v' : Value) : Prop := v'.ownBlock = v.ownBlock ∨ ∀ g, v'.ownBlock = some g → w.heap.size ≤ g
theorem ownsRow_mono {base base' : Nat} {e : TypeId} {size n : Nat} {w : World} {v : Value} {xs : List Value} (h : w.ownsRow base e size v n xs) (hb : base' ≤ base) : w.ownsRow base' e size v n xs := by
  refine ⟨h.1, ?_⟩
  obtain ⟨_, h1 | ⟨g, cap, cur, hv, hbg, r⟩⟩ := h
  · exact .inl h1
  · exact .inr ⟨g, cap, cur, hv, Nat.le_trans hb hbg, r⟩
theorem grownBy_any {w w' : World} (h : w.grownBy w' none) (row : Option Nat) : w.grownBy w' row := ⟨h.os, h.tape, h.output, h.size, fun k hk _ => h.block k hk (by simp)⟩
theorem ownsRow_keep {base : Nat} {e : TypeId} {size n : Nat} {w w' : World} {v : Value} {xs : List Value} (h : w.ownsRow base e size v n xs) (hb : ∀ g, v.ownBlock = some g → g < w.heap.size → w'.heap[g]? = w.heap[g]?) : w'.ownsRow base e size v n xs := by
  refine ⟨h.1, ?_⟩
  have hlt := h.lt
  obtain ⟨_, h1 | ⟨g, cap, cur, hv, hbg, hh, r⟩⟩ := h
  · exact .inl h1
  · exact .inr ⟨g, cap, cur, hv, hbg, (hb g (by rw [hv]; rfl) (hlt g (by rw [hv]; rfl)).2).trans hh, r⟩

/-- what is known of a row's type -/
structure Kind (t e : TypeId) (i : TypeInfo) (z : Value) (size bytes : Nat) : Prop where
  ht : Tryd.prog.underlying t = some (.slice e)
  hi : Tryd.prog.info? e = some i
  hz : i.zero = some z
  hsize : i.size = size
  hby : i.bytes = bytes
  hzs : z.cells.size = size
  hsz : 0 < size

theorem run_app (w : World) (ty t e : TypeId) (i : TypeInfo) (z : Value) (size bytes : Nat) (K : Kind t e i z size bytes) (base : Nat) (v : Value) (n : Nat) (xs : List Value) (hown : w.ownsRow base e size v n xs)
    (ad : Addr) (m c : Nat) (news : List Value) (hl : news.length = m * size) (hnews : ∀ j u, news[j]? = some u → w.cell? (ad.add j) = some u) (h1 : ∀ u ∈ news, u.oneCell' = true)
    (h63 : n + m ≤ 140737488355328) (hbytes : (n + m) * bytes ≤ 140737488355328) (hbase : base ≤ w.heap.size) :
    ∃ v' w', (Builtin.append_ #[t, t] ty #[v, .slice (some ad) m c]).run Tryd.prog w = .ok v' w' ∧ w'.ownsRow base e size v' (n + m) (xs ++ news) ∧ w.grownBy w' v.ownBlock ∧ Near w v v' := by
  obtain ⟨ht, hi, hz0, hz1, hz2, hzs, hsz⟩ := K
  obtain ⟨hxl, ⟨hv, h0⟩ | ⟨g, cap, cur, hv, hbg, hh, hnc, hcm, hcs, htake⟩⟩ := id hown
  · subst hv h0
    obtain rfl : xs = [] := List.eq_nil_of_length_eq_zero (by simpa using hxl)
    obtain ⟨v', w', hrun, r1, r2, _⟩ := run_append_own (P := Tryd.prog) w w.heap.size t ty e i z size bytes ht hi hz0 hz1 hz2 hzs hsz (.slice none 0 0) 0 [] (World.ownsRow_nil w _ e size) ad m c news hl hnews h1 (by unfold maxLen; omega) hbytes (Nat.le_refl _)
    exact ⟨v', w', hrun, ownsRow_mono r1 hbase, r2, .inr fun g hg => (r1.lt g hg).1⟩
  · subst hv
    by_cases hroom : n + m ≤ cap
    · obtain ⟨w', hrun, r1, r2⟩ := run_append_fits (P := Tryd.prog) w base t ty e i size ht hi hz1 g n cap xs hown ad m c news hl hnews h1 hroom
      exact ⟨_, w', hrun, r1, r2, .inl rfl⟩
    · obtain ⟨v', w', hrun, r1, r2⟩ := run_append_arg_grows (P := Tryd.prog) w t ty e i z size bytes ht hi hz0 hz1 hz2 hzs hsz ⟨g, 0, none⟩ n cap xs hxl (hown.cells rfl) ad m c news hl hnews (by omega) (by unfold maxLen; omega) hbytes
      exact ⟨v', w', hrun, ownsRow_mono r1 hbase, grownBy_any r2 _, .inr fun g hg => (r1.lt g hg).1⟩

theorem step_app {ops : Array Oper} {o : Oper} {a : Act} {w : World} {K : Act → World → Prop} {Q : Exit → Act → World → Prop} {E : Prop}
    (hgd : o.guard = none) (s x : Operand) (t e : TypeId) (i : TypeInfo) (z : Value) (size bytes : Nat) (Kd : Kind t e i z size bytes) (hop : o.op = Op.call { callee := Callee.builtin Builtin.append, args := #[s, x], argTypes := #[t, t] })
    (base : Nat) (v : Value) (n : Nat) (xs : List Value) (hs : a.eval s = v) (hown : w.ownsRow base e size v n xs)
    (ad : Addr) (m c : Nat) (news : List Value) (hx : a.eval x = .slice (some ad) m c) (hl : news.length = m * size) (hnews : ∀ j u, news[j]? = some u → w.cell? (ad.add j) = some u) (h1 : ∀ u ∈ news, u.oneCell' = true)
    (h63 : n + m ≤ 140737488355328) (hbytes : (n + m) * bytes ≤ 140737488355328) (hbase : base ≤ w.heap.size)
    (hK : ∀ v' w', w'.ownsRow base e size v' (n + m) (xs ++ news) → w.grownBy w' v.ownBlock → Near w v v' → K (a.put o.dst v') w') :
    if Region.wanted o (yielded ops a.tmps) = true then Oper.wp Tryd.prog o a w K Q else E := by
  have hw : Region.wanted o (yielded ops a.tmps) = true := by simp [Region.wanted, hgd]
  rw [if_pos hw]
  obtain ⟨v', w', hrun, r1, r2, r3⟩ := run_app w o.type t e i z size bytes Kd base v n xs hown ad m c news hl hnews h1 h63 hbytes hbase
  unfold Oper.wp
  simp [execOp, hop, resolve, invoke, builtin, hs, hx, hrun, Result.andThen]
  exact hK v' w' r1 r2 r3

theorem wpList_app {w : World} {ops : Array Oper} {rest : List Oper} {o : Oper} {a : Act} {Q : Exit → Act → World → Prop} (hgd : o.guard = none) (s x : Operand)
    (t e : TypeId) (i : TypeInfo) (z : Value) (size bytes : Nat) (Kd : Kind t e i z size bytes)
    (ho : o.op = .call { callee := .builtin .append, args := #[s, x], argTypes := #[t, t] })
    (base : Nat) (v : Value) (n : Nat) (xs : List Value) (hs : a.eval s = v) (hown : w.ownsRow base e size v n xs)
    (ad : Addr) (m c : Nat) (news : List Value) (hx : a.eval x = .slice (some ad) m c) (hl : news.length = m * size) (hnews : ∀ j u, news[j]? = some u → w.cell? (ad.add j) = some u) (h1 : ∀ u ∈ news, u.oneCell' = true)
    (h63 : n + m ≤ 140737488355328) (hbytes : (n + m) * bytes ≤ 140737488355328) (hbase : base ≤ w.heap.size)
    (h : ∀ v' w', w'.ownsRow base e size v' (n + m) (xs ++ news) → w.grownBy w' v.ownBlock → Near w v v' → wpList Tryd.prog ops Q rest (a.put o.dst v') w') :
    wpList Tryd.prog ops Q (o :: rest) a w := by
  refine wpList_plain hgd fun K hK => ?_
  obtain ⟨v', w', hrun, r1, r2, r3⟩ := run_app w o.type t e i z size bytes Kd base v n xs hown ad m c news hl hnews h1 h63 hbytes hbase
  unfold Oper.wp
  simp [execOp, ho, resolve, invoke, builtin, hs, hx, hrun, Result.andThen]
  exact hK _ _ (h v' w' r1 r2 r3)

theorem oneCell_cells (t : VT) : ∀ u ∈ t.cells, u.oneCell' = true := by
  intro u hu
  simp only [VT.cells, List.mem_cons, List.not_mem_nil, or_false] at hu
  rcases hu with rfl | rfl | rfl | rfl <;> rfl

/-- the row read as a list -/
theorem flat_get (g : Nat → VT) : ∀ (n j r : Nat), j < n → r < 4 → ((List.range n).flatMap fun j => (g j).cells)[j * 4 + r]? = (g j).cells[r]? := by
  intro n
  induction n with
  | zero => intro j r h; omega
  | succ n ih =>
    intro j r hj hr
    have hl : ∀ m, ((List.range m).flatMap fun j => (g j).cells).length = m * 4 := by
      intro m
      induction m with
      | zero => rfl
      | succ m ih => rw [List.range_succ, List.flatMap_append, List.length_append, ih]; simp [VT.cells]; omega
    rw [List.range_succ, List.flatMap_append]
    by_cases h : j < n
    · rw [List.getElem?_append_left (by rw [hl]; omega)]
      exact ih j r h hr
    · obtain rfl : j = n := by omega
      rw [List.getElem?_append_right (by rw [hl]; omega), hl]
      simp only [List.flatMap_cons, List.flatMap_nil, List.append_nil]
      congr 1
      omega
theorem cell_new (w : World) (cs : Array Value) (e : TypeId) (j : Nat) : (w.alloc (.cells cs e)).cell? ((⟨w.heap.size, 0, none⟩ : Addr).add j) = cs[j]? := by
  rw [Go.WideShapes.add_plain]
  have := (Box.new w cs e).cell (0 + j)
  rw [Nat.zero_add] at this ⊢
  exact this
theorem news4 (w : World) (a b c d : Value) (e : TypeId) : ∀ j u, [a, b, c, d][j]? = some u → (w.alloc (.cells #[a, b, c, d] e)).cell? ((⟨w.heap.size, 0, none⟩ : Addr).add j) = some u := by
  intro j u h
  rw [cell_new, ← h]
  simp

theorem ownsRow_slice {w : World} {base n : Nat} {e : TypeId} {size : Nat} {v : Value} {xs : List Value} (h : w.ownsRow base e size v n xs) : ∃ p c, v = .slice p n c := by
  obtain ⟨_, ⟨hv, h0⟩ | ⟨g, cap, cur, hv, _⟩⟩ := h
  · exact ⟨none, 0, by rw [hv, h0]⟩
  · exact ⟨_, cap, hv⟩
end Go.Proofs.YtkfcilandmhomaaDoor

namespace Go.Proofs.YtkfcilandmhomaaDoor
open Go.RowKit
set_option maxRecDepth 8000

theorem hid {p : Prop} (h : p) : Hid p := h
theorem But.one (w : World) (b : Nat) : But (fun x => x = b) w w := But.refl _ w
theorem But.setAt {a w : World} {b : Nat} (h : But (fun x => x = b) a w) (o : Nat) (u : Value) : But (fun x => x = b) a (w.setCell ⟨b, o, none⟩ u) := h.setCell (p := ⟨b, o, none⟩) (fun _ => rfl) u

/-- ints in a row, in a block of S -/
structure Ints (w : World) (S : Nat → Prop) (p : Option Addr) (n c : Nat) (f : Nat → Int) : Prop where
  at_ : 0 < n → ∃ b o, p = some ⟨b, o, none⟩ ∧ S b ∧ b < w.heap.size ∧ ∀ j, j < n → w.cell? ⟨b, o + j, none⟩ = some (.int .i64 (f j))
  nc : n ≤ c
  nn : n ≤ 140737488355328
  cc : c ≤ maxLen
  fit : ∀ j, j < n → -9223372036854775808 ≤ f j ∧ f j ≤ 9223372036854775807
  nil : p = none → n = 0 ∧ c = 0
theorem Ints.kept {w w' : World} {S : Nat → Prop} {p : Option Addr} {n c : Nat} {f : Nat → Int} (h : Ints w S p n c f) (hs : w.heap.size ≤ w'.heap.size) (hb : ∀ b, S b → b < w.heap.size → w'.heap[b]? = w.heap[b]?) : Ints w' S p n c f := by
  refine ⟨fun hn => ?_, h.nc, h.nn, h.cc, h.fit, h.nil⟩
  obtain ⟨b, o, e, hS, hl, ha⟩ := h.at_ hn
  exact ⟨b, o, e, hS, Nat.lt_of_lt_of_le hl hs, fun j hj => (World.cell?_of_block (a := ⟨b, o + j, none⟩) (hb b hS hl)).trans (ha j hj)⟩
theorem Ints.mono {w : World} {S S' : Nat → Prop} {p : Option Addr} {n c : Nat} {f : Nat → Int} (h : Ints w S p n c f) (hb : ∀ b, S b → b < w.heap.size → S' b) : Ints w S' p n c f := by
  refine ⟨fun hn => ?_, h.nc, h.nn, h.cc, h.fit, h.nil⟩
  obtain ⟨b, o, e, hS, hl, ha⟩ := h.at_ hn
  exact ⟨b, o, e, hb b hS hl, hl, ha⟩

/-- what a list lays behind a row: nothing, or its cells -/
def Src (w : World) (p : Option Addr) (m c size : Nat) (news : List Value) : Prop := (p = none ∧ m = 0 ∧ c = 0 ∧ news = []) ∨ ∃ ad, p = some ad ∧ news.length = m * size ∧ ∀ j u, news[j]? = some u → w.cell? (ad.add j) = some u
theorem wpList_appS {w : World} {ops : Array Oper} {rest : List Oper} {o : Oper} {a : Act} {Q : Exit → Act → World → Prop} (hgd : o.guard = none) (s x : Operand)
    (t e : TypeId) (i : TypeInfo) (z : Value) (size bytes : Nat) (Kd : Kind t e i z size bytes)
    (ho : o.op = .call { callee := .builtin .append, args := #[s, x], argTypes := #[t, t] })
    (base : Nat) (v : Value) (n : Nat) (xs : List Value) (hs : a.eval s = v) (hown : w.ownsRow base e size v n xs)
    (p : Option Addr) (m c : Nat) (news : List Value) (hx : a.eval x = .slice p m c) (hsrc : Src w p m c size news) (h1 : ∀ u ∈ news, u.oneCell' = true)
    (h63 : n + m ≤ 140737488355328) (hbytes : (n + m) * bytes ≤ 140737488355328) (hbase : base ≤ w.heap.size)
    (h : ∀ v' w', w'.ownsRow base e size v' (n + m) (xs ++ news) → w.grownBy w' v.ownBlock → Near w v v' → wpList Tryd.prog ops Q rest (a.put o.dst v') w') :
    wpList Tryd.prog ops Q (o :: rest) a w := by
  rcases hsrc with ⟨rfl, rfl, rfl, rfl⟩ | ⟨ad, rfl, hl, hnews⟩
  · refine wpList_append_own_none hgd s x t ho base e i size Kd.ht Kd.hi v n xs hs hown hx ?_
    refine h v w ?_ ⟨rfl, rfl, rfl, Nat.le_refl _, fun _ _ _ => rfl⟩ (.inl rfl)
    simpa using hown
  · exact wpList_app hgd s x t e i z size bytes Kd ho base v n xs hs hown ad m c news hx hl hnews h1 h63 hbytes hbase h
theorem Ints.src {w : World} {S : Nat → Prop} {p : Option Addr} {n c : Nat} {f : Nat → Int} (h : Ints w S p n c f) : Src w p n c 1 ((List.range n).map fun j => .int .i64 (f j)) := by
  cases p with
  | none => obtain ⟨rfl, rfl⟩ := h.nil rfl; exact .inl ⟨rfl, rfl, rfl, rfl⟩
  | some ad =>
    refine .inr ⟨ad, rfl, by simp, fun j u hu => ?_⟩
    by_cases hj : j < n
    · obtain ⟨b, o, e, _, _, ha⟩ := h.at_ (by omega)
      cases e
      rw [Go.WideShapes.add_plain, ha j hj]
      simp [List.getElem?_range hj] at hu
      rw [hu]
    · simp [List.getElem?_eq_none (show ((List.range n).map fun j => Value.int .i64 (f j)).length ≤ j by simp; omega)] at hu
theorem oneCell_ints (n : Nat) (f : Nat → Int) : ∀ u ∈ ((List.range n).map fun j => Value.int .i64 (f j)), u.oneCell' = true := by
  intro u hu
  obtain ⟨j, _, rfl⟩ := List.mem_map.1 hu
  rfl
/-- a row of the call's own as ints -/
theorem Ints.own {w : World} {base n : Nat} {v : Value} {f : Nat → Int} (h : w.ownsRow base 3 1 v n ((List.range n).map fun j => .int .i64 (f j))) (hn : n ≤ 140737488355328) (hf : ∀ j, j < n → -9223372036854775808 ≤ f j ∧ f j ≤ 9223372036854775807) :
    ∃ p c, v = .slice p n c ∧ Ints w (fun b => base ≤ b) p n c f := by
  have hlt := h.lt
  obtain ⟨_, ⟨hv, h0⟩ | ⟨gb, cap, cur, hv, hbg, hh, hnc, hcm, hcs, htake⟩⟩ := id h
  · subst h0
    exact ⟨none, 0, hv, fun hn => absurd hn (by omega), Nat.le_refl _, hn, Nat.zero_le _, hf, fun _ => ⟨rfl, rfl⟩⟩
  · refine ⟨_, cap, hv, fun _ => ⟨gb, 0, rfl, hbg, (hlt gb (by rw [hv]; rfl)).2, fun j hj => ?_⟩, hnc, hn, hcm, hf, fun h => by cases h⟩
    have := h.cells (g := gb) (by rw [hv]; rfl) j (.int .i64 (f j)) (by simp [List.getElem?_range hj])
    rw [Go.WideShapes.add_plain] at this
    exact this

/-- a record with the addresses of its lists -/
structure RT where
  key : ByteArray
  v : VT
  p : Option Addr
  n : Nat
  c : Nat
  loop : Nat → Int
def RT.val (r : RT) : Value := .agg #[.string r.key, .int .i64 r.v.kind, .int .i64 r.v.int, .string r.v.text, .slice r.v.p r.v.n r.v.c, .slice r.p r.n r.c]
def RT.cells (r : RT) : List Value := [.string r.key, .int .i64 r.v.kind, .int .i64 r.v.int, .string r.v.text, .slice r.v.p r.v.n r.v.c, .slice r.p r.n r.c]
structure RT.In (w : World) (S : Nat → Prop) (r : RT) : Prop where
  v : VT.In w S r.v
  l : Ints w S r.p r.n r.c r.loop
  k : r.key.size ≤ 140737488355328
structure RT.Alike (r q : RT) : Prop where
  key : q.key = r.key
  v : VT.Alike r.v q.v
  n : q.n = r.n
  loop : ∀ j, j < r.n → q.loop j = r.loop j
theorem RT.In.kept {w w' : World} {S : Nat → Prop} {r : RT} (h : RT.In w S r) (hs : w.heap.size ≤ w'.heap.size) (hb : ∀ b, S b → b < w.heap.size → w'.heap[b]? = w.heap[b]?) : RT.In w' S r := ⟨h.v.kept hs hb, h.l.kept hs hb, h.k⟩
theorem RT.In.mono {w : World} {S S' : Nat → Prop} {r : RT} (h : RT.In w S r) (hb : ∀ b, S b → b < w.heap.size → S' b) : RT.In w S' r := ⟨h.v.mono hb, h.l.mono hb, h.k⟩
theorem RT.In.but {w w' : World} {S X : Nat → Prop} {r : RT} (h : RT.In w S r) (hb : But X w w') (hx : ∀ b, S b → b < w.heap.size → ¬ X b) : RT.In w' S r :=
  h.kept hb.size fun b hS hlt => hb.block b hlt (hx b hS hlt)
theorem RT.In.below {w w' : World} {S : Nat → Prop} {r : RT} (h : RT.In w S r) (hb : Below w.heap.size w w') : RT.In w' S r :=
  h.kept hb.size fun b _ hlt => hb.block b hlt

/-- a cell of a state is a value's text and items: its two cells -/
structure VT.Cell (w : World) (b o : Nat) (t : VT) : Prop where
  c0 : w.cell? ⟨b, o, none⟩ = some (.string t.text)
  c1 : w.cell? ⟨b, o + 1, none⟩ = some (.slice t.p t.n t.c)
theorem VT.Cell.kept {w w' : World} {b o : Nat} {t : VT} (h : VT.Cell w b o t) (hb : w'.heap[b]? = w.heap[b]?) : VT.Cell w' b o t :=
  ⟨(World.cell?_of_block (a := ⟨b, o, none⟩) hb).trans h.c0, (World.cell?_of_block (a := ⟨b, o + 1, none⟩) hb).trans h.c1⟩
def VT.two (t : VT) : List Value := [.string t.text, .slice t.p t.n t.c]
/-- a state with the addresses of its lists -/
structure ST where
  num : Int
  p : Option Addr
  n : Nat
  c : Nat
  cell : Nat → VT
def ST.val (s : ST) : Value := .agg #[.int .i64 s.num, .slice s.p s.n s.c]
def ST.cells (s : ST) : List Value := [.int .i64 s.num, .slice s.p s.n s.c]
structure ST.In (w : World) (S : Nat → Prop) (s : ST) : Prop where
  at_ : 0 < s.n → ∃ b o, s.p = some ⟨b, o, none⟩ ∧ S b ∧ b < w.heap.size ∧ ∀ j, j < s.n → VT.Cell w b (o + j * 2) (s.cell j)
  each : ∀ j, j < s.n → VT.In w S (s.cell j)
  nc : s.n ≤ s.c
  nn : s.n ≤ 140737488355328
  cc : s.c ≤ maxLen
  u0 : -9223372036854775808 ≤ s.num
  u1 : s.num ≤ 9223372036854775807
structure ST.Alike (s t : ST) : Prop where
  num : t.num = s.num
  n : t.n = s.n
  cell : ∀ j, j < s.n → VT.Alike (s.cell j) (t.cell j)
theorem ST.In.kept {w w' : World} {S : Nat → Prop} {s : ST} (h : ST.In w S s) (hs : w.heap.size ≤ w'.heap.size) (hb : ∀ b, S b → b < w.heap.size → w'.heap[b]? = w.heap[b]?) : ST.In w' S s := by
  refine ⟨fun hn => ?_, fun j hj => (h.each j hj).kept hs hb, h.nc, h.nn, h.cc, h.u0, h.u1⟩
  obtain ⟨b, o, e, hS, hl, ha⟩ := h.at_ hn
  exact ⟨b, o, e, hS, Nat.lt_of_lt_of_le hl hs, fun j hj => (ha j hj).kept (hb b hS hl)⟩
theorem ST.In.mono {w : World} {S S' : Nat → Prop} {s : ST} (h : ST.In w S s) (hb : ∀ b, S b → b < w.heap.size → S' b) : ST.In w S' s := by
  refine ⟨fun hn => ?_, fun j hj => (h.each j hj).mono hb, h.nc, h.nn, h.cc, h.u0, h.u1⟩
  obtain ⟨b, o, e, hS, hl, ha⟩ := h.at_ hn
  exact ⟨b, o, e, hb b hS hl, hl, ha⟩
theorem ST.In.but {w w' : World} {S X : Nat → Prop} {s : ST} (h : ST.In w S s) (hb : But X w w') (hx : ∀ b, S b → b < w.heap.size → ¬ X b) : ST.In w' S s :=
  h.kept hb.size fun b hS hlt => hb.block b hlt (hx b hS hlt)
theorem ST.In.below {w w' : World} {S : Nat → Prop} {s : ST} (h : ST.In w S s) (hb : Below w.heap.size w w') : ST.In w' S s :=
  h.kept hb.size fun b _ hlt => hb.block b hlt
/-- the parts below the first i cells -/
def ST.upto (s : ST) (i : Nat) : Nat := ((List.range i).map fun j => (s.cell j).total).sum
theorem ST.upto_succ (s : ST) (i : Nat) : s.upto (i + 1) = s.upto i + (s.cell i).total := by simp [ST.upto, List.range_succ]
theorem ST.upto_mono (s : ST) {i j : Nat} (h : i ≤ j) : s.upto i ≤ s.upto j := by
  induction h with
  | refl => exact Nat.le_refl _
  | step _ ih => rw [ST.upto_succ]; omega
def ST.total (s : ST) : Nat := s.n + s.upto s.n
theorem ST.cell_total (s : ST) {j : Nat} (h : j < s.n) : (s.cell j).total ≤ s.total := by
  have h1 := s.upto_mono (show j + 1 ≤ s.n from h)
  rw [ST.upto_succ] at h1
  unfold ST.total; omega
end Go.Proofs.YtkfcilandmhomaaDoor

namespace Go.Proofs.YtkfcilandmhomaaDoor
open Go.RowKit
set_option maxRecDepth 8000
theorem step_call {ops : Array Oper} {o : Oper} {a : Act} {w : World} {K : Act → World → Prop} {Q : Exit → Act → World → Prop} {E : Prop}
    (hgd : o.guard = none) (f : Nat) (xs : Array Operand) (ts : Array TypeId) (hop : o.op = Op.call { callee := Callee.value (Operand.func f), args := xs, argTypes := ts })
    (F : Func) (hF : Tryd.prog.funcs[f]? = some F) (hN : (F.name == "runtime.NumGoroutine") = false) (hB : F.body.isNone = false) (vs : Array Value) (hvl : xs.toList.map a.eval = vs.toList) (R : Ending → World → Prop) (hC : Calls Tryd.prog f vs w R) (hK : ∀ e w', R e w' → ∃ v, e = .returned v ∧ K (a.put o.dst v) w') :
    if Region.wanted o (yielded ops a.tmps) = true then Oper.wp Tryd.prog o a w K Q else E := by
  have hw : Region.wanted o (yielded ops a.tmps) = true := by simp [Region.wanted, hgd]
  rw [if_pos hw]
  have hvs : xs.map a.eval = vs := by
    obtain ⟨xl⟩ := xs
    obtain ⟨vl⟩ := vs
    simp only at hvl
    rw [List.map_toArray, hvl]
  have hrun : (execOp a.eval o).run Tryd.prog w = .ok (.enter f vs) w := by
    have h1 : ¬ F.name = "runtime.NumGoroutine" := by simpa using hN
    have h2 : ¬ F.body = none := by intro h; rw [h] at hB; cases hB
    simp [execOp, hop, resolve, invoke, hvs, Deferred.ofValue, Act.eval, callFunc, Result.andThen, go_sem, hF, h1, h2]
  unfold Oper.wp
  rw [hrun, Oper.upon_enter]
  refine hC.mono fun e w' h => ?_
  obtain ⟨v, rfl, hk⟩ := hK e w' h
  exact hk
end Go.Proofs.YtkfcilandmhomaaDoor
