import Derived.Test.YtgnamngnmbaeeaaDoorPack5
namespace Go.Proofs.YtgnamngnmbaeeaaDoor
open Go.RowKit
set_option maxRecDepth 8000

theorem hid {p : Prop} (h : p) : Hid p := h
theorem But.one (w : World) (b : Nat) : But (fun x => x = b) w w := But.refl _ w
theorem But.setAt {a w : World} {b : Nat} (h : But (fun x => x = b) a w) (o : Nat) (u : Value) : But (fun x => x = b) a (w.setCell ⟨b, o, none⟩ u) := h.setCell (p := ⟨b, o, none⟩) (fun _ => rfl) u

/-- ints in a row, in a block of S -/
structure Ints (w : World) (S : Nat → Prop) (p : Option Addr) (n c : Nat) (f : Nat → Int) : Prop where
  at_ : 0 < n → ∃ b o, p = some ⟨b, o, none⟩ ∧ S b ∧ b < w.heap.size ∧ ∀ j, j < n → w.cell? ⟨b, o + j, none⟩ = some (.int .i64 (f j))
  nc : n ≤ c
  nn : n ≤ 140737488355328
  cc : c ≤ maxLen
  fit : ∀ j, j < n → -9223372036854775808 ≤ f j ∧ f j ≤ 9223372036854775807
  nil : p = none → n = 0 ∧ c = 0
theorem Ints.kept {w w' : World} {S : Nat → Prop} {p : Option Addr} {n c : Nat} {f : Nat → Int} (h : Ints w S p n c f) (hs : w.heap.size ≤ w'.heap.size) (hb : ∀ b, S b → b < w.heap.size → w'.heap[b]? = w.heap[b]?) : Ints w' S p n c f := by
  refine ⟨fun hn => ?_, h.nc, h.nn, h.cc, h.fit, h.nil⟩
  obtain ⟨b, o, e, hS, hl, ha⟩ := h.at_ hn
  exact ⟨b, o, e, hS, Nat.lt_of_lt_of_le hl hs, fun j hj => (World.cell?_of_block (a := ⟨b, o + j, none⟩) (hb b hS hl)).trans (ha j hj)⟩
theorem Ints.mono {w : World} {S S' : Nat → Prop} {p : Option Addr} {n c : Nat} {f : Nat → Int} (h : Ints w S p n c f) (hb : ∀ b, S b → b < w.heap.size → S' b) : Ints w S' p n c f := by
  refine ⟨fun hn => ?_, h.nc, h.nn, h.cc, h.fit, h.nil⟩
  obtain ⟨b, o, e, hS, hl, ha⟩ := h.at_ hn
  exact ⟨b, o, e, hb b hS hl, hl, ha⟩

/-- what a list lays behind a row: nothing, or its cells -/
def Src (w : World) (p : Option Addr) (m c size : Nat) (news : List Value) : Prop := (p = none ∧ m = 0 ∧ c = 0 ∧ news = []) ∨ ∃ ad, p = some ad ∧ news.length = m * size ∧ ∀ j u, news[j]? = some u → w.cell? (ad.add j) = some u
theorem wpList_appS {w : World} {ops : Array Oper} {rest : List Oper} {o : Oper} {a : Act} {Q : Exit → Act → World → Prop} (hgd : o.guard = none) (s x : Operand)
    (t e : TypeId) (i : TypeInfo) (z : Value) (size bytes : Nat) (Kd : Kind t e i z size bytes)
    (ho : o.op = .call { callee := .builtin .append, args := #[s, x], argTypes := #[t, t] })
    (base : Nat) (v : Value) (n : Nat) (xs : List Value) (hs : a.eval s = v) (hown : w.ownsRow base e size v n xs)
    (p : Option Addr) (m c : Nat) (news : List Value) (hx : a.eval x = .slice p m c) (hsrc : Src w p m c size news) (h1 : ∀ u ∈ news, u.oneCell' = true)
    (h63 : n + m ≤ 140737488355328) (hbytes : (n + m) * bytes ≤ 140737488355328) (hbase : base ≤ w.heap.size)
    (h : ∀ v' w', w'.ownsRow base e size v' (n + m) (xs ++ news) → w.grownBy w' v.ownBlock → Near w v v' → wpList Tryd.prog ops Q rest (a.put o.dst v') w') :
    wpList Tryd.prog ops Q (o :: rest) a w := by
  rcases hsrc with ⟨rfl, rfl, rfl, rfl⟩ | ⟨ad, rfl, hl, hnews⟩
  · refine wpList_append_own_none hgd s x t ho base e i size Kd.ht Kd.hi v n xs hs hown hx ?_
    refine h v w ?_ ⟨rfl, rfl, rfl, Nat.le_refl _, fun _ _ _ => rfl⟩ (.inl rfl)
    simpa using hown
  · exact wpList_app hgd s x t e i z size bytes Kd ho base v n xs hs hown ad m c news hx hl hnews h1 h63 hbytes hbase h
theorem Ints.src {w : World} {S : Nat → Prop} {p : Option Addr} {n c : Nat} {f : Nat → Int} (h : Ints w S p n c f) : Src w p n c 1 ((List.range n).map fun j => .int .i64 (f j)) := by
  cases p with
  | none => obtain ⟨rfl, rfl⟩ := h.nil rfl; exact .inl ⟨rfl, rfl, rfl, rfl⟩
  | some ad =>
    refine .inr ⟨ad, rfl, by simp, fun j u hu => ?_⟩
    by_cases hj : j < n
    · obtain ⟨b, o, e, _, _, ha⟩ := h.at_ (by omega)
      cases e
      rw [Go.WideShapes.add_plain, ha j hj]
      simp [List.getElem?_range hj] at hu
      rw [hu]
    · simp [List.getElem?_eq_none (show ((List.range n).map fun j => Value.int .i64 (f j)).length ≤ j by simp; omega)] at hu
theorem oneCell_ints (n : Nat) (f : Nat → Int) : ∀ u ∈ ((List.range n).map fun j => Value.int .i64 (f j)), u.oneCell' = true := by
  intro u hu
  obtain ⟨j, _, rfl⟩ := List.mem_map.1 hu
  rfl
/-- a row of the call's own as ints -/
theorem Ints.own {w : World} {base n : Nat} {v : Value} {f : Nat → Int} (h : w.ownsRow base 3 1 v n ((List.range n).map fun j => .int .i64 (f j))) (hn : n ≤ 140737488355328) (hf : ∀ j, j < n → -9223372036854775808 ≤ f j ∧ f j ≤ 9223372036854775807) :
    ∃ p c, v = .slice p n c ∧ Ints w (fun b => base ≤ b) p n c f := by
  have hlt := h.lt
  obtain ⟨_, ⟨hv, h0⟩ | ⟨gb, cap, cur, hv, hbg, hh, hnc, hcm, hcs, htake⟩⟩ := id h
  · subst h0
    exact ⟨none, 0, hv, fun hn => absurd hn (by omega), Nat.le_refl _, hn, Nat.zero_le _, hf, fun _ => ⟨rfl, rfl⟩⟩
  · refine ⟨_, cap, hv, fun _ => ⟨gb, 0, rfl, hbg, (hlt gb (by rw [hv]; rfl)).2, fun j hj => ?_⟩, hnc, hn, hcm, hf, fun h => by cases h⟩
    have := h.cells (g := gb) (by rw [hv]; rfl) j (.int .i64 (f j)) (by simp [List.getElem?_range hj])
    rw [Go.WideShapes.add_plain] at this
    exact this

/-- a record with the addresses of its lists -/
structure RT where
  key : ByteArray
  v : VT
  p : Option Addr
  n : Nat
  c : Nat
  loop : Nat → Int
def RT.val (r : RT) : Value := .agg #[.string r.key, .int .i64 r.v.kind, .int .i64 r.v.int, .string r.v.text, .slice r.v.p r.v.n r.v.c, .slice r.p r.n r.c]
def RT.cells (r : RT) : List Value := [.string r.key, .int .i64 r.v.kind, .int .i64 r.v.int, .string r.v.text, .slice r.v.p r.v.n r.v.c, .slice r.p r.n r.c]
structure RT.In (w : World) (S : Nat → Prop) (r : RT) : Prop where
  v : VT.In w S r.v
  l : Ints w S r.p r.n r.c r.loop
  k : r.key.size ≤ 140737488355328
structure RT.Alike (r q : RT) : Prop where
  key : q.key = r.key
  v : VT.Alike r.v q.v
  n : q.n = r.n
  loop : ∀ j, j < r.n → q.loop j = r.loop j
theorem RT.In.kept {w w' : World} {S : Nat → Prop} {r : RT} (h : RT.In w S r) (hs : w.heap.size ≤ w'.heap.size) (hb : ∀ b, S b → b < w.heap.size → w'.heap[b]? = w.heap[b]?) : RT.In w' S r := ⟨h.v.kept hs hb, h.l.kept hs hb, h.k⟩
theorem RT.In.mono {w : World} {S S' : Nat → Prop} {r : RT} (h : RT.In w S r) (hb : ∀ b, S b → b < w.heap.size → S' b) : RT.In w S' r := ⟨h.v.mono hb, h.l.mono hb, h.k⟩
theorem RT.In.but {w w' : World} {S X : Nat → Prop} {r : RT} (h : RT.In w S r) (hb : But X w w') (hx : ∀ b, S b → b < w.heap.size → ¬ X b) : RT.In w' S r :=
  h.kept hb.size fun b hS hlt => hb.block b hlt (hx b hS hlt)
theorem RT.In.below {w w' : World} {S : Nat → Prop} {r : RT} (h : RT.In w S r) (hb : Below w.heap.size w w') : RT.In w' S r :=
  h.kept hb.size fun b _ hlt => hb.block b hlt

/-- a cell of a state is a value's text and items: its two cells -/
structure VT.Cell (w : World) (b o : Nat) (t : VT) : Prop where
  c0 : w.cell? ⟨b, o, none⟩ = some (.string t.text)
  c1 : w.cell? ⟨b, o + 1, none⟩ = some (.slice t.p t.n t.c)
theorem VT.Cell.kept {w w' : World} {b o : Nat} {t : VT} (h : VT.Cell w b o t) (hb : w'.heap[b]? = w.heap[b]?) : VT.Cell w' b o t :=
  ⟨(World.cell?_of_block (a := ⟨b, o, none⟩) hb).trans h.c0, (World.cell?_of_block (a := ⟨b, o + 1, none⟩) hb).trans h.c1⟩
def VT.two (t : VT) : List Value := [.string t.text, .slice t.p t.n t.c]
/-- a state with the addresses of its lists -/
structure ST where
  num : Int
  p : Option Addr
  n : Nat
  c : Nat
  cell : Nat → VT
def ST.val (s : ST) : Value := .agg #[.int .i64 s.num, .slice s.p s.n s.c]
def ST.cells (s : ST) : List Value := [.int .i64 s.num, .slice s.p s.n s.c]
structure ST.In (w : World) (S : Nat → Prop) (s : ST) : Prop where
  at_ : 0 < s.n → ∃ b o, s.p = some ⟨b, o, none⟩ ∧ S b ∧ b < w.heap.size ∧ ∀ j, j < s.n → VT.Cell w b (o + j * 2) (s.cell j)
  each : ∀ j, j < s.n → VT.In w S (s.cell j)
  nc : s.n ≤ s.c
  nn : s.n ≤ 140737488355328
  cc : s.c ≤ maxLen
  u0 : -9223372036854775808 ≤ s.num
  u1 : s.num ≤ 9223372036854775807
structure ST.Alike (s t : ST) : Prop where
  num : t.num = s.num
  n : t.n = s.n
  cell : ∀ j, j < s.n → VT.Alike (s.cell j) (t.cell j)
theorem ST.In.kept {w w' : World} {S : Nat → Prop} {s : ST} (h : ST.In w S s) (hs : w.heap.size ≤ w'.heap.size) (hb : ∀ b, S b → b < w.heap.size → w'.heap[b]? = w.heap[b]?) : ST.In w' S s := by
  refine ⟨fun hn => ?_, fun j hj => (h.each j hj).kept hs hb, h.nc, h.nn, h.cc, h.u0, h.u1⟩
  obtain ⟨b, o, e, hS, hl, ha⟩ := h.at_ hn
  exact ⟨b, o, e, hS, Nat.lt_of_lt_of_le hl hs, fun j hj => (ha j hj).kept (hb b hS hl)⟩
theorem ST.In.mono {w : World} {S S' : Nat → Prop} {s : ST} (h : ST.In w S s) (hb : ∀ b, S b → b < w.heap.size → S' b) : ST.In w S' s := by
  refine ⟨fun hn => ?_, fun j hj => (h.each j hj).mono hb, h.nc, h.nn, h.cc, h.u0, h.u1⟩
  obtain ⟨b, o, e, hS, hl, ha⟩ := h.at_ hn
  exact ⟨b, o, e, hb b hS hl, hl, ha⟩
theorem ST.In.but {w w' : World} {S X : Nat → Prop} {s : ST} (h : ST.In w S s) (hb : But X w w') (hx : ∀ b, S b → b < w.heap.size → ¬ X b) : ST.In w' S s :=
  h.kept hb.size fun b hS hlt => hb.block b hlt (hx b hS hlt)
theorem ST.In.below {w w' : World} {S : Nat → Prop} {s : ST} (h : ST.In w S s) (hb : Below w.heap.size w w') : ST.In w' S s :=
  h.kept hb.size fun b _ hlt => hb.block b hlt
/-- the parts below the first i cells -/
def ST.upto (s : ST) (i : Nat) : Nat := ((List.range i).map fun j => (s.cell j).total).sum
theorem ST.upto_succ (s : ST) (i : Nat) : s.upto (i + 1) = s.upto i + (s.cell i).total := by simp [ST.upto, List.range_succ]
theorem ST.upto_mono (s : ST) {i j : Nat} (h : i ≤ j) : s.upto i ≤ s.upto j := by
  induction h with
  | refl => exact Nat.le_refl _
  | step _ ih => rw [ST.upto_succ]; omega
def ST.total (s : ST) : Nat := s.n + s.upto s.n
theorem ST.cell_total (s : ST) {j : Nat} (h : j < s.n) : (s.cell j).total ≤ s.total := by
  have h1 := s.upto_mono (show j + 1 ≤ s.n from h)
  rw [ST.upto_succ] at h1
  unfold ST.total; omega
end Go.Proofs.YtgnamngnmbaeeaaDoor

namespace Go.Proofs.YtgnamngnmbaeeaaDoor
open Go.RowKit
set_option maxRecDepth 8000
/-- bytes in a row, in a block of S -/
structure Byts (w : World) (S : Nat → Prop) (p : Option Addr) (n c : Nat) (f : Nat → Int) : Prop where
  at_ : 0 < n → ∃ b o, p = some ⟨b, o, none⟩ ∧ S b ∧ b < w.heap.size ∧ ∀ j, j < n → w.cell? ⟨b, o + j, none⟩ = some (.int .u8 (f j))
  nc : n ≤ c
  nn : n ≤ 140737488355328
  cc : c ≤ maxLen
  fit : ∀ j, j < n → 0 ≤ f j ∧ f j < 256
  nil : p = none → n = 0 ∧ c = 0
theorem Byts.kept {w w' : World} {S : Nat → Prop} {p : Option Addr} {n c : Nat} {f : Nat → Int} (h : Byts w S p n c f) (hs : w.heap.size ≤ w'.heap.size) (hb : ∀ b, S b → b < w.heap.size → w'.heap[b]? = w.heap[b]?) : Byts w' S p n c f := by
  refine ⟨fun hn => ?_, h.nc, h.nn, h.cc, h.fit, h.nil⟩
  obtain ⟨b, o, e, hS, hl, ha⟩ := h.at_ hn
  exact ⟨b, o, e, hS, Nat.lt_of_lt_of_le hl hs, fun j hj => (World.cell?_of_block (a := ⟨b, o + j, none⟩) (hb b hS hl)).trans (ha j hj)⟩
theorem Byts.mono {w : World} {S S' : Nat → Prop} {p : Option Addr} {n c : Nat} {f : Nat → Int} (h : Byts w S p n c f) (hb : ∀ b, S b → b < w.heap.size → S' b) : Byts w S' p n c f := by
  refine ⟨fun hn => ?_, h.nc, h.nn, h.cc, h.fit, h.nil⟩
  obtain ⟨b, o, e, hS, hl, ha⟩ := h.at_ hn
  exact ⟨b, o, e, hb b hS hl, hl, ha⟩
theorem Byts.src {w : World} {S : Nat → Prop} {p : Option Addr} {n c : Nat} {f : Nat → Int} (h : Byts w S p n c f) : Src w p n c 1 ((List.range n).map fun j => .int .u8 (f j)) := by
  cases p with
  | none => obtain ⟨rfl, rfl⟩ := h.nil rfl; exact .inl ⟨rfl, rfl, rfl, rfl⟩
  | some ad =>
    refine .inr ⟨ad, rfl, by simp, fun j u hu => ?_⟩
    by_cases hj : j < n
    · obtain ⟨b, o, e, _, _, ha⟩ := h.at_ (by omega)
      cases e
      rw [Go.WideShapes.add_plain, ha j hj]
      simp [List.getElem?_range hj] at hu
      rw [hu]
    · simp [List.getElem?_eq_none (show ((List.range n).map fun j => Value.int .u8 (f j)).length ≤ j by simp; omega)] at hu
theorem oneCell_byts (n : Nat) (f : Nat → Int) : ∀ u ∈ ((List.range n).map fun j => Value.int .u8 (f j)), u.oneCell' = true := by
  intro u hu
  obtain ⟨j, _, rfl⟩ := List.mem_map.1 hu
  rfl
end Go.Proofs.YtgnamngnmbaeeaaDoor

namespace Go.Proofs.YtgnamngnmbaeeaaDoor
open Go.RowKit
set_option maxRecDepth 8000
theorem kindB : ∃ i, Kind 36 5 i (.int .u8 0) 1 1 := by
  obtain ⟨i0, hi, hz0, hz1, hz2⟩ := info_parts (show (Tryd.prog.info? 5).map (fun i => (i.zero, i.size, i.bytes)) = some (some (.int .u8 0), 1, 1) by kernel_rfl)
  exact ⟨i0, Tryd.underlying36, hi, hz0, hz1, hz2, rfl, by decide⟩
theorem wrap_u64 (x : Int) : IntKind.u64.wrap x = x % 18446744073709551616 := by
  simp [IntKind.wrap, IntKind.bits, IntKind.signed]
/-- a row of one byte -/
theorem row_one (w : World) (x : Int) : (w.alloc (.cells #[.int .u8 x] 5)).ownsRow w.heap.size 5 1 (.slice (some ⟨w.heap.size, 0, none⟩) 1 1) 1 [.int .u8 x] := by
  have h := World.ownsRow_made (base := w.heap.size) (e := 5) (size := 1) w #[.int .u8 x] 1 (Nat.le_refl _) (by unfold maxLen; omega) (by simp)
  refine ⟨by simp, .inr ⟨w.heap.size, 1, #[.int .u8 x], rfl, Nat.le_refl _, ?_, Nat.le_refl _, by unfold maxLen; omega, by simp, by simp⟩⟩
  exact Box.new w _ 5

/-- bytes in a row of the call's own -/
def OwnBy (base : Nat) (w : World) (v : Value) (zs : List Int) : Prop := w.ownsRow base 5 1 v zs.length (zs.map (Value.int .u8))
theorem OwnBy.app {base : Nat} {w w' : World} {v v' : Value} {zs ys : List Int} (_h : OwnBy base w v zs) (ho : w'.ownsRow base 5 1 v' (zs.length + ys.length) (zs.map (Value.int .u8) ++ ys.map (Value.int .u8))) : OwnBy base w' v' (zs ++ ys) := by
  unfold OwnBy
  rw [List.length_append, List.map_append]
  exact ho
theorem OwnBy.below {base : Nat} {w w' : World} {v : Value} {zs : List Int} (h : OwnBy base w v zs) (hb : Below w.heap.size w w') : OwnBy base w' v zs := ownsRow_keep h fun g _ hl => hb.block g hl
theorem OwnBy.slice {base : Nat} {w : World} {v : Value} {zs : List Int} (h : OwnBy base w v zs) (hz : 0 < zs.length) : ∃ b c, v = .slice (some ⟨b, 0, none⟩) zs.length c ∧ base ≤ b ∧ b < w.heap.size ∧ ∀ j u, (zs.map (Value.int .u8))[j]? = some u → w.cell? ((⟨b, 0, none⟩ : Addr).add j) = some u := by
  have hlt := World.ownsRow.lt h
  have hc := @World.ownsRow.cells _ _ _ _ _ _ _ h
  obtain ⟨_, ⟨hv, h0⟩ | ⟨b, cap, cur, hv, hbg, hh, _⟩⟩ := id h
  · omega
  · exact ⟨b, cap, hv, hbg, (hlt b (by rw [hv]; rfl)).2, hc (by rw [hv]; rfl)⟩
end Go.Proofs.YtgnamngnmbaeeaaDoor
