import Derived.Test.YtoifpdnaeogdgabDoorPack0
import Derived.Test.YtoifpdnaeogdgabDoorPack2
import Derived.Lib.AppendStr
namespace Go.Proofs.YtoifpdnaeogdgabDoor
open Go.RowKit
set_option maxRecDepth 8000

theorem hid {p : Prop} (h : p) : Hid p := h
theorem But.one (w : World) (b : Nat) : But (fun x => x = b) w w := But.refl _ w
theorem But.setAt {a w : World} {b : Nat} (h : But (fun x => x = b) a w) (o : Nat) (u : Value) : But (fun x => x = b) a (w.setCell ⟨b, o, none⟩ u) := h.setCell (p := ⟨b, o, none⟩) (fun _ => rfl) u

/-- ints in a row, in a block of S -/
structure Ints (w : World) (S : Nat → Prop) (p : Option Addr) (n c : Nat) (f : Nat → Int) : Prop where
  at_ : 0 < n → ∃ b o, p = some ⟨b, o, none⟩ ∧ S b ∧ b < w.heap.size ∧ ∀ j, j < n → w.cell? ⟨b, o + j, none⟩ = some (.int .i64 (f j))
  nc : n ≤ c
  nn : n ≤ 140737488355328
  cc : c ≤ maxLen
  fit : ∀ j, j < n → -9223372036854775808 ≤ f j ∧ f j ≤ 9223372036854775807
  nil : p = none → n = 0 ∧ c = 0
theorem Ints.kept {w w' : World} {S : Nat → Prop} {p : Option Addr} {n c : Nat} {f : Nat → Int} (h : Ints w S p n c f) (hs : w.heap.size ≤ w'.heap.size) (hb : ∀ b, S b → b < w.heap.size → w'.heap[b]? = w.heap[b]?) : Ints w' S p n c f := by
  refine ⟨fun hn => ?_, h.nc, h.nn, h.cc, h.fit, h.nil⟩
  obtain ⟨b, o, e, hS, hl, ha⟩ := h.at_ hn
  exact ⟨b, o, e, hS, Nat.lt_of_lt_of_le hl hs, fun j hj => (World.cell?_of_block (a := ⟨b, o + j, none⟩) (hb b hS hl)).trans (ha j hj)⟩
theorem Ints.mono {w : World} {S S' : Nat → Prop} {p : Option Addr} {n c : Nat} {f : Nat → Int} (h : Ints w S p n c f) (hb : ∀ b, S b → b < w.heap.size → S' b) : Ints w S' p n c f := by
  refine ⟨fun hn => ?_, h.nc, h.nn, h.cc, h.fit, h.nil⟩
  obtain ⟨b, o, e, hS, hl, ha⟩ := h.at_ hn
  exact ⟨b, o, e, hb b hS hl, hl, ha⟩

/-- what a list lays behind a row: nothing, or its cells -/
def Src (w : World) (p : Option Addr) (m c size : Nat) (news : List Value) : Prop := (p = none ∧ m = 0 ∧ c = 0 ∧ news = []) ∨ ∃ ad, p = some ad ∧ news.length = m * size ∧ ∀ j u, news[j]? = some u → w.cell? (ad.add j) = some u
theorem wpList_appS {w : World} {ops : Array Oper} {rest : List Oper} {o : Oper} {a : Act} {Q : Exit → Act → World → Prop} (hgd : o.guard = none) (s x : Operand)
    (t e : TypeId) (i : TypeInfo) (z : Value) (size bytes : Nat) (Kd : Kind t e i z size bytes)
    (ho : o.op = .call { callee := .builtin .append, args := #[s, x], argTypes := #[t, t] })
    (base : Nat) (v : Value) (n : Nat) (xs : List Value) (hs : a.eval s = v) (hown : w.ownsRow base e size v n xs)
    (p : Option Addr) (m c : Nat) (news : List Value) (hx : a.eval x = .slice p m c) (hsrc : Src w p m c size news) (h1 : ∀ u ∈ news, u.oneCell' = true)
    (h63 : n + m ≤ 140737488355328) (hbytes : (n + m) * bytes ≤ 140737488355328) (hbase : base ≤ w.heap.size)
    (h : ∀ v' w', w'.ownsRow base e size v' (n + m) (xs ++ news) → w.grownBy w' v.ownBlock → Near w v v' → wpList Tryd.prog ops Q rest (a.put o.dst v') w') :
    wpList Tryd.prog ops Q (o :: rest) a w := by
  rcases hsrc with ⟨rfl, rfl, rfl, rfl⟩ | ⟨ad, rfl, hl, hnews⟩
  · refine wpList_append_own_none hgd s x t ho base e i size Kd.ht Kd.hi v n xs hs hown hx ?_
    refine h v w ?_ ⟨rfl, rfl, rfl, Nat.le_refl _, fun _ _ _ => rfl⟩ (.inl rfl)
    simpa using hown
  · exact wpList_app hgd s x t e i z size bytes Kd ho base v n xs hs hown ad m c news hx hl hnews h1 h63 hbytes hbase h
theorem Ints.src {w : World} {S : Nat → Prop} {p : Option Addr} {n c : Nat} {f : Nat → Int} (h : Ints w S p n c f) : Src w p n c 1 ((List.range n).map fun j => .int .i64 (f j)) := by
  cases p with
  | none => obtain ⟨rfl, rfl⟩ := h.nil rfl; exact .inl ⟨rfl, rfl, rfl, rfl⟩
  | some ad =>
    refine .inr ⟨ad, rfl, by simp, fun j u hu => ?_⟩
    by_cases hj : j < n
    · obtain ⟨b, o, e, _, _, ha⟩ := h.at_ (by omega)
      cases e
      rw [Go.WideShapes.add_plain, ha j hj]
      simp [List.getElem?_range hj] at hu
      rw [hu]
    · simp [List.getElem?_eq_none (show ((List.range n).map fun j => Value.int .i64 (f j)).length ≤ j by simp; omega)] at hu
theorem oneCell_ints (n : Nat) (f : Nat → Int) : ∀ u ∈ ((List.range n).map fun j => Value.int .i64 (f j)), u.oneCell' = true := by
  intro u hu
  obtain ⟨j, _, rfl⟩ := List.mem_map.1 hu
  rfl
/-- a row of the call's own as ints -/
theorem Ints.own {w : World} {base n : Nat} {v : Value} {f : Nat → Int} (h : w.ownsRow base 3 1 v n ((List.range n).map fun j => .int .i64 (f j))) (hn : n ≤ 140737488355328) (hf : ∀ j, j < n → -9223372036854775808 ≤ f j ∧ f j ≤ 9223372036854775807) :
    ∃ p c, v = .slice p n c ∧ Ints w (fun b => base ≤ b) p n c f := by
  have hlt := h.lt
  obtain ⟨_, ⟨hv, h0⟩ | ⟨gb, cap, cur, hv, hbg, hh, hnc, hcm, hcs, htake⟩⟩ := id h
  · subst h0
    exact ⟨none, 0, hv, fun hn => absurd hn (by omega), Nat.le_refl _, hn, Nat.zero_le _, hf, fun _ => ⟨rfl, rfl⟩⟩
  · refine ⟨_, cap, hv, fun _ => ⟨gb, 0, rfl, hbg, (hlt gb (by rw [hv]; rfl)).2, fun j hj => ?_⟩, hnc, hn, hcm, hf, fun h => by cases h⟩
    have := h.cells (g := gb) (by rw [hv]; rfl) j (.int .i64 (f j)) (by simp [List.getElem?_range hj])
    rw [Go.WideShapes.add_plain] at this
    exact this

/-- a record with the addresses of its lists -/
structure RT where
  key : ByteArray
  v : VT
  p : Option Addr
  n : Nat
  c : Nat
  loop : Nat → Int
def RT.val (r : RT) : Value := .agg #[.string r.key, .int .i64 r.v.kind, .int .i64 r.v.int, .string r.v.text, .slice r.v.p r.v.n r.v.c, .slice r.p r.n r.c]
def RT.cells (r : RT) : List Value := [.string r.key, .int .i64 r.v.kind, .int .i64 r.v.int, .string r.v.text, .slice r.v.p r.v.n r.v.c, .slice r.p r.n r.c]
structure RT.In (w : World) (S : Nat → Prop) (r : RT) : Prop where
  v : VT.In w S r.v
  l : Ints w S r.p r.n r.c r.loop
  k : r.key.size ≤ 140737488355328
structure RT.Alike (r q : RT) : Prop where
  key : q.key = r.key
  v : VT.Alike r.v q.v
  n : q.n = r.n
  loop : ∀ j, j < r.n → q.loop j = r.loop j
theorem RT.In.kept {w w' : World} {S : Nat → Prop} {r : RT} (h : RT.In w S r) (hs : w.heap.size ≤ w'.heap.size) (hb : ∀ b, S b → b < w.heap.size → w'.heap[b]? = w.heap[b]?) : RT.In w' S r := ⟨h.v.kept hs hb, h.l.kept hs hb, h.k⟩
theorem RT.In.mono {w : World} {S S' : Nat → Prop} {r : RT} (h : RT.In w S r) (hb : ∀ b, S b → b < w.heap.size → S' b) : RT.In w S' r := ⟨h.v.mono hb, h.l.mono hb, h.k⟩
theorem RT.In.but {w w' : World} {S X : Nat → Prop} {r : RT} (h : RT.In w S r) (hb : But X w w') (hx : ∀ b, S b → b < w.heap.size → ¬ X b) : RT.In w' S r :=
  h.kept hb.size fun b hS hlt => hb.block b hlt (hx b hS hlt)
theorem RT.In.below {w w' : World} {S : Nat → Prop} {r : RT} (h : RT.In w S r) (hb : Below w.heap.size w w') : RT.In w' S r :=
  h.kept hb.size fun b _ hlt => hb.block b hlt

/-- a cell of a state is a value's text and items: its two cells -/
structure VT.Cell (w : World) (b o : Nat) (t : VT) : Prop where
  c0 : w.cell? ⟨b, o, none⟩ = some (.string t.text)
  c1 : w.cell? ⟨b, o + 1, none⟩ = some (.slice t.p t.n t.c)
theorem VT.Cell.kept {w w' : World} {b o : Nat} {t : VT} (h : VT.Cell w b o t) (hb : w'.heap[b]? = w.heap[b]?) : VT.Cell w' b o t :=
  ⟨(World.cell?_of_block (a := ⟨b, o, none⟩) hb).trans h.c0, (World.cell?_of_block (a := ⟨b, o + 1, none⟩) hb).trans h.c1⟩
def VT.two (t : VT) : List Value := [.string t.text, .slice t.p t.n t.c]
/-- a state with the addresses of its lists -/
structure ST where
  num : Int
  p : Option Addr
  n : Nat
  c : Nat
  cell : Nat → VT
def ST.val (s : ST) : Value := .agg #[.int .i64 s.num, .slice s.p s.n s.c]
def ST.cells (s : ST) : List Value := [.int .i64 s.num, .slice s.p s.n s.c]
structure ST.In (w : World) (S : Nat → Prop) (s : ST) : Prop where
  at_ : 0 < s.n → ∃ b o, s.p = some ⟨b, o, none⟩ ∧ S b ∧ b < w.heap.size ∧ ∀ j, j < s.n → VT.Cell w b (o + j * 2) (s.cell j)
  each : ∀ j, j < s.n → VT.In w S (s.cell j)
  nc : s.n ≤ s.c
  nn : s.n ≤ 140737488355328
  cc : s.c ≤ maxLen
  u0 : -9223372036854775808 ≤ s.num
  u1 : s.num ≤ 9223372036854775807
structure ST.Alike (s t : ST) : Prop where
  num : t.num = s.num
  n : t.n = s.n
  cell : ∀ j, j < s.n → VT.Alike (s.cell j) (t.cell j)
theorem ST.In.kept {w w' : World} {S : Nat → Prop} {s : ST} (h : ST.In w S s) (hs : w.heap.size ≤ w'.heap.size) (hb : ∀ b, S b → b < w.heap.size → w'.heap[b]? = w.heap[b]?) : ST.In w' S s := by
  refine ⟨fun hn => ?_, fun j hj => (h.each j hj).kept hs hb, h.nc, h.nn, h.cc, h.u0, h.u1⟩
  obtain ⟨b, o, e, hS, hl, ha⟩ := h.at_ hn
  exact ⟨b, o, e, hS, Nat.lt_of_lt_of_le hl hs, fun j hj => (ha j hj).kept (hb b hS hl)⟩
theorem ST.In.mono {w : World} {S S' : Nat → Prop} {s : ST} (h : ST.In w S s) (hb : ∀ b, S b → b < w.heap.size → S' b) : ST.In w S' s := by
  refine ⟨fun hn => ?_, fun j hj => (h.each j hj).mono hb, h.nc, h.nn, h.cc, h.u0, h.u1⟩
  obtain ⟨b, o, e, hS, hl, ha⟩ := h.at_ hn
  exact ⟨b, o, e, hb b hS hl, hl, ha⟩
theorem ST.In.but {w w' : World} {S X : Nat → Prop} {s : ST} (h : ST.In w S s) (hb : But X w w') (hx : ∀ b, S b → b < w.heap.size → ¬ X b) : ST.In w' S s :=
  h.kept hb.size fun b hS hlt => hb.block b hlt (hx b hS hlt)
theorem ST.In.below {w w' : World} {S : Nat → Prop} {s : ST} (h : ST.In w S s) (hb : Below w.heap.size w w') : ST.In w' S s :=
  h.kept hb.size fun b _ hlt => hb.block b hlt
/-- the parts below the first i cells -/
def ST.upto (s : ST) (i : Nat) : Nat := ((List.range i).map fun j => (s.cell j).total).sum
theorem ST.upto_succ (s : ST) (i : Nat) : s.upto (i + 1) = s.upto i + (s.cell i).total := by simp [ST.upto, List.range_succ]
theorem ST.upto_mono (s : ST) {i j : Nat} (h : i ≤ j) : s.upto i ≤ s.upto j := by
  induction h with
  | refl => exact Nat.le_refl _
  | step _ ih => rw [ST.upto_succ]; omega
def ST.total (s : ST) : Nat := s.n + s.upto s.n
theorem ST.cell_total (s : ST) {j : Nat} (h : j < s.n) : (s.cell j).total ≤ s.total := by
  have h1 := s.upto_mono (show j + 1 ≤ s.n from h)
  rw [ST.upto_succ] at h1
  unfold ST.total; omega
end Go.Proofs.YtoifpdnaeogdgabDoor

namespace Go.Proofs.YtoifpdnaeogdgabDoor
open Go.RowKit
set_option maxRecDepth 8000

/-- a number in groups of seven bits -/
def grpB (u : Nat) : List Int := if u < 128 then [(u : Int)] else ((u % 128 + 128 : Nat) : Int) :: grpB (u / 128)
termination_by u
decreasing_by omega
theorem grpB_small {u : Nat} (h : u < 128) : grpB u = [(u : Int)] := by rw [grpB, if_pos h]
theorem grpB_great {u : Nat} (h : ¬ u < 128) : grpB u = ((u % 128 + 128 : Nat) : Int) :: grpB (u / 128) := by rw [grpB, if_neg h]
theorem grpB_len : ∀ (k u : Nat), u < 128 ^ (k + 1) → (grpB u).length ≤ k + 1 := by
  intro k
  induction k with
  | zero => intro u h; rw [grpB_small (by simpa using h)]; simp
  | succ k ih =>
    intro u h
    by_cases hu : u < 128
    · rw [grpB_small hu]; simp
    · rw [grpB_great hu]
      have h1 : u / 128 < 128 ^ (k + 1) := by
        rw [Nat.div_lt_iff_lt_mul (by omega)]
        rw [Nat.pow_succ] at h
        exact h
      have := ih _ h1
      simp
      omega
/-- the number that an int is folded to -/
def foldN (i : Int) : Nat := if i < 0 then 2 * (-1 - i).toNat + 1 else 2 * i.toNat
/-- a text's bytes -/
def txtB (s : ByteArray) : List Int := s.data.toList.map fun b => (b.toNat : Int)
/-- a value's bytes -/
def encB : VT → List Int
  | .nil => [0]
  | .mk k i s n _ _ f => k :: (if k = 1 then grpB (foldN i) else if k = 2 then (s.size : Int) :: txtB s else if k = 3 then (n : Int) :: (List.range n).flatMap fun j => encB (f j) else [])
theorem encB_eq (k i : Int) (s : ByteArray) (n : Nat) (p : Option Addr) (c : Nat) (f : Nat → VT) : encB (.mk k i s n p c f) = k :: (if k = 1 then grpB (foldN i) else if k = 2 then (s.size : Int) :: txtB s else if k = 3 then (n : Int) :: (List.range n).flatMap fun j => encB (f j) else []) := rfl
/-- a part's bytes -/
def encP (q : PT) : List Int := q.kind :: (if q.kind = 1 then grpB (foldN q.int) else if q.kind = 2 then (q.text.size : Int) :: txtB q.text else if q.kind = 3 then [(q.n : Int)] else [])
theorem strCells_txt (s : ByteArray) : Go.Lib.strCells s = (txtB s).map (Value.int .u8) := by
  simp [Go.Lib.strCells, txtB, List.map_map, Function.comp_def]
theorem txtB_len (s : ByteArray) : (txtB s).length = s.size := by
  unfold txtB
  rw [List.length_map, Array.length_toList]
  rfl
theorem enc_flat : ∀ t : VT, Val t → (flatP t).flatMap encP = encB t := by
  intro t
  induction t with
  | nil => intro h; exact h.elim
  | mk k i s n p c f ih =>
    intro h
    obtain ⟨⟨h1, _⟩, h2⟩ := h
    rw [flatP_eq, encB_eq, List.flatMap_cons]
    have h3 : ((List.range n).flatMap fun j => flatP (f j)).flatMap encP = (List.range n).flatMap fun j => encB (f j) := by
      rw [List.flatMap_assoc, List.flatMap_def, List.flatMap_def]
      congr 1
      apply List.map_congr_left
      intro j hj
      exact ih j (h2 j (List.mem_range.1 hj))
    rw [h3]
    by_cases hk : k = 3
    · subst hk
      simp [encP]
    · have hn : n = 0 := by
        simp only [fitB, Bool.and_eq_true, Bool.or_eq_true, decide_eq_true_eq] at h1
        rcases h1.2 with h | h
        · exact h
        · exact absurd h hk
      subst hn
      simp [encP, hk]
theorem foldN_lt {i : Int} (h1 : -9223372036854775808 ≤ i) (h2 : i ≤ 9223372036854775807) : foldN i < 18446744073709551616 := by
  unfold foldN; split <;> omega
theorem grp_fold_len {i : Int} (h1 : -9223372036854775808 ≤ i) (h2 : i ≤ 9223372036854775807) : (grpB (foldN i)).length ≤ 10 :=
  grpB_len 9 _ (Nat.lt_of_lt_of_le (foldN_lt h1 h2) (by decide))
theorem encP_len {t : VT} (h : Val t) : ∀ q ∈ flatP t, (encP q).length ≤ 60 := by
  induction t with
  | nil => exact h.elim
  | mk k i s n p c f ih =>
    obtain ⟨⟨h1, h2, h3, h4, h5⟩, h6⟩ := h
    intro q hq
    rw [flatP_eq, List.mem_cons] at hq
    rcases hq with rfl | hq
    · have := grp_fold_len h4 h5
      have := txtB_len s
      simp only [encP]
      split
      · simp; omega
      · split
        · simp; omega
        · split <;> simp
    · obtain ⟨j, hj, hq⟩ := List.mem_flatMap.1 hq
      exact ih j (h6 j (List.mem_range.1 hj)) q hq
theorem flatMap_le {α β : Type} (g : α → List β) (m : Nat) : ∀ l : List α, (∀ q ∈ l, (g q).length ≤ m) → (l.flatMap g).length ≤ m * l.length := by
  intro l
  induction l with
  | nil => intro _; simp
  | cons a r ih =>
    intro h
    have h1 := h a (List.mem_cons_self ..)
    have h2 := ih fun q hq => h q (List.mem_cons_of_mem _ hq)
    rw [List.flatMap_cons, List.length_append, List.length_cons, Nat.mul_succ]
    omega
theorem enc_len {t : VT} (h : Val t) : (encB t).length ≤ 60 * (flatP t).length := by
  rw [← enc_flat t h]; exact flatMap_le _ _ _ (encP_len h)

theorem or128 (u : Nat) : (u % 256) ||| 128 = u % 128 + 128 := by
  have h : ∀ v : Nat, v < 256 → v ||| 128 = v % 128 + 128 := by decide
  rw [h _ (Nat.mod_lt _ (by omega))]
  omega
theorem bits_or128 (u : Nat) : bits BinOp.or IntKind.u8 ((u % 256 : Nat) : Int) 128 = ((u % 128 + 128 : Nat) : Int) := by
  rw [← or128]
  have h : ∀ v : Nat, v < 256 → bits BinOp.or IntKind.u8 (v : Int) 128 = ((v ||| 128 : Nat) : Int) := by decide
  exact h _ (Nat.mod_lt _ (by omega))
end Go.Proofs.YtoifpdnaeogdgabDoor

namespace Go.Proofs.YtoifpdnaeogdgabDoor
open Go.RowKit
set_option maxRecDepth 8000

theorem compl64 (X : Nat) (h : X < 2 ^ 64) : (2 ^ 64 - 1) ^^^ X = 2 ^ 64 - (X + 1) := by
  apply Nat.eq_of_testBit_eq
  intro i
  rw [Nat.testBit_xor, Nat.testBit_two_pow_sub_one, Nat.testBit_two_pow_sub_succ h]
  by_cases hi : i < 64
  · simp [hi]
  · have hx : X.testBit i = false := Nat.testBit_lt_two_pow (Nat.lt_of_lt_of_le h (Nat.pow_le_pow_right (by omega) (by omega)))
    simp [hi, hx]
theorem or_one (Y : Nat) : (2 * Y) ||| 1 = 2 * Y + 1 := by
  have := Nat.shiftLeft_add_eq_or_of_lt (b := 1) (i := 1) (by omega) Y
  rw [Nat.shiftLeft_eq] at this
  rw [Nat.mul_comm, show Y * 2 = Y * 2 ^ 1 from rfl, ← this]
theorem fold_neg (i : Int) (h1 : -9223372036854775808 ≤ i) (h : i < 0) :
    bits BinOp.or IntKind.u64 (IntKind.u64.wrap (bits BinOp.xor IntKind.u64 IntKind.u64.max (IntKind.u64.wrap i) * 2)) 1 = ((foldN i : Nat) : Int) := by
  obtain ⟨X, hX⟩ := Int.eq_ofNat_of_zero_le (show 0 ≤ i + 18446744073709551616 by omega)
  have e : IntKind.u64.wrap i = (X : Int) := by rw [wrap_u64]; omega
  have hm : IntKind.u64.max = ((18446744073709551615 : Nat) : Int) := by decide
  have h2 := bits_xor_u64_nat 18446744073709551615 X (by omega) (by omega)
  have h3 : 18446744073709551615 ^^^ X = 18446744073709551616 - (X + 1) := compl64 X (by omega)
  rw [h3] at h2
  rw [e, hm, h2]
  obtain ⟨Y, hY⟩ : ∃ Y : Nat, Y = 18446744073709551616 - (X + 1) := ⟨_, rfl⟩
  rw [← hY]
  have e2 : IntKind.u64.wrap ((Y : Int) * 2) = ((2 * Y : Nat) : Int) := by rw [wrap_u64]; omega
  have h4 := bits_or_u64_nat (2 * Y) 1 (by omega) (by omega)
  rw [or_one] at h4
  rw [e2]
  have h5 : foldN i = 2 * Y + 1 := by unfold foldN; rw [if_pos h]; omega
  rw [h5]
  exact h4

theorem one8 (x : Int) : ∀ u ∈ [Value.int .u8 x], u.oneCell' = true := by
  intro u hu
  simp only [List.mem_singleton] at hu
  subst hu
  rfl
/-- one more byte -/
theorem OwnBy.one {base : Nat} {w w' : World} {v v' : Value} {zs : List Int} {x : Int} (h : OwnBy base w v zs) (ho : w'.ownsRow base 5 1 v' (zs.length + 1) (zs.map (Value.int .u8) ++ [.int .u8 x])) : OwnBy base w' v' (zs ++ [x]) := h.app (ys := [x]) ho
theorem below_row {base : Nat} {w w1 w2 : World} {v : Value} {zs : List Int} (hb : Below base w w1) (hB : base ≤ w1.heap.size) (hv : OwnBy base w1 v zs) (o : Obj) (hg : (w1.alloc o).grownBy w2 v.ownBlock) : Below base w w2 :=
  (hb.trans (((Below.refl w1.heap.size w1).alloc (Nat.le_refl _) o).mono hB)).grown hg (by simp; omega) (fun k hk => (World.ownsRow.lt hv k hk).1)

/-- what is no row of bytes stays -/
def KeepN (w w' : World) : Prop := ∀ (B : Nat) (o : Obj), (∀ cs z, o ≠ Obj.cells cs 5 z) → w.heap[B]? = some o → w'.heap[B]? = some o
theorem KeepN.refl (w : World) : KeepN w w := fun _ _ _ h => h
theorem KeepN.trans {a b c : World} (h : KeepN a b) (k : KeepN b c) : KeepN a c := fun B o he hb => k B o he (h B o he hb)
theorem KeepN.below {w w' : World} (h : Below w.heap.size w w') : KeepN w w' := fun B o _ hb => by
  have hl : B < w.heap.size := by
    rcases Nat.lt_or_ge B w.heap.size with h1 | h1
    · exact h1
    · rw [Array.getElem?_eq_none h1] at hb; cases hb
  rw [h.block B hl]; exact hb
theorem KeepN.box {w w' : World} (h : KeepN w w') {B : Nat} {cs : Array Value} {e : TypeId} (he : e ≠ 5) (hb : Box w B cs e) : Box w' B cs e := h B _ (fun cs2 z e2 => by simp only [Obj.cells.injEq] at e2; exact he e2.2.1) hb
theorem KeepN.grown {base : Nat} {w w' : World} {v : Value} {zs : List Int} (hv : OwnBy base w v zs) (hg : w.grownBy w' v.ownBlock) : KeepN w w' := fun B o he hb => by
  have hl : B < w.heap.size := by
    rcases Nat.lt_or_ge B w.heap.size with h1 | h1
    · exact h1
    · rw [Array.getElem?_eq_none h1] at hb; cases hb
  refine (hg.block B hl fun hB => ?_).trans hb
  obtain ⟨_, ⟨hv2, _⟩ | ⟨g, cap, cur, hv2, _, hh, _⟩⟩ := id hv
  · rw [hv2] at hB; cases hB
  · rw [hv2] at hB
    have e1 : B = g := by simpa [Value.ownBlock] using hB
    rw [e1, hh] at hb
    simp only [Option.some.injEq] at hb
    exact he _ _ hb.symm
/-- bytes laid behind a row -/
structure LayB (base : Nat) (w : World) (zs : List Int) (v' : Value) (w' : World) : Prop where
  own : OwnBy base w' v' zs
  bel : Below base w w'
  keep : KeepN w w'
theorem LayB.refl {base : Nat} {w : World} {v : Value} {zs : List Int} (h : OwnBy base w v zs) : LayB base w zs v w := ⟨h, Below.refl _ _, KeepN.refl _⟩
theorem LayB.lift {base : Nat} {a w w' : World} {v' : Value} {zs : List Int} (h : LayB base w zs v' w') (hb : Below base a w) (hk : KeepN a w) : LayB base a zs v' w' := ⟨h.own, hb.trans h.bel, hk.trans h.keep⟩
/-- one byte more, by an append of a new list -/
theorem LayB.one {base : Nat} {a w w' : World} {v v' : Value} {zs : List Int} {x : Int} (h : LayB base a zs v w) (hB : base ≤ w.heap.size) (ho : w'.ownsRow base 5 1 v' (zs.length + 1) (zs.map (Value.int .u8) ++ [.int .u8 x])) (hg : (w.alloc (.cells #[.int .u8 x] 5)).grownBy w' v.ownBlock) : LayB base a (zs ++ [x]) v' w' :=
  ⟨h.own.one ho, below_row h.bel hB h.own _ hg, (h.keep.trans (KeepN.below ((Below.refl _ _).alloc (Nat.le_refl _) _))).trans (KeepN.grown (h.own.below ((Below.refl _ _).alloc (Nat.le_refl _) _)) hg)⟩
/-- a text's bytes more -/
theorem LayB.text {base : Nat} {a w w' : World} {v v' : Value} {zs : List Int} {s : ByteArray} (h : LayB base a zs v w) (hB : base ≤ w.heap.size) (ho : w'.ownsRow base 5 1 v' (zs.length + s.size) (zs.map (Value.int .u8) ++ Go.Lib.strCells s)) (hg : w.grownBy w' v.ownBlock) : LayB base a (zs ++ txtB s) v' w' :=
  ⟨h.own.app (by rw [← strCells_txt, txtB_len]; exact ho), h.bel.grown hg hB (fun k hk => (World.ownsRow.lt h.own k hk).1), h.keep.trans (KeepN.grown h.own hg)⟩
def EPost (base : Nat) (w : World) (zs : List Int) (e : Ending) (w' : World) : Prop := ∃ v', e = .returned v' ∧ LayB base w zs v' w'

end Go.Proofs.YtoifpdnaeogdgabDoor
