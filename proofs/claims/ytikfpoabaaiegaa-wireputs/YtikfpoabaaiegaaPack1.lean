import Derived.Test.YtikfpoabaaiegaaPack0
import Derived.Lib.Strings
import Derived.Lib.Bytealg
namespace Go.Proofs.Ytikfpoabaaiegaa
open Go.RowKit
set_option maxRecDepth 8000

/-- what stands in a row: its type, how many cells, which, and what they hold elsewhere -/
structure El (α : Type) where
  ty : TypeId
  size : Nat
  cells : α → List Value
  len : ∀ x, (cells x).length = size
  one : ∀ x u, u ∈ cells x → u.oneCell' = true
  In : World → (Nat → Prop) → α → Prop
  kept : ∀ {w w' : World} {S : Nat → Prop} {x : α}, In w S x → w.heap.size ≤ w'.heap.size → (∀ b, S b → b < w.heap.size → w'.heap[b]? = w.heap[b]?) → In w' S x
  mono : ∀ {w : World} {S S' : Nat → Prop} {x : α}, In w S x → (∀ b, S b → b < w.heap.size → S' b) → In w S' x
/-- a list with its address -/
structure LT (α : Type) where
  p : Option Addr
  n : Nat
  c : Nat
  item : Nat → α
def LT.val {α : Type} (l : LT α) : Value := .slice l.p l.n l.c
structure LT.In {α : Type} (E : El α) (w : World) (S : Nat → Prop) (l : LT α) : Prop where
  at_ : 0 < l.n → ∃ b o, l.p = some ⟨b, o, none⟩ ∧ S b ∧ b < w.heap.size ∧ ∀ j, j < l.n → ∀ r u, (E.cells (l.item j))[r]? = some u → w.cell? ⟨b, o + j * E.size + r, none⟩ = some u
  each : ∀ j, j < l.n → E.In w S (l.item j)
  nc : l.n ≤ l.c
  nn : l.n ≤ 140737488355328
  cc : l.c ≤ maxLen
  nil : l.p = none → l.n = 0 ∧ l.c = 0
theorem LT.In.kept {α : Type} {E : El α} {w w' : World} {S : Nat → Prop} {l : LT α} (h : LT.In E w S l) (hs : w.heap.size ≤ w'.heap.size) (hb : ∀ b, S b → b < w.heap.size → w'.heap[b]? = w.heap[b]?) : LT.In E w' S l := by
  refine ⟨fun hn => ?_, fun j hj => E.kept (h.each j hj) hs hb, h.nc, h.nn, h.cc, h.nil⟩
  obtain ⟨b, o, e, hS, hl, ha⟩ := h.at_ hn
  exact ⟨b, o, e, hS, Nat.lt_of_lt_of_le hl hs, fun j hj r u hu => (World.cell?_of_block (a := ⟨b, o + j * E.size + r, none⟩) (hb b hS hl)).trans (ha j hj r u hu)⟩
theorem LT.In.mono {α : Type} {E : El α} {w : World} {S S' : Nat → Prop} {l : LT α} (h : LT.In E w S l) (hb : ∀ b, S b → b < w.heap.size → S' b) : LT.In E w S' l := by
  refine ⟨fun hn => ?_, fun j hj => E.mono (h.each j hj) hb, h.nc, h.nn, h.cc, h.nil⟩
  obtain ⟨b, o, e, hS, hl, ha⟩ := h.at_ hn
  exact ⟨b, o, e, hb b hS hl, hl, ha⟩
theorem LT.In.below {α : Type} {E : El α} {w w' : World} {S : Nat → Prop} {l : LT α} (h : LT.In E w S l) (hb : Below w.heap.size w w') : LT.In E w' S l := h.kept hb.size fun b _ hl => hb.block b hl
theorem LT.In.but {α : Type} {E : El α} {w w' : World} {S X : Nat → Prop} {l : LT α} (h : LT.In E w S l) (hb : But X w w') (hx : ∀ b, S b → b < w.heap.size → ¬ X b) : LT.In E w' S l :=
  h.kept hb.size fun b hS hl => hb.block b hl (hx b hS hl)
/-- an empty list -/
theorem LT.In.none_ {α : Type} (E : El α) (w : World) (S : Nat → Prop) (p : Option Addr) (c : Nat) (f : Nat → α) (hc : c ≤ maxLen) (hp : p = none → c = 0) : LT.In E w S ⟨p, 0, c, f⟩ :=
  ⟨fun h => absurd h (by simp), fun j h => absurd h (by simp), Nat.zero_le _, Nat.zero_le _, hc, fun h => ⟨rfl, hp h⟩⟩

theorem range_flat_len {α : Type} (E : El α) (g : Nat → α) (m : Nat) : ((List.range m).flatMap fun j => E.cells (g j)).length = m * E.size := by
  induction m with
  | zero => simp
  | succ m ih => rw [List.range_succ, List.flatMap_append, List.length_append, ih]; simp [E.len, Nat.add_mul]
theorem range_flat_get {α : Type} (E : El α) (g : Nat → α) : ∀ (n j r : Nat), j < n → r < E.size → ((List.range n).flatMap fun j => E.cells (g j))[j * E.size + r]? = (E.cells (g j))[r]? := by
  intro n
  induction n with
  | zero => intro j r h; omega
  | succ n ih =>
    intro j r hj hr
    rw [List.range_succ, List.flatMap_append]
    by_cases h : j < n
    · have h1 : (j + 1) * E.size ≤ n * E.size := Nat.mul_le_mul h (Nat.le_refl _)
      rw [Nat.add_mul] at h1
      rw [List.getElem?_append_left (by rw [range_flat_len]; omega)]
      exact ih j r h hr
    · obtain rfl : j = n := by omega
      rw [List.getElem?_append_right (by rw [range_flat_len]; omega), range_flat_len]
      simp only [List.flatMap_cons, List.flatMap_nil, List.append_nil]
      congr 1
      omega
/-- a row of the call's own, and what it holds in other blocks -/
structure OwnL {α : Type} (E : El α) (base : Nat) (w : World) (v : Value) (n : Nat) (g : Nat → α) : Prop where
  own : w.ownsRow base E.ty E.size v n ((List.range n).flatMap fun j => E.cells (g j))
  each : ∀ j, j < n → E.In w (fun b => base ≤ b ∧ v.ownBlock ≠ some b) (g j)
theorem OwnL.keep {α : Type} {E : El α} {base : Nat} {w w' : World} {v : Value} {n : Nat} {g : Nat → α} (h : OwnL E base w v n g) (hs : w.heap.size ≤ w'.heap.size) (hb : ∀ k, base ≤ k → k < w.heap.size → w'.heap[k]? = w.heap[k]?) : OwnL E base w' v n g :=
  ⟨ownsRow_keep h.own (fun k hk hl => hb k (h.own.lt k hk).1 hl), fun j hj => E.kept (h.each j hj) hs (fun b hS hl => hb b hS.1 hl)⟩
theorem OwnL.push {α : Type} {E : El α} {base : Nat} {w w' : World} {v v' : Value} {n : Nat} {g : Nat → α} {u : α} (h : OwnL E base w v n g) (hu : E.In w (fun b => base ≤ b ∧ v.ownBlock ≠ some b) u)
    (hown : w'.ownsRow base E.ty E.size v' (n + 1) (((List.range n).flatMap fun j => E.cells (g j)) ++ E.cells u)) (hg : w.grownBy w' v.ownBlock) (hn : Near w v v') :
    OwnL E base w' v' (n + 1) (fun j => if j < n then g j else u) := by
  have key : ∀ x, E.In w (fun b => base ≤ b ∧ v.ownBlock ≠ some b) x → E.In w' (fun b => base ≤ b ∧ v'.ownBlock ≠ some b) x := by
    intro x hx
    have h1 : E.In w (fun b => base ≤ b ∧ v.ownBlock ≠ some b ∧ v'.ownBlock ≠ some b) x := by
      refine E.mono hx fun b hb hl => ⟨hb.1, hb.2, fun e => ?_⟩
      rcases hn with h1 | h1
      · exact hb.2 (h1 ▸ e)
      · have := h1 b e; omega
    have h2 := E.kept h1 hg.size (fun b hb hl => hg.block b hl (fun e => hb.2.1 e.symm))
    exact E.mono h2 fun b hb _ => ⟨hb.1, hb.2.2⟩
  refine ⟨?_, fun j hj => ?_⟩
  · have e : ((List.range (n + 1)).flatMap fun j => E.cells (if j < n then g j else u)) = ((List.range n).flatMap fun j => E.cells (g j)) ++ E.cells u := by
      rw [List.range_succ, List.flatMap_append]
      congr 1
      · rw [List.flatMap_def, List.flatMap_def]
        congr 1
        apply List.map_congr_left
        intro j hj
        rw [if_pos (List.mem_range.1 hj)]
      · simp
    rw [e]
    exact hown
  · by_cases hjn : j < n
    · rw [if_pos hjn]; exact key _ (h.each j hjn)
    · rw [if_neg hjn]; exact key _ hu
/-- the row as a list -/
theorem OwnL.in_ {α : Type} {E : El α} {base : Nat} {w : World} {v : Value} {n : Nat} {g : Nat → α} (h : OwnL E base w v n g) (hnn : n ≤ 140737488355328) :
    ∃ p c, v = .slice p n c ∧ LT.In E w (fun b => base ≤ b) ⟨p, n, c, g⟩ := by
  have hlt := h.own.lt
  have hce := @World.ownsRow.cells _ _ _ _ _ _ _ h.own
  obtain ⟨_, ⟨hv, h0⟩ | ⟨gb, cap, cur, hv, hbg, hh, hnc, hcm, hcs, htake⟩⟩ := id h.own
  · subst h0
    exact ⟨none, 0, hv, LT.In.none_ E w _ none 0 g (Nat.zero_le _) (fun _ => rfl)⟩
  · refine ⟨_, cap, hv, fun hn => ⟨gb, 0, rfl, hbg, (hlt gb (by rw [hv]; rfl)).2, fun j hj r u hu => ?_⟩, fun j hj => E.mono (h.each j hj) fun b hb _ => hb.1, hnc, hnn, hcm, fun h => by cases h⟩
    have hr : r < E.size := by
      rcases Nat.lt_or_ge r E.size with h1 | h1
      · exact h1
      · rw [List.getElem?_eq_none (by rw [E.len]; exact h1)] at hu; cases hu
    have := hce (g := gb) (by rw [hv]; rfl) (j * E.size + r) u (by rw [range_flat_get E g n j r hj hr]; exact hu)
    rw [Go.WideShapes.add_plain] at this
    rw [show (0 : Nat) + j * E.size + r = 0 + (j * E.size + r) by omega]
    exact this
theorem oneCell_flat {α : Type} (E : El α) (x : α) : ∀ u ∈ E.cells x, u.oneCell' = true := E.one x

/-- ints, texts, records, lists -/
def elInt : El Int where
  ty := 3
  size := 1
  cells := fun x => [.int .i64 x]
  len := fun _ => rfl
  one := fun x u hu => by simp only [List.mem_singleton] at hu; subst hu; rfl
  In := fun _ _ x => -9223372036854775808 ≤ x ∧ x ≤ 9223372036854775807
  kept := fun h _ _ => h
  mono := fun h _ => h
def elStr : El ByteArray where
  ty := 9
  size := 1
  cells := fun x => [.string x]
  len := fun _ => rfl
  one := fun x u hu => by simp only [List.mem_singleton] at hu; subst hu; rfl
  In := fun _ _ x => x.size ≤ 140737488355328
  kept := fun h _ _ => h
  mono := fun h _ => h
/-- a value in a row -/
def elVal : El VT where
  ty := 24
  size := 4
  cells := VT.cells
  len := fun _ => rfl
  one := fun x => oneCell_cells x
  In := VT.In
  kept := fun h hs hb => h.kept hs hb
  mono := fun h hb => h.mono hb
/-- a cell of a state: a value's text and items -/
def elCell : El VT where
  ty := 154
  size := 2
  cells := VT.two
  len := fun _ => rfl
  one := fun x u hu => by
    simp only [VT.two, List.mem_cons, List.not_mem_nil, or_false] at hu
    rcases hu with rfl | rfl <;> rfl
  In := VT.In
  kept := fun h hs hb => h.kept hs hb
  mono := fun h hb => h.mono hb
def elRec : El RT where
  ty := 27
  size := 6
  cells := RT.cells
  len := fun _ => rfl
  one := fun x u hu => by
    simp only [RT.cells, List.mem_cons, List.not_mem_nil, or_false] at hu
    rcases hu with rfl | rfl | rfl | rfl | rfl | rfl <;> rfl
  In := RT.In
  kept := fun h hs hb => h.kept hs hb
  mono := fun h hb => h.mono hb
def elRecs : El (LT RT) where
  ty := 36
  size := 1
  cells := fun l => [.slice l.p l.n l.c]
  len := fun _ => rfl
  one := fun x u hu => by simp only [List.mem_singleton] at hu; subst hu; rfl
  In := LT.In elRec
  kept := fun h hs hb => h.kept hs hb
  mono := fun h hb => h.mono hb
/-- a manifest's row: size and sum -/
def elRow : El (Nat × Nat) where
  ty := 110
  size := 2
  cells := fun x => [.int .i64 (x.1 : Int), .int .u32 (x.2 : Int)]
  len := fun _ => rfl
  one := fun x u hu => by
    simp only [List.mem_cons, List.not_mem_nil, or_false] at hu
    rcases hu with rfl | rfl <;> rfl
  In := fun _ _ x => x.1 ≤ 9223372036854775807 ∧ x.2 < 4294967296
  kept := fun h _ _ => h
  mono := fun h _ => h
end Go.Proofs.Ytikfpoabaaiegaa

namespace Go.Proofs.Ytikfpoabaaiegaa
open Go.RowKit
set_option maxRecDepth 8000
/-- yes or no, and which -/
def YesNo (P : Prop) (e : Ending) (w w' : World) : Prop := ∃ r : Bool, e = .returned (.bool r) ∧ (r = true ↔ P) ∧ Below w.heap.size w w'
theorem yn_no {P : Prop} {w w' : World} (h : ¬ P) (hb : Below w.heap.size w w') : YesNo P (.returned (.bool false)) w w' := ⟨false, rfl, ⟨fun e => (by cases e), fun e => absurd e h⟩, hb⟩
theorem yn_yes {P : Prop} {w w' : World} (h : P) (hb : Below w.heap.size w w') : YesNo P (.returned (.bool true)) w w' := ⟨true, rfl, ⟨fun _ => h, fun _ => rfl⟩, hb⟩

set_option maxHeartbeats 1000000 in
theorem yValue (t : VT) : ∀ (u : VT) (w : World) (S R : Nat → Prop), VT.In w S t → VT.In w R u →
    Calls Try.prog 84 #[t.val, u.val] w fun e w' => YesNo (VT.Alike t u) e w w' := by
  induction t with
  | nil => intro u w S R hin; exact hin.elim
  | mk k i s n p c f ih =>
    intro u w S R hin hiu
    obtain ⟨k2, i2, s2, n2, p2, c2, f2, rfl⟩ := hiu.mk_
    by_cases h1 : k = k2
    case neg =>
      have HN := hid (fun h : VT.Alike (.mk k i s n p c f) (.mk k2 i2 s2 n2 p2 c2 f2) => h1 h.1.symm)
      simp only [VT.val, VT.kind_mk, VT.int_mk, VT.text_mk, VT.p_mk, VT.n_mk, VT.c_mk]
      clear hin hiu ih
      go_enter Try.func84, Try.ntmps84
      go_wp2
      go_ret
      exact yn_no HN.out (((Below.refl _ _).alloc (Nat.le_refl _) _).alloc (by simp) _)
    by_cases h2 : i = i2
    case neg =>
      have HN := hid (fun h : VT.Alike (.mk k i s n p c f) (.mk k2 i2 s2 n2 p2 c2 f2) => h2 h.2.1.symm)
      simp only [VT.val, VT.kind_mk, VT.int_mk, VT.text_mk, VT.p_mk, VT.n_mk, VT.c_mk]
      subst h1
      clear hin hiu ih
      go_enter Try.func84, Try.ntmps84
      go_wp2
      go_ret
      exact yn_no HN.out (((Below.refl _ _).alloc (Nat.le_refl _) _).alloc (by simp) _)
    by_cases h3 : s = s2
    case neg =>
      have HN := hid (fun h : VT.Alike (.mk k i s n p c f) (.mk k2 i2 s2 n2 p2 c2 f2) => h3 h.2.2.1.symm)
      have h3b : (s.toList == s2.toList) = false := by
        rw [beq_eq_false_iff_ne]
        intro h
        rw [Go.Lib.toList_data, Go.Lib.toList_data] at h
        exact h3 (ByteArray.ext (Array.ext' h))
      simp only [VT.val, VT.kind_mk, VT.int_mk, VT.text_mk, VT.p_mk, VT.n_mk, VT.c_mk]
      subst h1 h2
      clear hin hiu ih
      go_enter Try.func84, Try.ntmps84
      go_wp2
      go_ret
      exact yn_no HN.out (((Below.refl _ _).alloc (Nat.le_refl _) _).alloc (by simp) _)
    by_cases h4 : n = n2
    case neg =>
      have HN := hid (fun h : VT.Alike (.mk k i s n p c f) (.mk k2 i2 s2 n2 p2 c2 f2) => h4 h.2.2.2.1.symm)
      have h4' : ((n : Int) != (n2 : Int)) = true := by rw [bne_iff_ne]; omega
      simp only [VT.val, VT.kind_mk, VT.int_mk, VT.text_mk, VT.p_mk, VT.n_mk, VT.c_mk]
      subst h1 h2 h3
      clear hin hiu ih
      go_enter Try.func84, Try.ntmps84
      go_wp2
      go_ret
      exact yn_no HN.out (((Below.refl _ _).alloc (Nat.le_refl _) _).alloc (by simp) _)
    subst h1 h2 h3 h4
    have hnn := hin.fit.nn
    simp only [VT.n_mk] at hnn
    simp only [VT.val, VT.kind_mk, VT.int_mk, VT.text_mk, VT.p_mk, VT.n_mk, VT.c_mk]
    have HI : Hid (VT.In w S (.mk k i s n p c f)) := hin
    have HU : Hid (VT.In w R (.mk k i s n p2 c2 f2)) := hiu
    clear hin hiu
    go_enter Try.func84, Try.ntmps84
    go_wp2_with fail
    have hS1 : Box (w.alloc (.cells #[.int .i64 k, .int .i64 i, .string s, .slice p n c] 24)) w.heap.size #[.int .i64 k, .int .i64 i, .string s, .slice p n c] 24 := Box.new _ _ _
    have hS2 := hS1.below ((Below.refl _ _).alloc (Nat.le_refl _) (.cells #[.int .i64 k, .int .i64 i, .string s, .slice p2 n c2] 24))
    have hS3 : Box ((w.alloc (.cells #[.int .i64 k, .int .i64 i, .string s, .slice p n c] 24)).alloc (.cells #[.int .i64 k, .int .i64 i, .string s, .slice p2 n c2] 24)) (w.heap.size + 1) #[.int .i64 k, .int .i64 i, .string s, .slice p2 n c2] 24 := by
      have := Box.new (w.alloc (.cells #[.int .i64 k, .int .i64 i, .string s, .slice p n c] 24)) #[.int .i64 k, .int .i64 i, .string s, .slice p2 n c2] 24
      simpa using this
    have hS4 : Below w.heap.size w ((w.alloc (.cells #[.int .i64 k, .int .i64 i, .string s, .slice p n c] 24)).alloc (.cells #[.int .i64 k, .int .i64 i, .string s, .slice p2 n c2] 24)) := ((Below.refl _ _).alloc (Nat.le_refl _) _).alloc (by simp) _
    go_loopw [5] (fun x wr => ∃ j : Nat, j ≤ n ∧ x = .int .i64 j ∧ (∀ q, q < j → VT.Alike (f q) (f2 q)) ∧ Box wr w.heap.size #[.int .i64 k, .int .i64 i, .string s, .slice p n c] 24 ∧ Box wr (w.heap.size + 1) #[.int .i64 k, .int .i64 i, .string s, .slice p2 n c2] 24 ∧ Below w.heap.size w wr) (fun x _ => n - (intOf x).toNat)
    case atStart => exact ⟨0, Nat.zero_le _, rfl, fun q hq => absurd hq (by omega), hS2, hS3, hS4⟩
    case round =>
      obtain ⟨j, hj, rfl, hA, hB0, hB1, hbel⟩ := hrel
      have HA := hid hA
      clear hA
      clear hS1 hS2 hS3 hS4
      have x3 := hB0.cell 3
      have y3 := hB1.cell 3
      simp at x3 y3
      by_cases hlt : j < n
      · have hlt' : (j : Int) < (n : Int) := by omega
        obtain ⟨bb, o, hp, hSb, hbl, hat⟩ := HI.out.at_ (show 0 < (VT.mk k i s n p c f).n from by simp only [VT.n]; omega)
        obtain ⟨bb2, o2, hp2, hSb2, hbl2, hat2⟩ := HU.out.at_ (show 0 < (VT.mk k i s n p2 c2 f2).n from by simp only [VT.n]; omega)
        simp only [VT.p_mk] at hp hp2
        subst hp hp2
        obtain ⟨a0, a1, a2, a3⟩ := (hat j hlt).kept (hbel.block bb hbl)
        obtain ⟨b0, b1, b2, b3⟩ := (hat2 j hlt).kept (hbel.block bb2 hbl2)
        simp only [VT.item_mk] at a0 a1 a2 a3 b0 b1 b2 b3
        have HC : Hid (∀ W, Below wr.heap.size wr W → Calls Try.prog 84 #[(f j).val, (f2 j).val] W fun e w' => YesNo (VT.Alike (f j) (f2 j)) e W w') := fun W hW =>
          ih j (f2 j) W (fun b => S b ∧ b < w.heap.size) (fun b => R b ∧ b < w.heap.size) ((((HI.out.sub hlt).mono fun b hb hl => ⟨hb, hl⟩).kept hbel.size (fun b hb _ => hbel.block b hb.2)).below hW) ((((HU.out.sub hlt).mono fun b hb hl => ⟨hb, hl⟩).kept hbel.size (fun b hb _ => hbel.block b hb.2)).below hW)
        unfold VT.val at HC
        have HB : Hid (Box wr w.heap.size #[.int .i64 k, .int .i64 i, .string s, .slice (some ⟨bb, o, none⟩) n c] 24 ∧ Box wr (w.heap.size + 1) #[.int .i64 k, .int .i64 i, .string s, .slice (some ⟨bb2, o2, none⟩) n c2] 24) := ⟨hB0, hB1⟩
        have HFG := hid (show True from trivial)
        obtain ⟨xk, xi, xs, xn, xp, xc, xf, hx⟩ := (HI.out.sub hlt).mk_
        obtain ⟨yk, yi, ys, yn, yp, yc, yf, hy⟩ := (HU.out.sub hlt).mk_
        simp only [VT.item_mk] at hx hy
        clear hat hat2 ih HI HU hB0 hB1
        simp only [hx, hy, VT.kind_mk, VT.int_mk, VT.text_mk, VT.p_mk, VT.n_mk, VT.c_mk] at a0 a1 a2 a3 b0 b1 b2 b3
        have HC2 : Hid (∀ W, Below wr.heap.size wr W → Calls Try.prog 84 #[.agg #[.int .i64 xk, .int .i64 xi, .string xs, .slice xp xn xc], .agg #[.int .i64 yk, .int .i64 yi, .string ys, .slice yp yn yc]] W fun e w' => YesNo (VT.Alike (f j) (f2 j)) e W w') := fun W hW => by
          have h := HC.out W hW
          simp only [hx, hy, VT.kind_mk, VT.int_mk, VT.text_mk, VT.p_mk, VT.n_mk, VT.c_mk] at h ⊢
          exact h
        clear hx hy HC HFG
        have HW : Hid (∀ w4, Below wr.heap.size wr.drew w4 → Box w4 w.heap.size #[.int .i64 k, .int .i64 i, .string s, .slice (some ⟨bb, o, none⟩) n c] 24 ∧ Box w4 (w.heap.size + 1) #[.int .i64 k, .int .i64 i, .string s, .slice (some ⟨bb2, o2, none⟩) n c2] 24 ∧ Below w.heap.size w w4) := fun w4 hb4 => by
          have hk : Below wr.heap.size wr w4 := (Below.refl wr.heap.size wr).drew.trans hb4
          exact ⟨HB.out.1.below hk, HB.out.2.below hk, hbel.trans (hk.mono hbel.size)⟩
        go_wp2_with fail
        go_region_with (go_at_call 84; refine (HC2.out _ ?_).mono ?_; exact (Below.refl _ _).drew; intro e w4 hP4; obtain ⟨r4, rfl, hr4, hb4⟩ := hP4)
        all_goals
          cases r4 with
          | false =>
            have HN : Hid (¬ VT.Alike (.mk k i s n (some ⟨bb, o, none⟩) c f) (.mk k i s n (some ⟨bb2, o2, none⟩) c2 f2)) := fun h => absurd (hr4.2 (h.2.2.2.2 j hlt)) (by decide)
            have HBe := hid (HW.out w4 hb4).2.2
            clear hr4 hb4
            go_wp2
            go_ret
            exact yn_no HN.out HBe.out
          | true =>
            have HA2 : Hid (∀ q, q < j + 1 → VT.Alike (f q) (f2 q)) := fun q hq => by
              by_cases h : q < j
              · exact HA.out q h
              · obtain rfl : q = j := by omega
                exact hr4.1 rfl
            have HBe := hid (HW.out w4 hb4)
            clear hr4 hb4
            go_wp2
            go_roundw
            case rel => exact ⟨j + 1, by omega, by go_num, HA2.out, HBe.out.1, HBe.out.2.1, HBe.out.2.2⟩
            case measure => simp [intOf]; omega
      · obtain rfl : j = n := by omega
        clear ih HI HU hB0 hB1
        go_wp2
        go_ret
        exact yn_yes ⟨rfl, rfl, rfl, rfl, HA.out⟩ hbel

theorem str_ne {s s2 : ByteArray} (h : s ≠ s2) : (s.toList == s2.toList) = false := by
  rw [beq_eq_false_iff_ne]
  intro h2
  rw [Go.Lib.toList_data, Go.Lib.toList_data] at h2
  exact h (ByteArray.ext (Array.ext' h2))
theorem int_ne {n m : Nat} (h : n ≠ m) : ((n : Int) != (m : Int)) = true := by rw [bne_iff_ne]; omega
/-- lists of texts -/
def TxsAlike (l u : LT ByteArray) : Prop := u.n = l.n ∧ ∀ j, j < l.n → u.item j = l.item j
set_option maxHeartbeats 2000000 in
theorem yTexts (l u : LT ByteArray) (w : World) (S R : Nat → Prop) (hl : LT.In elStr w S l) (hu : LT.In elStr w R u) :
    Calls Try.prog 86 #[.slice l.p l.n l.c, .slice u.p u.n u.c] w fun e w' => YesNo (TxsAlike l u) e w w' := by
  obtain ⟨p, n, c, f⟩ := l
  obtain ⟨p2, n2, c2, f2⟩ := u
  have hnn := hl.nn
  have H := hid hl
  have H' := hid hu
  simp only at hnn ⊢
  clear hl hu
  by_cases hn : n = n2
  case neg =>
    have hn' := int_ne hn
    have HN : Hid (¬ TxsAlike ⟨p, n, c, f⟩ ⟨p2, n2, c2, f2⟩) := fun h => hn h.1.symm
    go_enter Try.func86, Try.ntmps86
    go_wp2
    go_ret
    exact yn_no HN.out (Below.refl _ _)
  subst hn
  go_enter Try.func86, Try.ntmps86
  go_wp2_with fail
  go_loopw [5] (fun x wr => ∃ j : Nat, j ≤ n ∧ x = .int .i64 j ∧ (∀ q, q < j → f2 q = f q) ∧ Below w.heap.size w wr) (fun x _ => n - (intOf x).toNat)
  case atStart => exact ⟨0, Nat.zero_le _, rfl, fun q hq => absurd hq (by omega), Below.refl _ _⟩
  case round =>
    obtain ⟨j, hj, rfl, hA, hbel⟩ := hrel
    have HA := hid hA
    have HB := hid hbel
    clear hA
    by_cases hlt : j < n
    · have hlt' : (j : Int) < (n : Int) := by omega
      obtain ⟨b1, o1, hp, _, hl1, ha⟩ := H.out.at_ (show 0 < n by omega)
      obtain ⟨b2, o2, hp', _, hl2, ha'⟩ := H'.out.at_ (show 0 < n by omega)
      simp only at hp hp'
      subst hp hp'
      have q1 := ha j hlt 0 _ rfl
      have q2 := ha' j hlt 0 _ rfl
      simp [elStr] at q1 q2
      have d1 := (World.cell?_of_block (a := ⟨b1, o1 + j, none⟩) (hbel.block b1 hl1)).trans q1
      have d2 := (World.cell?_of_block (a := ⟨b2, o2 + j, none⟩) (hbel.block b2 hl2)).trans q2
      clear ha ha' hbel q1 q2
      by_cases hs : f j = f2 j
      · have HA2 : Hid (∀ q, q < j + 1 → f2 q = f q) := fun q hq => by
          by_cases h : q < j
          · exact HA.out q h
          · obtain rfl : q = j := by omega
            exact hs.symm
        rw [← hs] at d2
        clear hs
        go_wp2_with fail
        go_region
        all_goals
          go_wp2
          go_roundw
          case rel => exact ⟨j + 1, by omega, by go_num, HA2.out, HB.out.drew⟩
          case measure => simp [intOf]; omega
      · have hs' := str_ne hs
        have HN : Hid (¬ TxsAlike ⟨some ⟨b1, o1, none⟩, n, c, f⟩ ⟨some ⟨b2, o2, none⟩, n, c2, f2⟩) := fun h => hs (h.2 j hlt).symm
        clear hs
        go_wp2_with fail
        go_region
        all_goals
          go_wp2
          go_ret
          exact yn_no HN.out HB.out.drew
    · obtain rfl : j = n := by omega
      have hlt' : ¬ (j : Int) < (j : Int) := by omega
      clear hbel
      go_wp2
      go_ret
      exact yn_yes ⟨rfl, HA.out⟩ HB.out
end Go.Proofs.Ytikfpoabaaiegaa

namespace Go.Proofs.Ytikfpoabaaiegaa
open Go.RowKit
set_option maxRecDepth 8000
theorem kindB : ∃ i, Kind 47 5 i (.int .u8 0) 1 1 := by
  obtain ⟨i0, hi, hz0, hz1, hz2⟩ := info_parts (show (Try.prog.info? 5).map (fun i => (i.zero, i.size, i.bytes)) = some (some (.int .u8 0), 1, 1) by kernel_rfl)
  exact ⟨i0, Try.underlying47, hi, hz0, hz1, hz2, rfl, by decide⟩
theorem wrap_u64 (x : Int) : IntKind.u64.wrap x = x % 18446744073709551616 := by
  simp [IntKind.wrap, IntKind.bits, IntKind.signed]
/-- a row of one byte -/
theorem row_one (w : World) (x : Int) : (w.alloc (.cells #[.int .u8 x] 5)).ownsRow w.heap.size 5 1 (.slice (some ⟨w.heap.size, 0, none⟩) 1 1) 1 [.int .u8 x] := by
  have h := World.ownsRow_made (base := w.heap.size) (e := 5) (size := 1) w #[.int .u8 x] 1 (Nat.le_refl _) (by unfold maxLen; omega) (by simp)
  refine ⟨by simp, .inr ⟨w.heap.size, 1, #[.int .u8 x], rfl, Nat.le_refl _, ?_, Nat.le_refl _, by unfold maxLen; omega, by simp, by simp⟩⟩
  exact Box.new w _ 5

/-- bytes in a row of the call's own -/
def OwnBy (base : Nat) (w : World) (v : Value) (zs : List Int) : Prop := w.ownsRow base 5 1 v zs.length (zs.map (Value.int .u8))
theorem OwnBy.app {base : Nat} {w w' : World} {v v' : Value} {zs ys : List Int} (_h : OwnBy base w v zs) (ho : w'.ownsRow base 5 1 v' (zs.length + ys.length) (zs.map (Value.int .u8) ++ ys.map (Value.int .u8))) : OwnBy base w' v' (zs ++ ys) := by
  unfold OwnBy
  rw [List.length_append, List.map_append]
  exact ho
theorem OwnBy.below {base : Nat} {w w' : World} {v : Value} {zs : List Int} (h : OwnBy base w v zs) (hb : Below w.heap.size w w') : OwnBy base w' v zs := ownsRow_keep h fun g _ hl => hb.block g hl
theorem OwnBy.slice {base : Nat} {w : World} {v : Value} {zs : List Int} (h : OwnBy base w v zs) (hz : 0 < zs.length) : ∃ b c, v = .slice (some ⟨b, 0, none⟩) zs.length c ∧ base ≤ b ∧ b < w.heap.size ∧ ∀ j u, (zs.map (Value.int .u8))[j]? = some u → w.cell? ((⟨b, 0, none⟩ : Addr).add j) = some u := by
  have hlt := World.ownsRow.lt h
  have hc := @World.ownsRow.cells _ _ _ _ _ _ _ h
  obtain ⟨_, ⟨hv, h0⟩ | ⟨b, cap, cur, hv, hbg, hh, _⟩⟩ := id h
  · omega
  · exact ⟨b, cap, hv, hbg, (hlt b (by rw [hv]; rfl)).2, hc (by rw [hv]; rfl)⟩
end Go.Proofs.Ytikfpoabaaiegaa

namespace Go.Proofs.Ytikfpoabaaiegaa
open Go.RowKit
set_option maxRecDepth 8000

/-- the order of two ints -/
def cmpI (x y : Int) : Int := if x < y then -1 else if y < x then 1 else 0
/-- the order of two texts -/
def cmpS (a b : ByteArray) : Int := Go.Lib.compareBytes a.data.toList b.data.toList

end Go.Proofs.Ytikfpoabaaiegaa
