import Derived.Test.YtneomdiabcpemaaPack0
namespace Go.Proofs.Ytneomdiabcpemaa
open Go.RowKit
set_option maxRecDepth 8000

/-- the mark of a place behind a list -/
def lotN (i : Nat) : Int := if i % 2 = 0 then -7701 else -7702
/-- the value that marks a place -/
def markV (i : Nat) : VT := .mk 1 (lotN i) ⟨#[]⟩ 0 none 0 (fun _ => .nil)

theorem lot_any (i : Nat) (_hi : i ≤ 1000000) (w : World) :
    Calls Try.prog 40 #[.int .i64 (i : Int)] w fun e w' => e = .returned (.int .i64 (lotN i)) ∧ w' = w := by
  by_cases h : i % 2 = 0
  · have h2 : (i : Int).tmod 2 = 0 := by rw [show (i : Int).tmod 2 = ((i % 2 : Nat) : Int) from rfl, h]; rfl
    rw [lotN, if_pos h]
    go_enter Try.func40, Try.ntmps40
    go_wp2
    go_ret
    exact ⟨rfl, rfl⟩
  · have h2 : (i : Int).tmod 2 = 1 := by rw [show (i : Int).tmod 2 = ((i % 2 : Nat) : Int) from rfl, show i % 2 = 1 by omega]; rfl
    rw [lotN, if_neg h]
    go_enter Try.func40, Try.ntmps40
    go_wp2
    go_ret
    exact ⟨rfl, rfl⟩
end Go.Proofs.Ytneomdiabcpemaa

namespace Go.Proofs.Ytneomdiabcpemaa
open Go.RowKit
set_option maxRecDepth 8000

/-- the types of the lists that a room keeps -/
def rmType : Nat → TypeId
  | 0 => 91 | 1 => 92 | 2 => 94 | 3 => 94 | 4 => 91 | 5 => 99 | 6 => 102 | 7 => 77 | 8 => 105 | _ => 29
/-- the cells of an element, and how many places are marked -/
def rmSize : Nat → Nat
  | 0 => 1 | 2 => 4 | 3 => 4 | 4 => 1 | 5 => 2 | _ => 1
def rmCnt : Nat → Nat
  | 0 => 40 | 2 => 40 | 3 => 4 | 4 => 4 | 5 => 40 | _ => 600
/-- the word of a place behind a list -/
def wordN (i : Nat) : ByteArray := if i % 2 = 0 then ⟨#[60, 111, 110, 101, 62]⟩ else ⟨#[60, 116, 119, 111, 62]⟩
/-- the cells of the k-th mark -/
def rmMark : Nat → Nat → List Value
  | 0, k => [.int .i64 (lotN k)] | 2, k => (markV k).cells | 3, k => (markV k).cells | 4, k => [.int .i64 (lotN k)] | 5, k => [.string (wordN k), .slice none 0 0]
  | _, k => [.int .u8 (lotN k % 256)]

/-- a list that was made: block, length, capacity -/
structure Made where
  g : Nat
  n : Nat
  c : Nat
def Made.val (x : Made) : Value := .slice (some ⟨x.g, 0, none⟩) x.n x.c
/-- what a room holds: its block, its ten fields, the lists of each -/
structure RS where
  rb : Nat
  F : Nat → Value
  L : Nat → List Made
/-- the blocks that a later call may write to -/
def RS.hot (R : RS) (b : Nat) : Prop := b = R.rb ∨ ∃ i, i < 10 ∧ (R.F i).ownBlock = some b
/-- all blocks that it looks at -/
def RS.foot (R : RS) (b : Nat) : Prop := R.hot b ∨ ∃ i, i < 10 ∧ ∃ x ∈ R.L i, x.g = b
/-- the marks of a list stand -/
def Marks (w : World) (i : Nat) (x : Made) : Prop := (rmCnt i ≤ x.n ∧ x.n ≤ 281474976710656) ∧ ∀ k, k < rmCnt i → ∀ r, r < rmSize i → w.cell? ⟨x.g, (x.n - rmCnt i + k) * rmSize i + r, none⟩ = (rmMark i k)[r]?
theorem Marks.kept {w w' : World} {i : Nat} {x : Made} (h : Marks w i x) (hb : w'.heap[x.g]? = w.heap[x.g]?) : Marks w' i x :=
  ⟨h.1, fun k hk r hr => (World.cell?_of_block (a := ⟨x.g, _, none⟩) hb).trans (h.2 k hk r hr)⟩

structure Rm (base : Nat) (w : World) (R : RS) : Prop where
  box : Box w R.rb #[R.F 0, R.F 1, R.F 2, R.F 3, R.F 4, R.F 5, R.F 6, R.F 7, R.F 8, R.F 9] 81
  row : ∀ i, i < 10 → w.ownsRow base (rmType i) 1 (R.F i) (R.L i).length ((R.L i).map Made.val)
  low : base ≤ R.rb
  mark : ∀ i, i < 10 → ∀ x ∈ R.L i, Marks w i x ∧ x.g < w.heap.size ∧ ¬ R.hot x.g
  apart : ∀ i j, i < 10 → j < 10 → i ≠ j → ∀ b, (R.F i).ownBlock = some b → (R.F j).ownBlock ≠ some b
  off : ∀ i, i < 10 → (R.F i).ownBlock ≠ some R.rb
  few : ∀ i, i < 10 → (R.L i).length ≤ 100000

theorem Rm.hotlt {base : Nat} {w : World} {R : RS} (h : Rm base w R) {b : Nat} (hb : R.hot b) : b < w.heap.size := by
  rcases hb with rfl | ⟨i, hi, e⟩
  · exact h.box.lt
  · exact ((h.row i hi).lt b e).2
theorem Rm.footlt {base : Nat} {w : World} {R : RS} (h : Rm base w R) {b : Nat} (hb : R.foot b) : b < w.heap.size := by
  rcases hb with hb | ⟨i, hi, x, hx, rfl⟩
  · exact h.hotlt hb
  · exact (h.mark i hi x hx).2.1
theorem Rm.keep {base : Nat} {w w' : World} {R : RS} (h : Rm base w R) (hs : w.heap.size ≤ w'.heap.size) (hb : ∀ b, R.foot b → w'.heap[b]? = w.heap[b]?) : Rm base w' R :=
  ⟨h.box.kept (hb _ (.inl (.inl rfl))), fun i hi => ownsRow_keep (h.row i hi) fun g hg _ => hb g (.inl (.inr ⟨i, hi, hg⟩)), h.low,
    fun i hi x hx => ⟨(h.mark i hi x hx).1.kept (hb _ (.inr ⟨i, hi, x, hx, rfl⟩)), Nat.lt_of_lt_of_le (h.mark i hi x hx).2.1 hs, (h.mark i hi x hx).2.2⟩, h.apart, h.off, h.few⟩
theorem Rm.below {base : Nat} {w w' : World} {R : RS} (h : Rm base w R) (hb : Below w.heap.size w w') : Rm base w' R := h.keep hb.size fun b hf => hb.block b (h.footlt hf)

/-- the room with one list more in field i -/
def RS.put (R : RS) (i : Nat) (v : Value) (x : Made) : RS := ⟨R.rb, fun j => if j = i then v else R.F j, fun j => if j = i then R.L j ++ [x] else R.L j⟩
/-- how rooms follow one another -/
structure Next (w : World) (R R' : RS) : Prop where
  rb : R'.rb = R.rb
  hot : ∀ b, R'.hot b → R.hot b ∨ w.heap.size ≤ b
  foot : ∀ b, R'.foot b → R.foot b ∨ w.heap.size ≤ b
  same : ∀ i, i ≠ 2 → i ≠ 3 → R'.F i = R.F i ∧ R'.L i = R.L i
theorem Next.refl (w : World) (R : RS) : Next w R R := ⟨rfl, fun _ h => .inl h, fun _ h => .inl h, fun _ _ _ => ⟨rfl, rfl⟩⟩
theorem Next.trans {w w' : World} {R S T : RS} (h : Next w R S) (k : Next w' S T) (hs : w.heap.size ≤ w'.heap.size) : Next w R T := by
  refine ⟨k.rb.trans h.rb, fun b hb => ?_, fun b hb => ?_, fun i h2 h3 => ⟨(k.same i h2 h3).1.trans (h.same i h2 h3).1, (k.same i h2 h3).2.trans (h.same i h2 h3).2⟩⟩
  · rcases k.hot b hb with h1 | h1
    · exact h.hot b h1
    · exact .inr (Nat.le_trans hs h1)
  · rcases k.foot b hb with h1 | h1
    · exact h.foot b h1
    · exact .inr (Nat.le_trans hs h1)

/-- a list is kept: its marks stand, the field's row has grown, the field is set -/
theorem Rm.put {base : Nat} {w w1 w2 : World} {R : RS} {i : Nat} {v : Value} {x : Made} (h : Rm base w R) (hi : i < 10) (hm : Marks w i x) (hx : x.g < w.heap.size) (hxf : ¬ R.hot x.g)
    (hb : Below w.heap.size w w1) (hown : w2.ownsRow base (rmType i) 1 v ((R.L i).length + 1) ((R.L i).map Made.val ++ [x.val])) (hg : w1.grownBy w2 (R.F i).ownBlock) (hn : Near w1 (R.F i) v) (hl : (R.L i).length < 100000) :
    Rm base (w2.setCell ⟨R.rb, i, none⟩ v) (R.put i v x) ∧ ((∀ b, (R.put i v x).hot b → R.hot b ∨ w.heap.size ≤ b) ∧ ∀ b, (R.put i v x).foot b → R.foot b ∨ w.heap.size ≤ b ∨ b = x.g) ∧ But R.hot w (w2.setCell ⟨R.rb, i, none⟩ v) := by
  have hs1 := hb.size
  have hs2 := hg.size
  have hrb : R.rb < w.heap.size := h.box.lt
  have hvb : ∀ b, v.ownBlock = some b → (R.F i).ownBlock = some b ∨ w.heap.size ≤ b := by
    intro b e
    rcases hn with h1 | h1
    · exact .inl (h1 ▸ e)
    · exact .inr (Nat.le_trans hs1 (h1 b e))
  have hk2 : ∀ b, b < w.heap.size → (R.F i).ownBlock ≠ some b → w2.heap[b]? = w.heap[b]? := fun b hb1 hb2 => (hg.block b (Nat.lt_of_lt_of_le hb1 hs1) (fun e => hb2 e.symm)).trans (hb.block b hb1)
  have hk3 : ∀ b, b < w.heap.size → (R.F i).ownBlock ≠ some b → b ≠ R.rb → (w2.setCell ⟨R.rb, i, none⟩ v).heap[b]? = w.heap[b]? := fun b hb1 hb2 hb3 => (Below.heap_setCell _ _ _ _ hb3).trans (hk2 b hb1 hb2)
  have hvr : v.ownBlock ≠ some R.rb := by
    intro e
    rcases hvb _ e with h1 | h1
    · exact h.off i hi h1
    · omega
  have hhot : ∀ b, (R.put i v x).hot b → R.hot b ∨ w.heap.size ≤ b := by
    intro b hb
    rcases hb with rfl | ⟨j, hj, e⟩
    · exact .inl (.inl rfl)
    · by_cases hji : j = i
      · simp only [RS.put, hji, if_true] at e
        rcases hvb b e with h1 | h1
        · exact .inl (.inr ⟨i, hi, h1⟩)
        · exact .inr h1
      · simp only [RS.put, if_neg hji] at e
        exact .inl (.inr ⟨j, hj, e⟩)
  have hsz3 : (w2.setCell ⟨R.rb, i, none⟩ v).heap.size = w2.heap.size := by simp [World.setCell]
  refine ⟨⟨?_, ?_, h.low, ?_, ?_, ?_, ?_⟩, ⟨hhot, ?_⟩, ?_⟩
  · have hbox : Box w2 R.rb #[R.F 0, R.F 1, R.F 2, R.F 3, R.F 4, R.F 5, R.F 6, R.F 7, R.F 8, R.F 9] 81 := h.box.kept (hk2 _ hrb (h.off i hi))
    have := hbox.set i v
    have e : #[R.F 0, R.F 1, R.F 2, R.F 3, R.F 4, R.F 5, R.F 6, R.F 7, R.F 8, R.F 9].setIfInBounds i v = #[(R.put i v x).F 0, (R.put i v x).F 1, (R.put i v x).F 2, (R.put i v x).F 3, (R.put i v x).F 4, (R.put i v x).F 5, (R.put i v x).F 6, (R.put i v x).F 7, (R.put i v x).F 8, (R.put i v x).F 9] := by
      obtain rfl | rfl | rfl | rfl | rfl | rfl | rfl | rfl | rfl | rfl : i = 0 ∨ i = 1 ∨ i = 2 ∨ i = 3 ∨ i = 4 ∨ i = 5 ∨ i = 6 ∨ i = 7 ∨ i = 8 ∨ i = 9 := by omega
      all_goals simp [RS.put]
    rw [← e]
    exact this
  · intro j hj
    by_cases hji : j = i
    · subst hji
      simp only [RS.put, if_true]
      have e1 : (R.L j ++ [x]).length = (R.L j).length + 1 := by simp
      have e2 : (R.L j ++ [x]).map Made.val = (R.L j).map Made.val ++ [x.val] := by simp
      rw [e1, e2]
      refine ownsRow_keep hown fun g hg2 _ => Below.heap_setCell _ _ _ _ fun (e : g = R.rb) => hvr (e ▸ hg2)
    · simp only [RS.put, if_neg hji]
      refine ownsRow_keep (h.row j hj) fun g hg2 hl2 => hk3 g hl2 (fun e => h.apart i j hi hj (fun e2 => hji e2.symm) g e hg2) (fun e => h.off j hj (e ▸ hg2))
  · intro j hj y hy
    have key : ∀ z, Marks w j z → z.g < w.heap.size → ¬ R.hot z.g → Marks (w2.setCell ⟨R.rb, i, none⟩ v) j z ∧ z.g < (w2.setCell ⟨R.rb, i, none⟩ v).heap.size ∧ ¬ (R.put i v x).hot z.g := by
      intro z hz1 hz2 hz3
      refine ⟨hz1.kept (hk3 _ hz2 (fun e => hz3 (.inr ⟨i, hi, e⟩)) (fun e => hz3 (.inl e))), by rw [hsz3]; omega, fun hz4 => ?_⟩
      rcases hhot _ hz4 with h1 | h1
      · exact hz3 h1
      · omega
    by_cases hji : j = i
    · subst hji
      simp only [RS.put, if_true, List.mem_append, List.mem_singleton] at hy
      rcases hy with hy | rfl
      · exact key y (h.mark j hj y hy).1 (h.mark j hj y hy).2.1 (h.mark j hj y hy).2.2
      · exact key y hm hx hxf
    · simp only [RS.put, if_neg hji] at hy
      exact key y (h.mark j hj y hy).1 (h.mark j hj y hy).2.1 (h.mark j hj y hy).2.2
  · intro a b ha hb2 hab c hc
    by_cases hai : a = i
    · subst hai
      simp only [RS.put, if_true] at hc
      have hbi : ¬ b = a := fun e => hab e.symm
      simp only [RS.put, if_neg hbi]
      intro e
      rcases hvb c hc with h1 | h1
      · exact h.apart a b ha hb2 hab c h1 e
      · have := ((h.row b hb2).lt c e).2; omega
    · simp only [RS.put, if_neg hai] at hc
      by_cases hbi : b = i
      · subst hbi
        simp only [RS.put, if_true]
        intro e
        rcases hvb c e with h1 | h1
        · exact h.apart b a hb2 ha (fun e => hab e.symm) c h1 hc
        · have := ((h.row a ha).lt c hc).2; omega
      · simp only [RS.put, if_neg hbi]
        exact h.apart a b ha hb2 hab c hc
  · intro j hj
    by_cases hji : j = i
    · simp only [RS.put, hji, if_true]; exact hvr
    · simp only [RS.put, if_neg hji]; exact h.off j hj
  · intro j hj
    by_cases hji : j = i
    · subst hji
      simp only [RS.put, if_true, List.length_append, List.length_singleton]; omega
    · simp only [RS.put, if_neg hji]; exact h.few j hj
  · intro b hb2
    rcases hb2 with hb2 | ⟨j, hj, y, hy, rfl⟩
    · rcases hhot b hb2 with h1 | h1
      · exact .inl (.inl h1)
      · exact .inr (.inl h1)
    · by_cases hji : j = i
      · subst hji
        simp only [RS.put, if_true, List.mem_append, List.mem_singleton] at hy
        rcases hy with hy | rfl
        · exact .inl (.inr ⟨j, hj, y, hy, rfl⟩)
        · exact .inr (.inr rfl)
      · simp only [RS.put, if_neg hji] at hy
        exact .inl (.inr ⟨j, hj, y, hy, rfl⟩)
  · exact ((But.ofBelow hb).grown hg fun k hk _ => .inr ⟨i, hi, hk⟩).setCell (fun _ => .inl rfl) v
end Go.Proofs.Ytneomdiabcpemaa
